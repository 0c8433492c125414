/-
  The program's check of a message's part. Walks; no statement.
-/
import Derived.Test.YtmgmmbgjmnklkaaMsgParts
import Derived.Deep.RegionHeld3
namespace Go.Proofs.Ytmgmmbgjmnklkaa
set_option maxRecDepth 100000
open Go.RowKit
open Pk
set_option linter.unusedVariables false

theorem checkPart_0 (m : Mg) (q : Mad) (F : Nat → Prop) (w : World) (h : MgR F w m q) : Calls Try.prog 70 #[.agg #[.int .i64 m.kind, .int .i64 m.view, .int .i64 m.seq, .int .i64 m.client, .int .i64 m.stamp, .int .i64 m.e.c, .int .i64 m.e.s, .int .i64 m.e.t, .slice q.ea m.e.dig.length q.ec, .slice q.ga m.dig.length q.gc, .slice q.da m.data.length q.dc, .slice q.pa m.proof.length q.pc, .slice q.va m.proven.length q.vc], .int .i64 0] w (Chk (m.partOk 0) 81 w) := by
  have HB := Lib.hid ((Below.refl w.heap.size w).alloc (Nat.le_refl _) (.cells #[.int .i64 m.kind, .int .i64 m.view, .int .i64 m.seq, .int .i64 m.client, .int .i64 m.stamp, .int .i64 m.e.c, .int .i64 m.e.s, .int .i64 m.e.t, .slice q.ea m.e.dig.length q.ec, .slice q.ga m.dig.length q.gc, .slice q.da m.data.length q.dc, .slice q.pa m.proof.length q.pc, .slice q.va m.proven.length q.vc] 28))
  clear h
  have HE := Lib.hid (show m.partOk 0 = wideB m.view from rfl)
  go_enter Try.func70, Try.ntmps70
  go_wp2_with (first
    | (go_at_call 94; refine (below_any _ _ _).mono ?_; rintro e w' ⟨rfl, rfl⟩)
    | (go_at_call 86; refine (need_any _ _).mono ?_; rintro e w' ⟨rfl, ⟨hb, rfl⟩ | ⟨hb, rfl⟩⟩))
  all_goals first
    | contradiction
    | (go_end0; exact Chk.yes (by rw [HE.out]; simp [wideB] at *; omega) HB.out)
    | exact ⟨rfl, Chk.no (by rw [HE.out]; simp [wideB] at *; omega) HB.out⟩

theorem checkPart_1 (m : Mg) (q : Mad) (F : Nat → Prop) (w : World) (h : MgR F w m q) : Calls Try.prog 70 #[.agg #[.int .i64 m.kind, .int .i64 m.view, .int .i64 m.seq, .int .i64 m.client, .int .i64 m.stamp, .int .i64 m.e.c, .int .i64 m.e.s, .int .i64 m.e.t, .slice q.ea m.e.dig.length q.ec, .slice q.ga m.dig.length q.gc, .slice q.da m.data.length q.dc, .slice q.pa m.proof.length q.pc, .slice q.va m.proven.length q.vc], .int .i64 1] w (Chk (m.partOk 1) 81 w) := by
  have HB := Lib.hid ((Below.refl w.heap.size w).alloc (Nat.le_refl _) (.cells #[.int .i64 m.kind, .int .i64 m.view, .int .i64 m.seq, .int .i64 m.client, .int .i64 m.stamp, .int .i64 m.e.c, .int .i64 m.e.s, .int .i64 m.e.t, .slice q.ea m.e.dig.length q.ec, .slice q.ga m.dig.length q.gc, .slice q.da m.data.length q.dc, .slice q.pa m.proof.length q.pc, .slice q.va m.proven.length q.vc] 28))
  clear h
  have HE := Lib.hid (show m.partOk 1 = wideB m.seq from rfl)
  go_enter Try.func70, Try.ntmps70
  go_wp2_with (first
    | (go_at_call 94; refine (below_any _ _ _).mono ?_; rintro e w' ⟨rfl, rfl⟩)
    | (go_at_call 86; refine (need_any _ _).mono ?_; rintro e w' ⟨rfl, ⟨hb, rfl⟩ | ⟨hb, rfl⟩⟩))
  all_goals first
    | contradiction
    | (go_end0; exact Chk.yes (by rw [HE.out]; simp [wideB] at *; omega) HB.out)
    | exact ⟨rfl, Chk.no (by rw [HE.out]; simp [wideB] at *; omega) HB.out⟩

theorem checkPart_2 (m : Mg) (q : Mad) (F : Nat → Prop) (w : World) (h : MgR F w m q) : Calls Try.prog 70 #[.agg #[.int .i64 m.kind, .int .i64 m.view, .int .i64 m.seq, .int .i64 m.client, .int .i64 m.stamp, .int .i64 m.e.c, .int .i64 m.e.s, .int .i64 m.e.t, .slice q.ea m.e.dig.length q.ec, .slice q.ga m.dig.length q.gc, .slice q.da m.data.length q.dc, .slice q.pa m.proof.length q.pc, .slice q.va m.proven.length q.vc], .int .i64 2] w (Chk (m.partOk 2) 81 w) := by
  have HB := Lib.hid ((Below.refl w.heap.size w).alloc (Nat.le_refl _) (.cells #[.int .i64 m.kind, .int .i64 m.view, .int .i64 m.seq, .int .i64 m.client, .int .i64 m.stamp, .int .i64 m.e.c, .int .i64 m.e.s, .int .i64 m.e.t, .slice q.ea m.e.dig.length q.ec, .slice q.ga m.dig.length q.gc, .slice q.da m.data.length q.dc, .slice q.pa m.proof.length q.pc, .slice q.va m.proven.length q.vc] 28))
  clear h
  have HE := Lib.hid (show m.partOk 2 = peerB m.client from rfl)
  go_enter Try.func70, Try.ntmps70
  go_wp2_with (first
    | (go_at_call 94; refine (below_any _ _ _).mono ?_; rintro e w' ⟨rfl, rfl⟩)
    | (go_at_call 86; refine (need_any _ _).mono ?_; rintro e w' ⟨rfl, ⟨hb, rfl⟩ | ⟨hb, rfl⟩⟩))
  all_goals first
    | contradiction
    | (go_end0; exact Chk.yes (by rw [HE.out]; simp [peerB] at *; omega) HB.out)
    | exact ⟨rfl, Chk.no (by rw [HE.out]; simp [peerB] at *; omega) HB.out⟩

theorem checkPart_3 (m : Mg) (q : Mad) (F : Nat → Prop) (w : World) (h : MgR F w m q) : Calls Try.prog 70 #[.agg #[.int .i64 m.kind, .int .i64 m.view, .int .i64 m.seq, .int .i64 m.client, .int .i64 m.stamp, .int .i64 m.e.c, .int .i64 m.e.s, .int .i64 m.e.t, .slice q.ea m.e.dig.length q.ec, .slice q.ga m.dig.length q.gc, .slice q.da m.data.length q.dc, .slice q.pa m.proof.length q.pc, .slice q.va m.proven.length q.vc], .int .i64 3] w (Chk (m.partOk 3) 81 w) := by
  have HB := Lib.hid ((Below.refl w.heap.size w).alloc (Nat.le_refl _) (.cells #[.int .i64 m.kind, .int .i64 m.view, .int .i64 m.seq, .int .i64 m.client, .int .i64 m.stamp, .int .i64 m.e.c, .int .i64 m.e.s, .int .i64 m.e.t, .slice q.ea m.e.dig.length q.ec, .slice q.ga m.dig.length q.gc, .slice q.da m.data.length q.dc, .slice q.pa m.proof.length q.pc, .slice q.va m.proven.length q.vc] 28))
  clear h
  have HE := Lib.hid (show m.partOk 3 = wideB m.stamp from rfl)
  go_enter Try.func70, Try.ntmps70
  go_wp2_with (first
    | (go_at_call 94; refine (below_any _ _ _).mono ?_; rintro e w' ⟨rfl, rfl⟩)
    | (go_at_call 86; refine (need_any _ _).mono ?_; rintro e w' ⟨rfl, ⟨hb, rfl⟩ | ⟨hb, rfl⟩⟩))
  all_goals first
    | contradiction
    | (go_end0; exact Chk.yes (by rw [HE.out]; simp [wideB] at *; omega) HB.out)
    | exact ⟨rfl, Chk.no (by rw [HE.out]; simp [wideB] at *; omega) HB.out⟩

theorem checkPart_4 (m : Mg) (q : Mad) (F : Nat → Prop) (w : World) (h : MgR F w m q) : Calls Try.prog 70 #[.agg #[.int .i64 m.kind, .int .i64 m.view, .int .i64 m.seq, .int .i64 m.client, .int .i64 m.stamp, .int .i64 m.e.c, .int .i64 m.e.s, .int .i64 m.e.t, .slice q.ea m.e.dig.length q.ec, .slice q.ga m.dig.length q.gc, .slice q.da m.data.length q.dc, .slice q.pa m.proof.length q.pc, .slice q.va m.proven.length q.vc], .int .i64 4] w (Chk (m.partOk 4) 81 w) := by
  have HB := Lib.hid ((Below.refl w.heap.size w).alloc (Nat.le_refl _) (.cells #[.int .i64 m.kind, .int .i64 m.view, .int .i64 m.seq, .int .i64 m.client, .int .i64 m.stamp, .int .i64 m.e.c, .int .i64 m.e.s, .int .i64 m.e.t, .slice q.ea m.e.dig.length q.ec, .slice q.ga m.dig.length q.gc, .slice q.da m.data.length q.dc, .slice q.pa m.proof.length q.pc, .slice q.va m.proven.length q.vc] 28))
  have HE := Lib.hid (show m.partOk 4 = m.e.ok from rfl)
  have HC := Lib.hid (checkEntry_any m.e.c m.e.s m.e.t q.ea m.e.dig.length q.ec m.e.dig (w.alloc (.cells #[.int .i64 m.kind, .int .i64 m.view, .int .i64 m.seq, .int .i64 m.client, .int .i64 m.stamp, .int .i64 m.e.c, .int .i64 m.e.s, .int .i64 m.e.t, .slice q.ea m.e.dig.length q.ec, .slice q.ga m.dig.length q.gc, .slice q.da m.data.length q.dc, .slice q.pa m.proof.length q.pc, .slice q.va m.proven.length q.vc] 28)) rfl)
  clear h
  generalize m.e.ok = eo at *
  generalize m.partOk 4 = po at *
  go_enter Try.func70, Try.ntmps70
  go_wp2_with fail
  refine HC.out.mono ?_
  rintro e w2 ⟨hb2, ⟨hd2, rfl⟩ | ⟨hd2, rfl⟩⟩
  · go_wp2_with fail
    go_end0
    exact Chk.yes (by rw [HE.out]; exact hd2) (below_next HB.out hb2 HB.out.size)
  · exact ⟨rfl, Chk.no (by rw [HE.out]; exact hd2) (below_next HB.out hb2 HB.out.size)⟩

theorem checkPart_5 (m : Mg) (q : Mad) (F : Nat → Prop) (w : World) (h : MgR F w m q) : Calls Try.prog 70 #[.agg #[.int .i64 m.kind, .int .i64 m.view, .int .i64 m.seq, .int .i64 m.client, .int .i64 m.stamp, .int .i64 m.e.c, .int .i64 m.e.s, .int .i64 m.e.t, .slice q.ea m.e.dig.length q.ec, .slice q.ga m.dig.length q.gc, .slice q.da m.data.length q.dc, .slice q.pa m.proof.length q.pc, .slice q.va m.proven.length q.vc], .int .i64 5] w (Chk (m.partOk 5) 81 w) := by
  have HB := Lib.hid ((Below.refl w.heap.size w).alloc (Nat.le_refl _) (.cells #[.int .i64 m.kind, .int .i64 m.view, .int .i64 m.seq, .int .i64 m.client, .int .i64 m.stamp, .int .i64 m.e.c, .int .i64 m.e.s, .int .i64 m.e.t, .slice q.ea m.e.dig.length q.ec, .slice q.ga m.dig.length q.gc, .slice q.da m.data.length q.dc, .slice q.pa m.proof.length q.pc, .slice q.va m.proven.length q.vc] 28))
  clear h
  have HE := Lib.hid (show m.partOk 5 = decide ((m.dig.length : Int) = 32) by
    rw [show decide ((m.dig.length : Int) = 32) = decide (m.dig.length = 32) from decide_eq_decide.2 (by omega)]; rfl)
  go_enter Try.func70, Try.ntmps70
  go_wp2_with (first
    | (go_at_call 94; refine (below_any _ _ _).mono ?_; rintro e w' ⟨rfl, rfl⟩)
    | (go_at_call 86; refine (need_any _ _).mono ?_; rintro e w' ⟨rfl, ⟨hb, rfl⟩ | ⟨hb, rfl⟩⟩))
  all_goals first
    | contradiction
    | (go_end0; exact Chk.yes (by rw [HE.out]; simp at *; omega) HB.out)
    | exact ⟨rfl, Chk.no (by rw [HE.out]; simp at *; omega) HB.out⟩

theorem checkPart_6 (m : Mg) (q : Mad) (F : Nat → Prop) (w : World) (h : MgR F w m q) : Calls Try.prog 70 #[.agg #[.int .i64 m.kind, .int .i64 m.view, .int .i64 m.seq, .int .i64 m.client, .int .i64 m.stamp, .int .i64 m.e.c, .int .i64 m.e.s, .int .i64 m.e.t, .slice q.ea m.e.dig.length q.ec, .slice q.ga m.dig.length q.gc, .slice q.da m.data.length q.dc, .slice q.pa m.proof.length q.pc, .slice q.va m.proven.length q.vc], .int .i64 6] w (Chk (m.partOk 6) 81 w) := by
  have HB := Lib.hid ((Below.refl w.heap.size w).alloc (Nat.le_refl _) (.cells #[.int .i64 m.kind, .int .i64 m.view, .int .i64 m.seq, .int .i64 m.client, .int .i64 m.stamp, .int .i64 m.e.c, .int .i64 m.e.s, .int .i64 m.e.t, .slice q.ea m.e.dig.length q.ec, .slice q.ga m.dig.length q.gc, .slice q.da m.data.length q.dc, .slice q.pa m.proof.length q.pc, .slice q.va m.proven.length q.vc] 28))
  clear h
  have HE := Lib.hid (show m.partOk 6 = decide (m.data.length ≤ maxDataN m.kind) from rfl)
  have HM := Lib.hid (fun n => (maxData_any m.kind ((w.alloc (.cells #[.int .i64 m.kind, .int .i64 m.view, .int .i64 m.seq, .int .i64 m.client, .int .i64 m.stamp, .int .i64 m.e.c, .int .i64 m.e.s, .int .i64 m.e.t, .slice q.ea m.e.dig.length q.ec, .slice q.ga m.dig.length q.gc, .slice q.da m.data.length q.dc, .slice q.pa m.proof.length q.pc, .slice q.va m.proven.length q.vc] 28)).drewN n)))
  generalize maxDataN m.kind = md at *
  by_cases hle : m.data.length ≤ md
  · have HD := Lib.hid (show decide (m.data.length ≤ md) = true by simp; omega)
    have HN := Lib.hid (fun W => show Calls Try.prog 86 #[.bool (decide (m.data.length ≤ md))] W _ from by rw [HD.out]; exact need_yes W)
    have HK := Lib.hid (Bk.new w 28 [.int .i64 m.kind, .int .i64 m.view, .int .i64 m.seq, .int .i64 m.client, .int .i64 m.stamp, .int .i64 m.e.c, .int .i64 m.e.s, .int .i64 m.e.t, .slice q.ea m.e.dig.length q.ec, .slice q.ga m.dig.length q.gc, .slice q.da m.data.length q.dc, .slice q.pa m.proof.length q.pc, .slice q.va m.proven.length q.vc])
    clear hle
    go_enter Try.func70, Try.ntmps70
    go_wp2_with fail
    refine wp_region_held_drew (S := fun w' => w'.cell? ⟨w.heap.size, 0, none⟩ = some (.int .i64 m.kind) ∧ w'.cell? ⟨w.heap.size, 10, none⟩ = some (.slice q.da m.data.length q.dc)) (by kernel_rfl) (⟨(bk_drew HK.out).at_ (i := 0) rfl, (bk_drew HK.out).at_ (i := 10) rfl⟩) (fun hHeld => ?_)
    refine wpAnyH_take (i := 0) (oi := ({ dst := some 43, op := Op.fieldAddr 28 (Operand.tmp 2) 7, type := 0, pos := "check.go:30", after := #[], guard := none } : Oper)) (v := ?_) rfl (by kernel_rfl) (by kernel_rfl) (by kernel_rfl) (fun _ _ _ h => h) (Or.inl ⟨by rfl, ?_⟩) (by assumption) ?_
    rotate_left
    · intro w hSw; (try dsimp only at hSw); go_simp; first | done | with_reducible rfl
    try simp only [Act.put, List.setIfInBounds_toArray, List.set_cons_zero, List.set_cons_succ]
    refine wpAnyH_take (i := 1) (oi := ({ dst := some 44, op := Op.load 22 (Operand.tmp 43), type := 22, pos := "check.go:30", after := #[{ on := 0, ground := Ground.data }], guard := none } : Oper)) (v := ?_) rfl (by kernel_rfl) (by kernel_rfl) (by kernel_rfl) (fun _ _ _ h => h) (Or.inl ⟨by rfl, ?_⟩) (by assumption) ?_
    rotate_left
    · rintro w ⟨k0, k1⟩; (try dsimp only); go_simp; first | done | with_reducible rfl
    try simp only [Act.put, List.setIfInBounds_toArray, List.set_cons_zero, List.set_cons_succ]
    refine wpAnyH_take (i := 2) (oi := ({ dst := some 45, op := Op.call { callee := Callee.builtin Builtin.len, args := #[Operand.tmp 44], argTypes := #[22] }, type := 3, pos := "check.go:30", after := #[{ on := 1, ground := Ground.data }], guard := none } : Oper)) (v := ?_) rfl (by kernel_rfl) (by kernel_rfl) (by kernel_rfl) (fun _ _ _ h => h) (Or.inl ⟨by rfl, ?_⟩) (by assumption) ?_
    rotate_left
    · intro w hSw; (try dsimp only at hSw); go_simp; first | done | with_reducible rfl
    try simp only [Act.put, List.setIfInBounds_toArray, List.set_cons_zero, List.set_cons_succ]
    refine wpAnyH_take (i := 3) (oi := ({ dst := some 46, op := Op.fieldAddr 28 (Operand.tmp 2) 0, type := 0, pos := "check.go:30", after := #[], guard := none } : Oper)) (v := ?_) rfl (by kernel_rfl) (by kernel_rfl) (by kernel_rfl) (fun _ _ _ h => h) (Or.inl ⟨by rfl, ?_⟩) (by assumption) ?_
    rotate_left
    · intro w hSw; (try dsimp only at hSw); go_simp; first | done | with_reducible rfl
    try simp only [Act.put, List.setIfInBounds_toArray, List.set_cons_zero, List.set_cons_succ]
    refine wpAnyH_take (i := 4) (oi := ({ dst := some 47, op := Op.load 3 (Operand.tmp 46), type := 3, pos := "check.go:30", after := #[{ on := 3, ground := Ground.data }], guard := none } : Oper)) (v := ?_) rfl (by kernel_rfl) (by kernel_rfl) (by kernel_rfl) (fun _ _ _ h => h) (Or.inl ⟨by rfl, ?_⟩) (by assumption) ?_
    rotate_left
    · rintro w ⟨k0, k1⟩; (try dsimp only); go_simp; first | done | with_reducible rfl
    try simp only [Act.put, List.setIfInBounds_toArray, List.set_cons_zero, List.set_cons_succ]
    refine wpAnyH_ready (rs := [5]) (by kernel_rfl) (by simp) ?_
    refine AllReadyH.cons (o := ({ dst := some 48, op := Op.call { callee := Callee.value (Operand.func 105), args := #[Operand.tmp 47], argTypes := #[3] }, type := 3, pos := "check.go:30", after := #[{ on := 4, ground := Ground.data }], guard := none } : Oper)) rfl (fun K hK => ?_) AllReadyH.nil
    go_simp
    refine (HM.out _).mono ?_
    rintro e w1 ⟨rfl, rfl⟩
    go_wp2_with fail
    refine hK.out _ _ (⟨(bk_drew HK.out).at_ (i := 0) rfl, (bk_drew HK.out).at_ (i := 10) rfl⟩) (fun hHeld => ?_)
    clear hK K
    try simp only [Act.put, List.setIfInBounds_toArray, List.set_cons_zero, List.set_cons_succ]
    refine wpAnyH_take (i := 6) (oi := ({ dst := some 49, op := Op.binOp BinOp.leq 3 (Operand.tmp 45) (Operand.tmp 48) 3, type := 4, pos := "check.go:30", after := #[{ on := 2, ground := Ground.data }, { on := 5, ground := Ground.data }], guard := none } : Oper)) (v := ?_) rfl (by kernel_rfl) (by kernel_rfl) (by kernel_rfl) (fun _ _ _ h => h) (Or.inl ⟨by rfl, ?_⟩) (by assumption) ?_
    rotate_left
    · intro w hSw; (try dsimp only at hSw); go_simp; first | done | with_reducible rfl
    try simp only [Act.put, List.setIfInBounds_toArray, List.set_cons_zero, List.set_cons_succ]
    refine wpAnyH_ready (rs := [7]) (by kernel_rfl) (by simp) ?_
    refine AllReadyH.cons (o := ({ dst := some 50, op := Op.call { callee := Callee.value (Operand.func 86), args := #[Operand.tmp 49], argTypes := #[4] }, type := 0, pos := "check.go:30", after := #[{ on := 6, ground := Ground.data }, { on := 5, ground := Ground.chain }], guard := none } : Oper)) rfl (fun K hK => ?_) AllReadyH.nil
    go_simp
    refine (HN.out _).mono ?_
    rintro e w1 ⟨rfl, rfl⟩
    go_wp2_with fail
    refine hK.out _ _ (⟨(bk_drew HK.out).at_ (i := 0) rfl, (bk_drew HK.out).at_ (i := 10) rfl⟩) (fun hHeld => ?_)
    clear hK K
    try simp only [Act.put, List.setIfInBounds_toArray, List.set_cons_zero, List.set_cons_succ]
    refine wpAnyH_done (by kernel_rfl) ?_ _
    go_end0
    exact Chk.yes (by rw [HE.out]; exact HD.out) (below_drew HB.out)
  · have HD := Lib.hid (show decide (m.data.length ≤ md) = false by simp; omega)
    have HN := Lib.hid (fun W => show Calls Try.prog 86 #[.bool (decide (m.data.length ≤ md))] W _ from by rw [HD.out]; exact need_no W)
    have HK := Lib.hid (Bk.new w 28 [.int .i64 m.kind, .int .i64 m.view, .int .i64 m.seq, .int .i64 m.client, .int .i64 m.stamp, .int .i64 m.e.c, .int .i64 m.e.s, .int .i64 m.e.t, .slice q.ea m.e.dig.length q.ec, .slice q.ga m.dig.length q.gc, .slice q.da m.data.length q.dc, .slice q.pa m.proof.length q.pc, .slice q.va m.proven.length q.vc])
    clear hle
    go_enter Try.func70, Try.ntmps70
    go_wp2_with fail
    refine wp_region_held_drew (S := fun w' => w'.cell? ⟨w.heap.size, 0, none⟩ = some (.int .i64 m.kind) ∧ w'.cell? ⟨w.heap.size, 10, none⟩ = some (.slice q.da m.data.length q.dc)) (by kernel_rfl) (⟨(bk_drew HK.out).at_ (i := 0) rfl, (bk_drew HK.out).at_ (i := 10) rfl⟩) (fun hHeld => ?_)
    refine wpAnyH_take (i := 0) (oi := ({ dst := some 43, op := Op.fieldAddr 28 (Operand.tmp 2) 7, type := 0, pos := "check.go:30", after := #[], guard := none } : Oper)) (v := ?_) rfl (by kernel_rfl) (by kernel_rfl) (by kernel_rfl) (fun _ _ _ h => h) (Or.inl ⟨by rfl, ?_⟩) (by assumption) ?_
    rotate_left
    · intro w hSw; (try dsimp only at hSw); go_simp; first | done | with_reducible rfl
    try simp only [Act.put, List.setIfInBounds_toArray, List.set_cons_zero, List.set_cons_succ]
    refine wpAnyH_take (i := 1) (oi := ({ dst := some 44, op := Op.load 22 (Operand.tmp 43), type := 22, pos := "check.go:30", after := #[{ on := 0, ground := Ground.data }], guard := none } : Oper)) (v := ?_) rfl (by kernel_rfl) (by kernel_rfl) (by kernel_rfl) (fun _ _ _ h => h) (Or.inl ⟨by rfl, ?_⟩) (by assumption) ?_
    rotate_left
    · rintro w ⟨k0, k1⟩; (try dsimp only); go_simp; first | done | with_reducible rfl
    try simp only [Act.put, List.setIfInBounds_toArray, List.set_cons_zero, List.set_cons_succ]
    refine wpAnyH_take (i := 2) (oi := ({ dst := some 45, op := Op.call { callee := Callee.builtin Builtin.len, args := #[Operand.tmp 44], argTypes := #[22] }, type := 3, pos := "check.go:30", after := #[{ on := 1, ground := Ground.data }], guard := none } : Oper)) (v := ?_) rfl (by kernel_rfl) (by kernel_rfl) (by kernel_rfl) (fun _ _ _ h => h) (Or.inl ⟨by rfl, ?_⟩) (by assumption) ?_
    rotate_left
    · intro w hSw; (try dsimp only at hSw); go_simp; first | done | with_reducible rfl
    try simp only [Act.put, List.setIfInBounds_toArray, List.set_cons_zero, List.set_cons_succ]
    refine wpAnyH_take (i := 3) (oi := ({ dst := some 46, op := Op.fieldAddr 28 (Operand.tmp 2) 0, type := 0, pos := "check.go:30", after := #[], guard := none } : Oper)) (v := ?_) rfl (by kernel_rfl) (by kernel_rfl) (by kernel_rfl) (fun _ _ _ h => h) (Or.inl ⟨by rfl, ?_⟩) (by assumption) ?_
    rotate_left
    · intro w hSw; (try dsimp only at hSw); go_simp; first | done | with_reducible rfl
    try simp only [Act.put, List.setIfInBounds_toArray, List.set_cons_zero, List.set_cons_succ]
    refine wpAnyH_take (i := 4) (oi := ({ dst := some 47, op := Op.load 3 (Operand.tmp 46), type := 3, pos := "check.go:30", after := #[{ on := 3, ground := Ground.data }], guard := none } : Oper)) (v := ?_) rfl (by kernel_rfl) (by kernel_rfl) (by kernel_rfl) (fun _ _ _ h => h) (Or.inl ⟨by rfl, ?_⟩) (by assumption) ?_
    rotate_left
    · rintro w ⟨k0, k1⟩; (try dsimp only); go_simp; first | done | with_reducible rfl
    try simp only [Act.put, List.setIfInBounds_toArray, List.set_cons_zero, List.set_cons_succ]
    refine wpAnyH_ready (rs := [5]) (by kernel_rfl) (by simp) ?_
    refine AllReadyH.cons (o := ({ dst := some 48, op := Op.call { callee := Callee.value (Operand.func 105), args := #[Operand.tmp 47], argTypes := #[3] }, type := 3, pos := "check.go:30", after := #[{ on := 4, ground := Ground.data }], guard := none } : Oper)) rfl (fun K hK => ?_) AllReadyH.nil
    go_simp
    refine (HM.out _).mono ?_
    rintro e w1 ⟨rfl, rfl⟩
    go_wp2_with fail
    refine hK.out _ _ (⟨(bk_drew HK.out).at_ (i := 0) rfl, (bk_drew HK.out).at_ (i := 10) rfl⟩) (fun hHeld => ?_)
    clear hK K
    try simp only [Act.put, List.setIfInBounds_toArray, List.set_cons_zero, List.set_cons_succ]
    refine wpAnyH_take (i := 6) (oi := ({ dst := some 49, op := Op.binOp BinOp.leq 3 (Operand.tmp 45) (Operand.tmp 48) 3, type := 4, pos := "check.go:30", after := #[{ on := 2, ground := Ground.data }, { on := 5, ground := Ground.data }], guard := none } : Oper)) (v := ?_) rfl (by kernel_rfl) (by kernel_rfl) (by kernel_rfl) (fun _ _ _ h => h) (Or.inl ⟨by rfl, ?_⟩) (by assumption) ?_
    rotate_left
    · intro w hSw; (try dsimp only at hSw); go_simp; first | done | with_reducible rfl
    try simp only [Act.put, List.setIfInBounds_toArray, List.set_cons_zero, List.set_cons_succ]
    refine wpAnyH_ready (rs := [7]) (by kernel_rfl) (by simp) ?_
    refine AllReadyH.cons (o := ({ dst := some 50, op := Op.call { callee := Callee.value (Operand.func 86), args := #[Operand.tmp 49], argTypes := #[4] }, type := 0, pos := "check.go:30", after := #[{ on := 6, ground := Ground.data }, { on := 5, ground := Ground.chain }], guard := none } : Oper)) rfl (fun K hK => ?_) AllReadyH.nil
    go_simp
    refine (HN.out _).mono ?_
    rintro e w1 ⟨rfl, rfl⟩
    exact ⟨rfl, Chk.no (by rw [HE.out]; exact HD.out) (below_drew HB.out)⟩

theorem checkPart_7 (m : Mg) (q : Mad) (F : Nat → Prop) (w : World) (h : MgR F w m q) : Calls Try.prog 70 #[.agg #[.int .i64 m.kind, .int .i64 m.view, .int .i64 m.seq, .int .i64 m.client, .int .i64 m.stamp, .int .i64 m.e.c, .int .i64 m.e.s, .int .i64 m.e.t, .slice q.ea m.e.dig.length q.ec, .slice q.ga m.dig.length q.gc, .slice q.da m.data.length q.dc, .slice q.pa m.proof.length q.pc, .slice q.va m.proven.length q.vc], .int .i64 7] w (Chk (m.partOk 7) 81 w) := by
  have HB := Lib.hid ((Below.refl w.heap.size w).alloc (Nat.le_refl _) (.cells #[.int .i64 m.kind, .int .i64 m.view, .int .i64 m.seq, .int .i64 m.client, .int .i64 m.stamp, .int .i64 m.e.c, .int .i64 m.e.s, .int .i64 m.e.t, .slice q.ea m.e.dig.length q.ec, .slice q.ga m.dig.length q.gc, .slice q.da m.data.length q.dc, .slice q.pa m.proof.length q.pc, .slice q.va m.proven.length q.vc] 28))
  have HE := Lib.hid (show m.partOk 7 = ltsOk m.proof from rfl)
  have HC := Lib.hid (checkLetters_any q.pa q.pc m.proof F (w.alloc (.cells #[.int .i64 m.kind, .int .i64 m.view, .int .i64 m.seq, .int .i64 m.client, .int .i64 m.stamp, .int .i64 m.e.c, .int .i64 m.e.s, .int .i64 m.e.t, .slice q.ea m.e.dig.length q.ec, .slice q.ga m.dig.length q.gc, .slice q.da m.data.length q.dc, .slice q.pa m.proof.length q.pc, .slice q.va m.proven.length q.vc] 28)) (h.p.below HB.out))
  clear h
  generalize m.partOk 7 = po at *
  go_enter Try.func70, Try.ntmps70
  go_wp2_with fail
  refine HC.out.mono ?_
  rintro e w2 ⟨hb2, ⟨hd2, rfl⟩ | ⟨hd2, rfl⟩⟩
  · go_wp2_with fail
    go_end0
    exact Chk.yes (by rw [HE.out]; exact hd2) (below_next HB.out hb2 HB.out.size)
  · exact ⟨rfl, Chk.no (by rw [HE.out]; exact hd2) (below_next HB.out hb2 HB.out.size)⟩

theorem checkPart_8 (m : Mg) (q : Mad) (F : Nat → Prop) (w : World) (h : MgR F w m q) : Calls Try.prog 70 #[.agg #[.int .i64 m.kind, .int .i64 m.view, .int .i64 m.seq, .int .i64 m.client, .int .i64 m.stamp, .int .i64 m.e.c, .int .i64 m.e.s, .int .i64 m.e.t, .slice q.ea m.e.dig.length q.ec, .slice q.ga m.dig.length q.gc, .slice q.da m.data.length q.dc, .slice q.pa m.proof.length q.pc, .slice q.va m.proven.length q.vc], .int .i64 8] w (Chk (m.partOk 8) 81 w) := by
  have HB := Lib.hid ((Below.refl w.heap.size w).alloc (Nat.le_refl _) (.cells #[.int .i64 m.kind, .int .i64 m.view, .int .i64 m.seq, .int .i64 m.client, .int .i64 m.stamp, .int .i64 m.e.c, .int .i64 m.e.s, .int .i64 m.e.t, .slice q.ea m.e.dig.length q.ec, .slice q.ga m.dig.length q.gc, .slice q.da m.data.length q.dc, .slice q.pa m.proof.length q.pc, .slice q.va m.proven.length q.vc] 28))
  have HE := Lib.hid (show m.partOk 8 = pvsOk m.proven from rfl)
  have HC := Lib.hid (checkListP_any q.va q.vc m.proven F (w.alloc (.cells #[.int .i64 m.kind, .int .i64 m.view, .int .i64 m.seq, .int .i64 m.client, .int .i64 m.stamp, .int .i64 m.e.c, .int .i64 m.e.s, .int .i64 m.e.t, .slice q.ea m.e.dig.length q.ec, .slice q.ga m.dig.length q.gc, .slice q.da m.data.length q.dc, .slice q.pa m.proof.length q.pc, .slice q.va m.proven.length q.vc] 28)) (h.v.below HB.out))
  clear h
  generalize m.partOk 8 = po at *
  go_enter Try.func70, Try.ntmps70
  go_wp2_with fail
  refine HC.out.mono ?_
  rintro e w2 ⟨hb2, ⟨hd2, rfl⟩ | ⟨hd2, rfl⟩⟩
  · go_wp2_with fail
    go_end0
    exact Chk.yes (by rw [HE.out]; exact hd2) (below_next HB.out hb2 HB.out.size)
  · exact ⟨rfl, Chk.no (by rw [HE.out]; exact hd2) (below_next HB.out hb2 HB.out.size)⟩

theorem checkPart_any (m : Mg) (q : Mad) (p : Nat) (hp : p < 9) (F : Nat → Prop) (w : World) (h : MgR F w m q) : Calls Try.prog 70 #[.agg #[.int .i64 m.kind, .int .i64 m.view, .int .i64 m.seq, .int .i64 m.client, .int .i64 m.stamp, .int .i64 m.e.c, .int .i64 m.e.s, .int .i64 m.e.t, .slice q.ea m.e.dig.length q.ec, .slice q.ga m.dig.length q.gc, .slice q.da m.data.length q.dc, .slice q.pa m.proof.length q.pc, .slice q.va m.proven.length q.vc], pv p] w (Chk (m.partOk p) 81 w) := by
  match p, hp with
  | 0, _ => exact checkPart_0 m q F w h
  | 1, _ => exact checkPart_1 m q F w h
  | 2, _ => exact checkPart_2 m q F w h
  | 3, _ => exact checkPart_3 m q F w h
  | 4, _ => exact checkPart_4 m q F w h
  | 5, _ => exact checkPart_5 m q F w h
  | 6, _ => exact checkPart_6 m q F w h
  | 7, _ => exact checkPart_7 m q F w h
  | 8, _ => exact checkPart_8 m q F w h
end Go.Proofs.Ytmgmmbgjmnklkaa
