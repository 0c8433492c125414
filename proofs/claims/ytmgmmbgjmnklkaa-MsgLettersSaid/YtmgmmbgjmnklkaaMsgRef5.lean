/-
  The reference's ReadLetter. A walk; no statement.
-/
import Derived.Test.YtmgmmbgjmnklkaaMsgRef4
namespace Go.Proofs.Ytmgmmbgjmnklkaa
set_option maxRecDepth 100000
open Go.RowKit
open Pk
set_option linter.unusedVariables false

set_option maxHeartbeats 3200000 in
theorem refReadLetter_any (L : Option Addr) (ln lc : Nat) (l : List UInt8) (w : World) (h : Sl w L ln lc l) (hn : ln ≤ 4294967296) :
    Calls Try.prog 29 #[.slice L ln lc] w (DecL l w) := by
  have hB := (Below.refl w.heap.size w).alloc (Nat.le_refl _) (.cells #[.int .i64 0, .int .i64 0, .int .i64 0, .slice none 0 0, .slice none 0 0] 46)
  have HB := Lib.hid hB
  have HK := Lib.hid (Bk.new w 46 [.int .i64 0, .int .i64 0, .int .i64 0, .slice none 0 0, .slice none 0 0])
  have HC := Lib.hid (refFields_any L ln lc l 3 3 _ (h.below hB) hn (by omega))
  have hlt0 := (Bk.new w 46 [.int .i64 0, .int .i64 0, .int .i64 0, .slice none 0 0, .slice none 0 0]).lt
  have HLT := Lib.hid hlt0
  clear h hn hB hlt0
  go_enter Try.func29, Try.ntmps29
  go_wp2_with fail
  refine HC.out.mono ?_
  rintro e w2 ⟨hb2, ⟨f0, rest, vs, hf, hv, A, c, B, d, rfl, hof, hoi⟩ | ⟨hno, u, v, rfl⟩⟩
  rotate_left
  · have HB2 := Lib.hid (below_next HB.out hb2 HB.out.size)
    have HK2 := Lib.hid (HK.out.kept hb2)
    have HD := Lib.hid (show decLt l = none by
      unfold decLt okX rdLt
      cases hq : rdFlds 3 l with
      | none => rfl
      | some fs =>
        match fs with
        | [] => rfl
        | [_] => rfl
        | [_, _] => rfl
        | [f0, f1, f2] => simp only [hno f0 [f1, f2] hq]
        | _ :: _ :: _ :: _ :: _ => rfl)
    have j0 := HK2.out.at_ (i := 0) rfl; have z0 := HK2.out.frozen 0; have j1 := HK2.out.at_ (i := 1) rfl; have z1 := HK2.out.frozen 1; have j2 := HK2.out.at_ (i := 2) rfl; have z2 := HK2.out.frozen 2; have j3 := HK2.out.at_ (i := 3) rfl; have z3 := HK2.out.frozen 3; have j4 := HK2.out.at_ (i := 4) rfl; have z4 := HK2.out.frozen 4
    clear hb2 hno
    go_wp2_with fail
    have kk := (((((HK2.out).set 0 (.int .i64 0)).set 1 (.int .i64 0)).set 2 (.int .i64 0)).set 3 (.slice none 0 0)).set 4 (.slice none 0 0)
    have gr := grown_set (grown_set (grown_set (grown_set (grown_set (grown_refl w2 (some w.heap.size)) 0 (.int .i64 0)) 1 (.int .i64 0)) 2 (.int .i64 0)) 3 (.slice none 0 0)) 4 (.slice none 0 0)
    refine bodyPost_ret_by (results_row_tmp rfl _ _ w.heap.size 46 _ _ rfl kk Try.underlying46 rfl info1_L) rfl ?_
    exact ⟨HB2.out.grown gr HB2.out.size (fun g hg => by cases hg; omega), .inr ⟨HD.out, rfl⟩⟩
  obtain ⟨hl3, hrg⟩ := rdNums_range hv
  obtain ⟨hjx, hfl⟩ := rdFlds_join hf
  have hf6 := (joinX_fields hjx).2.2
  match rest, hfl, vs, hl3 with
  | [f1, f2], _, [x, y, z], _ =>
    have HB2 := Lib.hid (below_next HB.out hb2 HB.out.size)
    have HK2 := Lib.hid (HK.out.kept hb2)
    obtain ⟨xf, B1, d1, rfl, hxf, q1, hbf⟩ := (RdS.of_own hof).b1 (k := 1) (l := f1) rfl
    obtain ⟨xf2, B2, d2, hx2, _, q2, hbf2⟩ := (RdS.of_own hof).b1 (k := 2) (l := f2) rfl
    injection hx2 with hx2
    subst hx2
    obtain ⟨gi, rfl, hgi, hgil, hci⟩ := hoi.at_ (by omega)
    have q1 : w2.cell? ⟨xf.block, xf.off + 1, none⟩ = some (.slice B1 f1.length d1) := by have := q1; simpa [Addr.add] using this
    have q2 : w2.cell? ⟨xf.block, xf.off + 2, none⟩ = some (.slice B2 f2.length d2) := by have := q2; simpa [Addr.add] using this
    have HX := Lib.hid (show rdLt l = match rdSplit f2 with | some ts => some ⟨x, y, z, f1, ts⟩ | none => none by unfold rdLt; rw [hf]; simp only [hv]; cases rdSplit f2 <;> rfl)
    have HF := Lib.hid hbf
    have HS := Lib.hid (refSplit_any B2 f2.length d2 f2 w2 hbf2.rd hbf2.1.1 hbf2.1.2.1 (by have := hf6 f2 (by simp); omega))
    have i0 := hci 0 x rfl
    have i1 := hci 1 y rfl
    have i2 := hci 2 z rfl
    clear hb2 hof hoi hxf hbf hbf2 hci hv hf hrg hgi hgil hjx hf6
    go_wp2_with fail
    refine HS.out.mono ?_
    rintro e w3 ⟨hb3, ⟨h0, rfl⟩ | ⟨h0, A4, n4, c4, rfl, ho4⟩⟩
    all_goals have HB3 := Lib.hid (below_next HB2.out hb3 HB2.out.size)
    all_goals have HK3 := Lib.hid (HK2.out.kept hb3)
    all_goals have HF3 := Lib.hid (HF.out.below hb3)
    all_goals have p0 := kept_cell i0 hb3
    all_goals have p1 := kept_cell i1 hb3
    all_goals have p2 := kept_cell i2 hb3
    all_goals have r1 := kept_cell q1 hb3
    · have hk : (((splitN f2).1 : Int) != 0) = true := by rw [bne_iff_ne]; omega
      have HD := Lib.hid (show decLt l = none by unfold decLt okX; rw [HX.out]; unfold rdSplit; rw [if_neg h0])
      clear h0 hb3 i0 i1 i2 q1 q2
      go_wp2_with fail
      refine wp_region_held_drew (S := fun w' => w'.cell? ⟨gi, 0, none⟩ = some (.int .i64 x) ∧ w'.cell? ⟨gi, 1, none⟩ = some (.int .i64 y) ∧ w'.cell? ⟨gi, 2, none⟩ = some (.int .i64 z) ∧ w'.cell? ⟨xf.block, xf.off + 1, none⟩ = some (.slice B1 f1.length d1)) (by kernel_rfl) (⟨p0, p1, p2, r1⟩) (fun hHeld => ?_)
      refine wpAnyH_take (i := 0) (oi := ({ dst := some 26, op := Op.move (Operand.tmp 5), type := 70, pos := "ref.go:193", after := #[], guard := none } : Oper)) (v := ?_) rfl (by kernel_rfl) (by kernel_rfl) (by kernel_rfl) (fun _ _ _ h => h) (Or.inl ⟨by rfl, ?_⟩) (by assumption) ?_
      rotate_left
      · intro w hSw; (try dsimp only at hSw); go_simp; first | done | with_reducible rfl
      try simp only [Act.put, List.setIfInBounds_toArray, List.set_cons_zero, List.set_cons_succ]
      refine wpAnyH_take (i := 1) (oi := ({ dst := some 27, op := Op.indexAddr 70 (Operand.tmp 26) (Operand.const (Value.int IntKind.i64 0)), type := 0, pos := "ref.go:193", after := #[{ on := 0, ground := Ground.data }], guard := none } : Oper)) (v := ?_) rfl (by kernel_rfl) (by kernel_rfl) (by kernel_rfl) (fun _ _ _ h => h) (Or.inl ⟨by rfl, ?_⟩) (by assumption) ?_
      rotate_left
      · intro w hSw; (try dsimp only at hSw); go_simp; first | done | with_reducible rfl
      try simp only [Act.put, List.setIfInBounds_toArray, List.set_cons_zero, List.set_cons_succ]
      refine wpAnyH_take (i := 2) (oi := ({ dst := some 28, op := Op.load 3 (Operand.tmp 27), type := 3, pos := "ref.go:193", after := #[{ on := 1, ground := Ground.data }], guard := none } : Oper)) (v := ?_) rfl (by kernel_rfl) (by kernel_rfl) (by kernel_rfl) (fun _ _ _ h => h) (Or.inl ⟨by rfl, ?_⟩) (by assumption) ?_
      rotate_left
      · intro w hSw; (try dsimp only at hSw); go_simp; first | done | with_reducible rfl
      try simp only [Act.put, List.setIfInBounds_toArray, List.set_cons_zero, List.set_cons_succ]
      refine wpAnyH_take (i := 3) (oi := ({ dst := some 29, op := Op.move (Operand.tmp 5), type := 70, pos := "ref.go:193", after := #[], guard := none } : Oper)) (v := ?_) rfl (by kernel_rfl) (by kernel_rfl) (by kernel_rfl) (fun _ _ _ h => h) (Or.inl ⟨by rfl, ?_⟩) (by assumption) ?_
      rotate_left
      · intro w hSw; (try dsimp only at hSw); go_simp; first | done | with_reducible rfl
      try simp only [Act.put, List.setIfInBounds_toArray, List.set_cons_zero, List.set_cons_succ]
      refine wpAnyH_take (i := 4) (oi := ({ dst := some 30, op := Op.indexAddr 70 (Operand.tmp 29) (Operand.const (Value.int IntKind.i64 1)), type := 0, pos := "ref.go:193", after := #[{ on := 3, ground := Ground.data }], guard := none } : Oper)) (v := ?_) rfl (by kernel_rfl) (by kernel_rfl) (by kernel_rfl) (fun _ _ _ h => h) (Or.inl ⟨by rfl, ?_⟩) (by assumption) ?_
      rotate_left
      · intro w hSw; (try dsimp only at hSw); go_simp; first | done | with_reducible rfl
      try simp only [Act.put, List.setIfInBounds_toArray, List.set_cons_zero, List.set_cons_succ]
      refine wpAnyH_take (i := 5) (oi := ({ dst := some 31, op := Op.load 3 (Operand.tmp 30), type := 3, pos := "ref.go:193", after := #[{ on := 4, ground := Ground.data }], guard := none } : Oper)) (v := ?_) rfl (by kernel_rfl) (by kernel_rfl) (by kernel_rfl) (fun _ _ _ h => h) (Or.inl ⟨by rfl, ?_⟩) (by assumption) ?_
      rotate_left
      · intro w hSw; (try dsimp only at hSw); go_simp; first | done | with_reducible rfl
      try simp only [Act.put, List.setIfInBounds_toArray, List.set_cons_zero, List.set_cons_succ]
      refine wpAnyH_take (i := 6) (oi := ({ dst := some 32, op := Op.build 43 #[(0, Operand.tmp 28), (1, Operand.tmp 31)], type := 43, pos := "ref.go:193", after := #[{ on := 2, ground := Ground.data }, { on := 5, ground := Ground.data }], guard := none } : Oper)) (v := ?_) rfl (by kernel_rfl) (by kernel_rfl) (by kernel_rfl) (fun _ _ _ h => h) (Or.inl ⟨by rfl, ?_⟩) (by assumption) ?_
      rotate_left
      · intro w hSw; (try dsimp only at hSw); go_simp; first | done | with_reducible rfl
      try simp only [Act.put, List.setIfInBounds_toArray, List.set_cons_zero, List.set_cons_succ]
      refine wpAnyH_take (i := 7) (oi := ({ dst := some 33, op := Op.move (Operand.tmp 5), type := 70, pos := "ref.go:193", after := #[], guard := none } : Oper)) (v := ?_) rfl (by kernel_rfl) (by kernel_rfl) (by kernel_rfl) (fun _ _ _ h => h) (Or.inl ⟨by rfl, ?_⟩) (by assumption) ?_
      rotate_left
      · intro w hSw; (try dsimp only at hSw); go_simp; first | done | with_reducible rfl
      try simp only [Act.put, List.setIfInBounds_toArray, List.set_cons_zero, List.set_cons_succ]
      refine wpAnyH_take (i := 8) (oi := ({ dst := some 34, op := Op.indexAddr 70 (Operand.tmp 33) (Operand.const (Value.int IntKind.i64 2)), type := 0, pos := "ref.go:193", after := #[{ on := 7, ground := Ground.data }], guard := none } : Oper)) (v := ?_) rfl (by kernel_rfl) (by kernel_rfl) (by kernel_rfl) (fun _ _ _ h => h) (Or.inl ⟨by rfl, ?_⟩) (by assumption) ?_
      rotate_left
      · intro w hSw; (try dsimp only at hSw); go_simp; first | done | with_reducible rfl
      try simp only [Act.put, List.setIfInBounds_toArray, List.set_cons_zero, List.set_cons_succ]
      refine wpAnyH_take (i := 9) (oi := ({ dst := some 35, op := Op.load 3 (Operand.tmp 34), type := 3, pos := "ref.go:193", after := #[{ on := 8, ground := Ground.data }], guard := none } : Oper)) (v := ?_) rfl (by kernel_rfl) (by kernel_rfl) (by kernel_rfl) (fun _ _ _ h => h) (Or.inl ⟨by rfl, ?_⟩) (by assumption) ?_
      rotate_left
      · intro w hSw; (try dsimp only at hSw); go_simp; first | done | with_reducible rfl
      try simp only [Act.put, List.setIfInBounds_toArray, List.set_cons_zero, List.set_cons_succ]
      refine wpAnyH_take (i := 10) (oi := ({ dst := some 36, op := Op.move (Operand.tmp 4), type := 44, pos := "ref.go:193", after := #[], guard := none } : Oper)) (v := ?_) rfl (by kernel_rfl) (by kernel_rfl) (by kernel_rfl) (fun _ _ _ h => h) (Or.inl ⟨by rfl, ?_⟩) (by assumption) ?_
      rotate_left
      · intro w hSw; (try dsimp only at hSw); go_simp; first | done | with_reducible rfl
      try simp only [Act.put, List.setIfInBounds_toArray, List.set_cons_zero, List.set_cons_succ]
      refine wpAnyH_take (i := 11) (oi := ({ dst := some 37, op := Op.indexAddr 44 (Operand.tmp 36) (Operand.const (Value.int IntKind.i64 1)), type := 0, pos := "ref.go:193", after := #[{ on := 10, ground := Ground.data }], guard := none } : Oper)) (v := ?_) rfl (by kernel_rfl) (by kernel_rfl) (by kernel_rfl) (fun _ _ _ h => h) (Or.inl ⟨by rfl, ?_⟩) (by assumption) ?_
      rotate_left
      · intro w hSw; (try dsimp only at hSw); go_simp; first | done | with_reducible rfl
      try simp only [Act.put, List.setIfInBounds_toArray, List.set_cons_zero, List.set_cons_succ]
      refine wpAnyH_take (i := 12) (oi := ({ dst := some 38, op := Op.load 22 (Operand.tmp 37), type := 22, pos := "ref.go:193", after := #[{ on := 11, ground := Ground.data }], guard := none } : Oper)) (v := ?_) rfl (by kernel_rfl) (by kernel_rfl) (by kernel_rfl) (fun _ _ _ h => h) (Or.inl ⟨by rfl, ?_⟩) (by assumption) ?_
      rotate_left
      · intro w hSw; (try dsimp only at hSw); go_simp; first | done | with_reducible rfl
      try simp only [Act.put, List.setIfInBounds_toArray, List.set_cons_zero, List.set_cons_succ]
      refine wpAnyH_take (i := 13) (oi := ({ dst := some 39, op := Op.move (Operand.tmp 7), type := 44, pos := "ref.go:193", after := #[], guard := none } : Oper)) (v := ?_) rfl (by kernel_rfl) (by kernel_rfl) (by kernel_rfl) (fun _ _ _ h => h) (Or.inl ⟨by rfl, ?_⟩) (by assumption) ?_
      rotate_left
      · intro w hSw; (try dsimp only at hSw); go_simp; first | done | with_reducible rfl
      try simp only [Act.put, List.setIfInBounds_toArray, List.set_cons_zero, List.set_cons_succ]
      refine wpAnyH_take (i := 14) (oi := ({ dst := some 40, op := Op.build 46 #[(0, Operand.tmp 32), (1, Operand.tmp 35), (2, Operand.tmp 38), (3, Operand.tmp 39)], type := 46, pos := "ref.go:193", after := #[{ on := 6, ground := Ground.data }, { on := 9, ground := Ground.data }, { on := 12, ground := Ground.data }, { on := 13, ground := Ground.data }], guard := none } : Oper)) (v := ?_) rfl (by kernel_rfl) (by kernel_rfl) (by kernel_rfl) (fun _ _ _ h => h) (Or.inl ⟨by rfl, ?_⟩) (by assumption) ?_
      rotate_left
      · intro w hSw; (try dsimp only at hSw); go_simp; first | done | with_reducible rfl
      try simp only [Act.put, List.setIfInBounds_toArray, List.set_cons_zero, List.set_cons_succ]
      refine wpAnyH_ready (rs := [15]) (by kernel_rfl) (by simp) ?_
      refine AllReadyH.cons (o := ({ dst := some 9, op := Op.alloc 46, type := 0, pos := "ref.go:193", after := #[], guard := none } : Oper)) rfl (fun K hK => ?_) AllReadyH.nil
      go_simp
      refine hK.out _ _ (⟨cell_drew (cell_alloc_old p0 _), cell_drew (cell_alloc_old p1 _), cell_drew (cell_alloc_old p2 _), cell_drew (cell_alloc_old r1 _)⟩) (fun hHeld => ?_)
      clear hK K
      try simp only [Act.put, List.setIfInBounds_toArray, List.set_cons_zero, List.set_cons_succ]
      refine wpAnyH_ready (rs := [16]) (by kernel_rfl) (by simp) ?_
      refine AllReadyH.cons (o := ({ dst := none, op := Op.store 46 (Operand.tmp 9) (Operand.tmp 40), type := 0, pos := "ref.go:193", after := #[{ on := 15, ground := Ground.data }, { on := 14, ground := Ground.data }, { on := 0, ground := Ground.phase }, { on := 1, ground := Ground.phase }, { on := 2, ground := Ground.phase }, { on := 3, ground := Ground.phase }, { on := 4, ground := Ground.phase }, { on := 5, ground := Ground.phase }, { on := 6, ground := Ground.phase }, { on := 7, ground := Ground.phase }, { on := 8, ground := Ground.phase }, { on := 9, ground := Ground.phase }, { on := 10, ground := Ground.phase }, { on := 11, ground := Ground.phase }, { on := 12, ground := Ground.phase }, { on := 13, ground := Ground.phase }, { on := 14, ground := Ground.phase }, { on := 15, ground := Ground.phase }], guard := none } : Oper)) rfl (fun K hK => ?_) AllReadyH.nil
      go_simp
      refine hK.out _ _ (⟨cell_drew (cell_alloc_old p0 _), cell_drew (cell_alloc_old p1 _), cell_drew (cell_alloc_old p2 _), cell_drew (cell_alloc_old r1 _)⟩) (fun hHeld => ?_)
      clear hK K
      try simp only [Act.put, List.setIfInBounds_toArray, List.set_cons_zero, List.set_cons_succ]
      refine wpAnyH_done (by kernel_rfl) ?_ _
      have hal := below_drew ((Below.refl w3.heap.size w3).alloc (Nat.le_refl _) (.cells #[.int .i64 x, .int .i64 y, .int .i64 z, .slice B1 f1.length d1, .slice none 0 0] 46))
      have HB4 := Lib.hid (below_next HB3.out hal HB3.out.size)
      have HK4 := Lib.hid (HK3.out.kept hal)
      have HJ4 := Lib.hid (bk_drew (Bk.new w3 46 [.int .i64 x, .int .i64 y, .int .i64 z, .slice B1 f1.length d1, .slice none 0 0]))
      have HF4 := Lib.hid (HF3.out.below hal)
      obtain ⟨X, hX⟩ : ∃ X, X = (w3.alloc (.cells #[.int .i64 x, .int .i64 y, .int .i64 z, .slice B1 f1.length d1, .slice none 0 0] 46)).drew := ⟨_, rfl⟩
      rw [← hX] at HB4 HK4 HJ4 HF4 ⊢
      clear hX hal p0 p1 p2 r1
      have j0 := HK4.out.at_ (i := 0) rfl; have z0 := HK4.out.frozen 0; have j1 := HK4.out.at_ (i := 1) rfl; have z1 := HK4.out.frozen 1; have j2 := HK4.out.at_ (i := 2) rfl; have z2 := HK4.out.frozen 2; have j3 := HK4.out.at_ (i := 3) rfl; have z3 := HK4.out.frozen 3; have j4 := HK4.out.at_ (i := 4) rfl; have z4 := HK4.out.frozen 4
      go_wp2_with fail
      have kk := (((((HK4.out).set 0 (.int .i64 0)).set 1 (.int .i64 0)).set 2 (.int .i64 0)).set 3 (.slice none 0 0)).set 4 (.slice none 0 0)
      have gr := grown_set (grown_set (grown_set (grown_set (grown_set (grown_refl X (some w.heap.size)) 0 (.int .i64 0)) 1 (.int .i64 0)) 2 (.int .i64 0)) 3 (.slice none 0 0)) 4 (.slice none 0 0)
      refine bodyPost_ret_by (results_row_tmp rfl _ _ w.heap.size 46 _ _ rfl kk Try.underlying46 rfl info1_L) rfl ?_
      exact ⟨HB4.out.grown gr HB4.out.size (fun g hg => by cases hg; omega), .inr ⟨HD.out, rfl⟩⟩
    · have HT3 := Lib.hid (RdS.of_own ho4)
      obtain ⟨ts, hts⟩ : ∃ ts, ts = (splitN f2).2 := ⟨_, rfl⟩
      have HXX := Lib.hid (show rdLt l = some ⟨x, y, z, f1, ts⟩ by rw [HX.out]; unfold rdSplit; rw [if_pos h0, hts])
      have hn4 : ts.length = n4 := by rw [hts]; exact ho4.1
      rw [← hts] at HT3
      subst hn4
      clear h0 hb3 i0 i1 i2 q1 q2 hts ho4
      go_wp2_with fail
      refine wp_region_held_drew (S := fun w' => w'.cell? ⟨gi, 0, none⟩ = some (.int .i64 x) ∧ w'.cell? ⟨gi, 1, none⟩ = some (.int .i64 y) ∧ w'.cell? ⟨gi, 2, none⟩ = some (.int .i64 z) ∧ w'.cell? ⟨xf.block, xf.off + 1, none⟩ = some (.slice B1 f1.length d1)) (by kernel_rfl) (⟨p0, p1, p2, r1⟩) (fun hHeld => ?_)
      refine wpAnyH_take (i := 0) (oi := ({ dst := some 26, op := Op.move (Operand.tmp 5), type := 70, pos := "ref.go:193", after := #[], guard := none } : Oper)) (v := ?_) rfl (by kernel_rfl) (by kernel_rfl) (by kernel_rfl) (fun _ _ _ h => h) (Or.inl ⟨by rfl, ?_⟩) (by assumption) ?_
      rotate_left
      · intro w hSw; (try dsimp only at hSw); go_simp; first | done | with_reducible rfl
      try simp only [Act.put, List.setIfInBounds_toArray, List.set_cons_zero, List.set_cons_succ]
      refine wpAnyH_take (i := 1) (oi := ({ dst := some 27, op := Op.indexAddr 70 (Operand.tmp 26) (Operand.const (Value.int IntKind.i64 0)), type := 0, pos := "ref.go:193", after := #[{ on := 0, ground := Ground.data }], guard := none } : Oper)) (v := ?_) rfl (by kernel_rfl) (by kernel_rfl) (by kernel_rfl) (fun _ _ _ h => h) (Or.inl ⟨by rfl, ?_⟩) (by assumption) ?_
      rotate_left
      · intro w hSw; (try dsimp only at hSw); go_simp; first | done | with_reducible rfl
      try simp only [Act.put, List.setIfInBounds_toArray, List.set_cons_zero, List.set_cons_succ]
      refine wpAnyH_take (i := 2) (oi := ({ dst := some 28, op := Op.load 3 (Operand.tmp 27), type := 3, pos := "ref.go:193", after := #[{ on := 1, ground := Ground.data }], guard := none } : Oper)) (v := ?_) rfl (by kernel_rfl) (by kernel_rfl) (by kernel_rfl) (fun _ _ _ h => h) (Or.inl ⟨by rfl, ?_⟩) (by assumption) ?_
      rotate_left
      · intro w hSw; (try dsimp only at hSw); go_simp; first | done | with_reducible rfl
      try simp only [Act.put, List.setIfInBounds_toArray, List.set_cons_zero, List.set_cons_succ]
      refine wpAnyH_take (i := 3) (oi := ({ dst := some 29, op := Op.move (Operand.tmp 5), type := 70, pos := "ref.go:193", after := #[], guard := none } : Oper)) (v := ?_) rfl (by kernel_rfl) (by kernel_rfl) (by kernel_rfl) (fun _ _ _ h => h) (Or.inl ⟨by rfl, ?_⟩) (by assumption) ?_
      rotate_left
      · intro w hSw; (try dsimp only at hSw); go_simp; first | done | with_reducible rfl
      try simp only [Act.put, List.setIfInBounds_toArray, List.set_cons_zero, List.set_cons_succ]
      refine wpAnyH_take (i := 4) (oi := ({ dst := some 30, op := Op.indexAddr 70 (Operand.tmp 29) (Operand.const (Value.int IntKind.i64 1)), type := 0, pos := "ref.go:193", after := #[{ on := 3, ground := Ground.data }], guard := none } : Oper)) (v := ?_) rfl (by kernel_rfl) (by kernel_rfl) (by kernel_rfl) (fun _ _ _ h => h) (Or.inl ⟨by rfl, ?_⟩) (by assumption) ?_
      rotate_left
      · intro w hSw; (try dsimp only at hSw); go_simp; first | done | with_reducible rfl
      try simp only [Act.put, List.setIfInBounds_toArray, List.set_cons_zero, List.set_cons_succ]
      refine wpAnyH_take (i := 5) (oi := ({ dst := some 31, op := Op.load 3 (Operand.tmp 30), type := 3, pos := "ref.go:193", after := #[{ on := 4, ground := Ground.data }], guard := none } : Oper)) (v := ?_) rfl (by kernel_rfl) (by kernel_rfl) (by kernel_rfl) (fun _ _ _ h => h) (Or.inl ⟨by rfl, ?_⟩) (by assumption) ?_
      rotate_left
      · intro w hSw; (try dsimp only at hSw); go_simp; first | done | with_reducible rfl
      try simp only [Act.put, List.setIfInBounds_toArray, List.set_cons_zero, List.set_cons_succ]
      refine wpAnyH_take (i := 6) (oi := ({ dst := some 32, op := Op.build 43 #[(0, Operand.tmp 28), (1, Operand.tmp 31)], type := 43, pos := "ref.go:193", after := #[{ on := 2, ground := Ground.data }, { on := 5, ground := Ground.data }], guard := none } : Oper)) (v := ?_) rfl (by kernel_rfl) (by kernel_rfl) (by kernel_rfl) (fun _ _ _ h => h) (Or.inl ⟨by rfl, ?_⟩) (by assumption) ?_
      rotate_left
      · intro w hSw; (try dsimp only at hSw); go_simp; first | done | with_reducible rfl
      try simp only [Act.put, List.setIfInBounds_toArray, List.set_cons_zero, List.set_cons_succ]
      refine wpAnyH_take (i := 7) (oi := ({ dst := some 33, op := Op.move (Operand.tmp 5), type := 70, pos := "ref.go:193", after := #[], guard := none } : Oper)) (v := ?_) rfl (by kernel_rfl) (by kernel_rfl) (by kernel_rfl) (fun _ _ _ h => h) (Or.inl ⟨by rfl, ?_⟩) (by assumption) ?_
      rotate_left
      · intro w hSw; (try dsimp only at hSw); go_simp; first | done | with_reducible rfl
      try simp only [Act.put, List.setIfInBounds_toArray, List.set_cons_zero, List.set_cons_succ]
      refine wpAnyH_take (i := 8) (oi := ({ dst := some 34, op := Op.indexAddr 70 (Operand.tmp 33) (Operand.const (Value.int IntKind.i64 2)), type := 0, pos := "ref.go:193", after := #[{ on := 7, ground := Ground.data }], guard := none } : Oper)) (v := ?_) rfl (by kernel_rfl) (by kernel_rfl) (by kernel_rfl) (fun _ _ _ h => h) (Or.inl ⟨by rfl, ?_⟩) (by assumption) ?_
      rotate_left
      · intro w hSw; (try dsimp only at hSw); go_simp; first | done | with_reducible rfl
      try simp only [Act.put, List.setIfInBounds_toArray, List.set_cons_zero, List.set_cons_succ]
      refine wpAnyH_take (i := 9) (oi := ({ dst := some 35, op := Op.load 3 (Operand.tmp 34), type := 3, pos := "ref.go:193", after := #[{ on := 8, ground := Ground.data }], guard := none } : Oper)) (v := ?_) rfl (by kernel_rfl) (by kernel_rfl) (by kernel_rfl) (fun _ _ _ h => h) (Or.inl ⟨by rfl, ?_⟩) (by assumption) ?_
      rotate_left
      · intro w hSw; (try dsimp only at hSw); go_simp; first | done | with_reducible rfl
      try simp only [Act.put, List.setIfInBounds_toArray, List.set_cons_zero, List.set_cons_succ]
      refine wpAnyH_take (i := 10) (oi := ({ dst := some 36, op := Op.move (Operand.tmp 4), type := 44, pos := "ref.go:193", after := #[], guard := none } : Oper)) (v := ?_) rfl (by kernel_rfl) (by kernel_rfl) (by kernel_rfl) (fun _ _ _ h => h) (Or.inl ⟨by rfl, ?_⟩) (by assumption) ?_
      rotate_left
      · intro w hSw; (try dsimp only at hSw); go_simp; first | done | with_reducible rfl
      try simp only [Act.put, List.setIfInBounds_toArray, List.set_cons_zero, List.set_cons_succ]
      refine wpAnyH_take (i := 11) (oi := ({ dst := some 37, op := Op.indexAddr 44 (Operand.tmp 36) (Operand.const (Value.int IntKind.i64 1)), type := 0, pos := "ref.go:193", after := #[{ on := 10, ground := Ground.data }], guard := none } : Oper)) (v := ?_) rfl (by kernel_rfl) (by kernel_rfl) (by kernel_rfl) (fun _ _ _ h => h) (Or.inl ⟨by rfl, ?_⟩) (by assumption) ?_
      rotate_left
      · intro w hSw; (try dsimp only at hSw); go_simp; first | done | with_reducible rfl
      try simp only [Act.put, List.setIfInBounds_toArray, List.set_cons_zero, List.set_cons_succ]
      refine wpAnyH_take (i := 12) (oi := ({ dst := some 38, op := Op.load 22 (Operand.tmp 37), type := 22, pos := "ref.go:193", after := #[{ on := 11, ground := Ground.data }], guard := none } : Oper)) (v := ?_) rfl (by kernel_rfl) (by kernel_rfl) (by kernel_rfl) (fun _ _ _ h => h) (Or.inl ⟨by rfl, ?_⟩) (by assumption) ?_
      rotate_left
      · intro w hSw; (try dsimp only at hSw); go_simp; first | done | with_reducible rfl
      try simp only [Act.put, List.setIfInBounds_toArray, List.set_cons_zero, List.set_cons_succ]
      refine wpAnyH_take (i := 13) (oi := ({ dst := some 39, op := Op.move (Operand.tmp 7), type := 44, pos := "ref.go:193", after := #[], guard := none } : Oper)) (v := ?_) rfl (by kernel_rfl) (by kernel_rfl) (by kernel_rfl) (fun _ _ _ h => h) (Or.inl ⟨by rfl, ?_⟩) (by assumption) ?_
      rotate_left
      · intro w hSw; (try dsimp only at hSw); go_simp; first | done | with_reducible rfl
      try simp only [Act.put, List.setIfInBounds_toArray, List.set_cons_zero, List.set_cons_succ]
      refine wpAnyH_take (i := 14) (oi := ({ dst := some 40, op := Op.build 46 #[(0, Operand.tmp 32), (1, Operand.tmp 35), (2, Operand.tmp 38), (3, Operand.tmp 39)], type := 46, pos := "ref.go:193", after := #[{ on := 6, ground := Ground.data }, { on := 9, ground := Ground.data }, { on := 12, ground := Ground.data }, { on := 13, ground := Ground.data }], guard := none } : Oper)) (v := ?_) rfl (by kernel_rfl) (by kernel_rfl) (by kernel_rfl) (fun _ _ _ h => h) (Or.inl ⟨by rfl, ?_⟩) (by assumption) ?_
      rotate_left
      · intro w hSw; (try dsimp only at hSw); go_simp; first | done | with_reducible rfl
      try simp only [Act.put, List.setIfInBounds_toArray, List.set_cons_zero, List.set_cons_succ]
      refine wpAnyH_ready (rs := [15]) (by kernel_rfl) (by simp) ?_
      refine AllReadyH.cons (o := ({ dst := some 9, op := Op.alloc 46, type := 0, pos := "ref.go:193", after := #[], guard := none } : Oper)) rfl (fun K hK => ?_) AllReadyH.nil
      go_simp
      refine hK.out _ _ (⟨cell_drew (cell_alloc_old p0 _), cell_drew (cell_alloc_old p1 _), cell_drew (cell_alloc_old p2 _), cell_drew (cell_alloc_old r1 _)⟩) (fun hHeld => ?_)
      clear hK K
      try simp only [Act.put, List.setIfInBounds_toArray, List.set_cons_zero, List.set_cons_succ]
      refine wpAnyH_ready (rs := [16]) (by kernel_rfl) (by simp) ?_
      refine AllReadyH.cons (o := ({ dst := none, op := Op.store 46 (Operand.tmp 9) (Operand.tmp 40), type := 0, pos := "ref.go:193", after := #[{ on := 15, ground := Ground.data }, { on := 14, ground := Ground.data }, { on := 0, ground := Ground.phase }, { on := 1, ground := Ground.phase }, { on := 2, ground := Ground.phase }, { on := 3, ground := Ground.phase }, { on := 4, ground := Ground.phase }, { on := 5, ground := Ground.phase }, { on := 6, ground := Ground.phase }, { on := 7, ground := Ground.phase }, { on := 8, ground := Ground.phase }, { on := 9, ground := Ground.phase }, { on := 10, ground := Ground.phase }, { on := 11, ground := Ground.phase }, { on := 12, ground := Ground.phase }, { on := 13, ground := Ground.phase }, { on := 14, ground := Ground.phase }, { on := 15, ground := Ground.phase }], guard := none } : Oper)) rfl (fun K hK => ?_) AllReadyH.nil
      go_simp
      refine hK.out _ _ (⟨cell_drew (cell_alloc_old p0 _), cell_drew (cell_alloc_old p1 _), cell_drew (cell_alloc_old p2 _), cell_drew (cell_alloc_old r1 _)⟩) (fun hHeld => ?_)
      clear hK K
      try simp only [Act.put, List.setIfInBounds_toArray, List.set_cons_zero, List.set_cons_succ]
      refine wpAnyH_done (by kernel_rfl) ?_ _
      have hal := below_drew ((Below.refl w3.heap.size w3).alloc (Nat.le_refl _) (.cells #[.int .i64 x, .int .i64 y, .int .i64 z, .slice B1 f1.length d1, .slice A4 ts.length c4] 46))
      have HB4 := Lib.hid (below_next HB3.out hal HB3.out.size)
      have HK4 := Lib.hid (HK3.out.kept hal)
      have HJ4 := Lib.hid (bk_drew (Bk.new w3 46 [.int .i64 x, .int .i64 y, .int .i64 z, .slice B1 f1.length d1, .slice A4 ts.length c4]))
      have HF4 := Lib.hid (HF3.out.below hal)
      have HT4 := Lib.hid (HT3.out.below hal)
      obtain ⟨X, hX⟩ : ∃ X, X = (w3.alloc (.cells #[.int .i64 x, .int .i64 y, .int .i64 z, .slice B1 f1.length d1, .slice A4 ts.length c4] 46)).drew := ⟨_, rfl⟩
      rw [← hX] at HB4 HK4 HJ4 HF4 HT4 ⊢
      clear hX hal p0 p1 p2 r1
      have m0 := HJ4.out.at_ (i := 0) rfl; have m1 := HJ4.out.at_ (i := 1) rfl; have m2 := HJ4.out.at_ (i := 2) rfl; have m3 := HJ4.out.at_ (i := 3) rfl; have m4 := HJ4.out.at_ (i := 4) rfl
      go_wp2_with fail
      clear m0 m1 m2 m3 m4
      refine (refLetter_any ⟨x, y, z, f1, ts⟩ B1 d1 A4 c4 AllB _ ⟨HF4.out.all, HT4.out.all⟩).mono ?_
      rintro e w5 ⟨rfl, hb5⟩
      have HB5 := Lib.hid (below_next HB4.out hb5 HB4.out.size)
      have HK5 := Lib.hid (HK4.out.kept hb5)
      have HJ5 := Lib.hid (HJ4.out.kept hb5)
      have HF5 := Lib.hid (HF4.out.below hb5)
      have HT5 := Lib.hid (HT4.out.below hb5)
      clear hb5
      have j0 := HK5.out.at_ (i := 0) rfl; have z0 := HK5.out.frozen 0; have j1 := HK5.out.at_ (i := 1) rfl; have z1 := HK5.out.frozen 1; have j2 := HK5.out.at_ (i := 2) rfl; have z2 := HK5.out.frozen 2; have j3 := HK5.out.at_ (i := 3) rfl; have z3 := HK5.out.frozen 3; have j4 := HK5.out.at_ (i := 4) rfl; have z4 := HK5.out.frozen 4
      cases ho : Lt.ok ⟨x, y, z, f1, ts⟩
      · have HD := Lib.hid (show decLt l = none by unfold decLt okX; rw [HXX.out]; simp [ho])
        clear ho
        go_wp2_with fail
        have kk := (((((HK5.out).set 0 (.int .i64 0)).set 1 (.int .i64 0)).set 2 (.int .i64 0)).set 3 (.slice none 0 0)).set 4 (.slice none 0 0)
        have gr := grown_set (grown_set (grown_set (grown_set (grown_set (grown_refl w5 (some w.heap.size)) 0 (.int .i64 0)) 1 (.int .i64 0)) 2 (.int .i64 0)) 3 (.slice none 0 0)) 4 (.slice none 0 0)
        refine bodyPost_ret_by (results_row_tmp rfl _ _ w.heap.size 46 _ _ rfl kk Try.underlying46 rfl info1_L) rfl ?_
        exact ⟨HB5.out.grown gr HB5.out.size (fun g hg => by cases hg; omega), .inr ⟨HD.out, rfl⟩⟩
      · have HD := Lib.hid (show decLt l = some ⟨x, y, z, f1, ts⟩ by unfold decLt okX; rw [HXX.out]; simp [ho])
        clear ho
        have m0 := HJ5.out.at_ (i := 0) rfl; have m1 := HJ5.out.at_ (i := 1) rfl; have m2 := HJ5.out.at_ (i := 2) rfl; have m3 := HJ5.out.at_ (i := 3) rfl; have m4 := HJ5.out.at_ (i := 4) rfl
        go_wp2_with fail
        have kk := (((((HK5.out).set 0 (.int .i64 x)).set 1 (.int .i64 y)).set 2 (.int .i64 z)).set 3 (.slice B1 f1.length d1)).set 4 (.slice A4 ts.length c4)
        have gr := grown_set (grown_set (grown_set (grown_set (grown_set (grown_refl w5 (some w.heap.size)) 0 (.int .i64 x)) 1 (.int .i64 y)) 2 (.int .i64 z)) 3 (.slice B1 f1.length d1)) 4 (.slice A4 ts.length c4)
        have hsw := HB2.out.size
        have hlt := HLT.out
        have hf := HF5.out.keep (F' := From w.heap.size) (Kp.of_grown gr fun b hb e => by injection e with e; unfold From at hb; simp at hb; omega) (fun b hb _ => by unfold From at *; simp at hb; omega)
        have ht := HT5.out.keep (F' := From w.heap.size) (Kp.of_grown gr fun b hb e => by injection e with e; have := HK2.out.lt; unfold From at hb; omega) (fun b hb _ => by unfold From at *; omega)
        refine bodyPost_ret_by (results_row_tmp rfl _ _ w.heap.size 46 _ _ rfl kk Try.underlying46 rfl info1_L) rfl ?_
        exact ⟨HB5.out.grown gr HB5.out.size (fun g hg => by cases hg; omega), .inl ⟨_, B1, d1, A4, c4, HD.out, rfl, hf, ht⟩⟩
end Go.Proofs.Ytmgmmbgjmnklkaa
