/-
  The reference's bytes of letters and entries. Walks; no statement.
-/
import Derived.Test.YtmgmmbgjmnklkaaMsgRef1
import Derived.Test.YtmgmmbgjmnklkaaRefJoin
namespace Go.Proofs.Ytmgmmbgjmnklkaa
set_option maxRecDepth 100000
open Go.RowKit
open Pk
set_option linter.unusedVariables false

theorem refJoinX_any (A : Option Addr) (n c : Nat) (ls : List (List UInt8)) (w : World) (h : RdRows w A n ls) (ht : total ls ≤ 68719476736) : Calls Try.prog 44 #[.slice A n c] w (JoinXP (joinX ls) w) :=
  (refJoin_any A n c ls w h ht).mono fun _ _ h => h.x
theorem refNumsB_any (A : Option Addr) (n c : Nat) (l : List Int) (w : World) (h : Rd w A n (l.map iv)) (hn : n ≤ 4294967296) (hb : numsBad l = false) : Calls Try.prog 41 #[.slice A n c] w (Fresh1 (numsN l) w) := by
  have H := Lib.hid (refNums_any A n c l w h hn)
  have HB := Lib.hid hb
  clear h hb
  go_enter Try.func41, Try.ntmps41
  go_wp2_with fail
  refine H.out.mono ?_
  rintro e w1 ⟨hb1, ⟨h, _⟩ | ⟨_, A1, n1, c1, rfl, ho⟩⟩
  · rw [HB.out] at h; cases h
  go_wp2_with fail
  go_ret
  exact ⟨A1, n1, c1, rfl, ho, hb1⟩
theorem lt_tags {l : Lt} (h : l.ok = true) : joinX l.tags = some (joinN l.tags) := by
  unfold Lt.ok tagsOk at h
  simp only [Bool.and_eq_true, decide_eq_true_eq, List.all_eq_true] at h
  unfold joinX
  rw [if_neg]
  unfold joinBad longField
  simp only [Bool.or_eq_true, decide_eq_true_eq, List.any_eq_true, not_or, not_exists, not_and]
  refine ⟨by omega, fun t ht => ?_⟩
  have := h.2.2.2.2.2 t ht
  omega

set_option maxHeartbeats 1600000 in
theorem refPackLetter_any (l : Lt) (A : Option Addr) (c : Nat) (B : Option Addr) (d : Nat) (F : Nat → Prop) (w : World) (h : LtR F w l A c B d) :
    Calls Try.prog 23 #[.agg #[.int .i64 l.f1, .int .i64 l.f2, .int .i64 l.r, .slice A l.body.length c, .slice B l.tags.length d]] w (EncP l.encode w) := by
  have hB := (Below.refl w.heap.size w).alloc (Nat.le_refl _) (.cells #[.int .i64 l.f1, .int .i64 l.f2, .int .i64 l.r, .slice A l.body.length c, .slice B l.tags.length d] 46)
  have HB0 := Lib.hid hB
  have HK0 := Lib.hid (Bk.new w 46 [.int .i64 l.f1, .int .i64 l.f2, .int .i64 l.r, .slice A l.body.length c, .slice B l.tags.length d])
  have HL0 := Lib.hid (h.below hB)
  clear h hB
  go_enter Try.func23, Try.ntmps23
  go_wp2_with fail
  refine (refLetter_any l A c B d _ _ HL0.out).mono ?_
  rintro e w1 ⟨rfl, hb1⟩
  have HB1 := Lib.hid (below_next HB0.out hb1 HB0.out.size)
  have HK1 := Lib.hid (HK0.out.kept hb1)
  have HL1 := Lib.hid (HL0.out.below hb1)
  clear hb1
  cases hok : l.ok
  · have HEN := Lib.hid (show l.encode = (81, []) by unfold Lt.encode; rw [if_pos hok])
    clear hok
    go_wp2_with fail
    go_ret2
    exact ⟨HB1.out, none, 0, 0, by rw [HEN.out]; rfl, by rw [HEN.out]; exact OwnB.nil_ _ _⟩
  have hsz := lt_ok hok
  have HOK := Lib.hid hok
  have HNB := Lib.hid hsz.1
  have HLT := Lib.hid (lt_tags hok)
  have HTT := Lib.hid (show total l.tags ≤ 68719476736 by have := hsz.2.2; omega)
  have HTA := Lib.hid (show ∀ t, joinX l.tags = some t → total [numsN [l.f1, l.f2, l.r], l.body, t] ≤ 68719476736 by
    intro t ht
    have h1 := joinX_len ht
    have h2 := total_len l.tags
    have h3 := numsN_len3 hsz.1 (by simp)
    have h4 := hsz.2.1
    have h5 := hsz.2.2
    simp only [total]
    omega)
  have k4 := HK1.out.at_ (i := 4) rfl
  clear hsz hok
  go_wp2_with fail
  clear k4
  refine (refJoinX_any _ _ _ _ _ HL1.out.2.rows HTT.out).mono ?_
  rintro e X ⟨hbx, ⟨t, ht, A4, n4, c4, rfl, ho4⟩ | ⟨ht, rfl⟩⟩
  rotate_left
  · rw [HLT.out] at ht; cases ht
  rw [HLT.out] at ht
  obtain rfl := Option.some.inj ht
  have HB := Lib.hid (below_next HB1.out hbx HB1.out.size)
  have HK := Lib.hid (HK1.out.kept hbx)
  have HL := Lib.hid (HL1.out.below hbx)
  have HT := Lib.hid (Sl.own ho4)
  clear hbx ho4 ht HB0 HK0 HL0 HB1 HK1 HL1
  go_wp2_with fail
  refine wp_region_held_drew (S := fun w' => w'.cell? ⟨w.heap.size, 0, none⟩ = some (.int .i64 l.f1) ∧ w'.cell? ⟨w.heap.size, 1, none⟩ = some (.int .i64 l.f2) ∧ w'.cell? ⟨w.heap.size, 2, none⟩ = some (.int .i64 l.r) ∧ w'.cell? ⟨w.heap.size, 3, none⟩ = some (.slice A l.body.length c) ∧ w'.cell? ⟨w.heap.size, 4, none⟩ = some (.slice B l.tags.length d)) (by kernel_rfl) ((bk_drew HK.out).five) (fun hHeld => ?_)
  refine wpAnyH_take (i := 0) (oi := ({ dst := some 15, op := Op.fieldAddr 46 (Operand.tmp 1) 0, type := 0, pos := "ref.go:47", after := #[], guard := none } : Oper)) (v := ?_) rfl (by kernel_rfl) (by kernel_rfl) (by kernel_rfl) (fun _ _ _ h => h) (Or.inl ⟨by rfl, ?_⟩) (by assumption) ?_
  rotate_left
  · intro w hSw; (try dsimp only at hSw); go_simp; first | done | with_reducible rfl
  try simp only [Act.put, List.setIfInBounds_toArray, List.set_cons_zero, List.set_cons_succ]
  refine wpAnyH_take (i := 1) (oi := ({ dst := some 16, op := Op.fieldAddr 43 (Operand.tmp 15) 0, type := 0, pos := "ref.go:47", after := #[{ on := 0, ground := Ground.data }], guard := none } : Oper)) (v := ?_) rfl (by kernel_rfl) (by kernel_rfl) (by kernel_rfl) (fun _ _ _ h => h) (Or.inl ⟨by rfl, ?_⟩) (by assumption) ?_
  rotate_left
  · intro w hSw; (try dsimp only at hSw); go_simp; first | done | with_reducible rfl
  try simp only [Act.put, List.setIfInBounds_toArray, List.set_cons_zero, List.set_cons_succ]
  refine wpAnyH_take (i := 2) (oi := ({ dst := some 17, op := Op.load 3 (Operand.tmp 16), type := 3, pos := "ref.go:47", after := #[{ on := 1, ground := Ground.data }], guard := none } : Oper)) (v := ?_) rfl (by kernel_rfl) (by kernel_rfl) (by kernel_rfl) (fun _ _ _ h => h) (Or.inl ⟨by rfl, ?_⟩) (by assumption) ?_
  rotate_left
  · intro w hSw; (try dsimp only at hSw); go_simp; first | done | with_reducible rfl
  try simp only [Act.put, List.setIfInBounds_toArray, List.set_cons_zero, List.set_cons_succ]
  refine wpAnyH_take (i := 3) (oi := ({ dst := some 18, op := Op.fieldAddr 46 (Operand.tmp 1) 0, type := 0, pos := "ref.go:47", after := #[], guard := none } : Oper)) (v := ?_) rfl (by kernel_rfl) (by kernel_rfl) (by kernel_rfl) (fun _ _ _ h => h) (Or.inl ⟨by rfl, ?_⟩) (by assumption) ?_
  rotate_left
  · intro w hSw; (try dsimp only at hSw); go_simp; first | done | with_reducible rfl
  try simp only [Act.put, List.setIfInBounds_toArray, List.set_cons_zero, List.set_cons_succ]
  refine wpAnyH_take (i := 4) (oi := ({ dst := some 19, op := Op.fieldAddr 43 (Operand.tmp 18) 1, type := 0, pos := "ref.go:47", after := #[{ on := 3, ground := Ground.data }], guard := none } : Oper)) (v := ?_) rfl (by kernel_rfl) (by kernel_rfl) (by kernel_rfl) (fun _ _ _ h => h) (Or.inl ⟨by rfl, ?_⟩) (by assumption) ?_
  rotate_left
  · intro w hSw; (try dsimp only at hSw); go_simp; first | done | with_reducible rfl
  try simp only [Act.put, List.setIfInBounds_toArray, List.set_cons_zero, List.set_cons_succ]
  refine wpAnyH_take (i := 5) (oi := ({ dst := some 20, op := Op.load 3 (Operand.tmp 19), type := 3, pos := "ref.go:47", after := #[{ on := 4, ground := Ground.data }], guard := none } : Oper)) (v := ?_) rfl (by kernel_rfl) (by kernel_rfl) (by kernel_rfl) (fun _ _ _ h => h) (Or.inl ⟨by rfl, ?_⟩) (by assumption) ?_
  rotate_left
  · intro w hSw; (try dsimp only at hSw); go_simp; first | done | with_reducible rfl
  try simp only [Act.put, List.setIfInBounds_toArray, List.set_cons_zero, List.set_cons_succ]
  refine wpAnyH_take (i := 6) (oi := ({ dst := some 21, op := Op.fieldAddr 46 (Operand.tmp 1) 1, type := 0, pos := "ref.go:47", after := #[], guard := none } : Oper)) (v := ?_) rfl (by kernel_rfl) (by kernel_rfl) (by kernel_rfl) (fun _ _ _ h => h) (Or.inl ⟨by rfl, ?_⟩) (by assumption) ?_
  rotate_left
  · intro w hSw; (try dsimp only at hSw); go_simp; first | done | with_reducible rfl
  try simp only [Act.put, List.setIfInBounds_toArray, List.set_cons_zero, List.set_cons_succ]
  refine wpAnyH_take (i := 7) (oi := ({ dst := some 22, op := Op.load 3 (Operand.tmp 21), type := 3, pos := "ref.go:47", after := #[{ on := 6, ground := Ground.data }], guard := none } : Oper)) (v := ?_) rfl (by kernel_rfl) (by kernel_rfl) (by kernel_rfl) (fun _ _ _ h => h) (Or.inl ⟨by rfl, ?_⟩) (by assumption) ?_
  rotate_left
  · intro w hSw; (try dsimp only at hSw); go_simp; first | done | with_reducible rfl
  try simp only [Act.put, List.setIfInBounds_toArray, List.set_cons_zero, List.set_cons_succ]
  refine wpAnyH_take (i := 10) (oi := ({ dst := some 25, op := Op.fieldAddr 46 (Operand.tmp 1) 2, type := 0, pos := "ref.go:47", after := #[], guard := none } : Oper)) (v := ?_) rfl (by kernel_rfl) (by kernel_rfl) (by kernel_rfl) (fun _ _ _ h => h) (Or.inl ⟨by rfl, ?_⟩) (by assumption) ?_
  rotate_left
  · intro w hSw; (try dsimp only at hSw); go_simp; first | done | with_reducible rfl
  try simp only [Act.put, List.setIfInBounds_toArray, List.set_cons_zero, List.set_cons_succ]
  refine wpAnyH_take (i := 11) (oi := ({ dst := some 26, op := Op.load 22 (Operand.tmp 25), type := 22, pos := "ref.go:47", after := #[{ on := 10, ground := Ground.data }], guard := none } : Oper)) (v := ?_) rfl (by kernel_rfl) (by kernel_rfl) (by kernel_rfl) (fun _ _ _ h => h) (Or.inl ⟨by rfl, ?_⟩) (by assumption) ?_
  rotate_left
  · intro w hSw; (try dsimp only at hSw); go_simp; first | done | with_reducible rfl
  try simp only [Act.put, List.setIfInBounds_toArray, List.set_cons_zero, List.set_cons_succ]
  refine wpAnyH_take (i := 12) (oi := ({ dst := some 27, op := Op.move (Operand.tmp 4), type := 22, pos := "ref.go:47", after := #[], guard := none } : Oper)) (v := ?_) rfl (by kernel_rfl) (by kernel_rfl) (by kernel_rfl) (fun _ _ _ h => h) (Or.inl ⟨by rfl, ?_⟩) (by assumption) ?_
  rotate_left
  · intro w hSw; (try dsimp only at hSw); go_simp; first | done | with_reducible rfl
  try simp only [Act.put, List.setIfInBounds_toArray, List.set_cons_zero, List.set_cons_succ]
  refine wpAnyH_ready (rs := [8]) (by kernel_rfl) (by simp) ?_
  refine AllReadyH.cons (o := ({ dst := some 23, op := Op.buildSlice 70 3 #[(0, Operand.tmp 17), (1, Operand.tmp 20), (2, Operand.tmp 22)], type := 70, pos := "ref.go:47", after := #[{ on := 2, ground := Ground.data }, { on := 5, ground := Ground.data }, { on := 7, ground := Ground.data }], guard := none } : Oper)) rfl (fun K hK => ?_) AllReadyH.nil
  go_simp
  refine hK.out _ _ ((bk_drew (HK.out.alloc (.cells #[.int .i64 l.f1, .int .i64 l.f2, .int .i64 l.r] 3))).five) (fun hHeld => ?_)
  clear hK K
  try simp only [Act.put, List.setIfInBounds_toArray, List.set_cons_zero, List.set_cons_succ]
  have HB1 := Lib.hid (below_drew (HB.out.alloc HB.out.size (.cells #[.int .i64 l.f1, .int .i64 l.f2, .int .i64 l.r] 3)))
  have HK1 := Lib.hid (bk_drew (HK.out.alloc (.cells #[.int .i64 l.f1, .int .i64 l.f2, .int .i64 l.r] 3)))
  have hx1 := below_drew ((Below.refl X.heap.size X).alloc (Nat.le_refl _) (.cells #[.int .i64 l.f1, .int .i64 l.f2, .int .i64 l.r] 3))
  have HL1 := Lib.hid (HL.out.below hx1)
  have HT1 := Lib.hid (HT.out.below hx1)
  have HR1 := Lib.hid (show Rd (X.alloc (.cells #[.int .i64 l.f1, .int .i64 l.f2, .int .i64 l.r] 3)).drew (some ⟨X.heap.size, 0, none⟩) 3 ([l.f1, l.f2, l.r].map iv) from Rd.new X [.int .i64 l.f1, .int .i64 l.f2, .int .i64 l.r] 3)
  clear HB HK HL HT hx1
  refine wpAnyH_ready (rs := [9]) (by kernel_rfl) (by simp) ?_
  refine AllReadyH.cons (o := ({ dst := some 24, op := Op.call { callee := Callee.value (Operand.func 41), args := #[Operand.tmp 23], argTypes := #[70] }, type := 22, pos := "ref.go:47", after := #[{ on := 8, ground := Ground.data }], guard := none } : Oper)) rfl (fun K hK => ?_) AllReadyH.nil
  go_simp
  refine (refNumsB_any _ _ _ _ _ HR1.out (by omega) HNB.out).mono ?_
  rintro e w2 ⟨A2, n2, c2, rfl, ho2, hb2⟩
  have HB2 := Lib.hid (below_next HB1.out hb2 HB1.out.size)
  have HK2 := Lib.hid (HK1.out.kept hb2)
  have HL2 := Lib.hid (HL1.out.below hb2)
  have HT2 := Lib.hid (HT1.out.below hb2)
  have HO2 := Lib.hid ho2
  clear hb2 ho2
  go_wp2_with fail
  refine hK.out _ _ (HK2.out.five) (fun hHeld => ?_)
  clear hK K
  try simp only [Act.put, List.setIfInBounds_toArray, List.set_cons_zero, List.set_cons_succ]
  refine wpAnyH_ready (rs := [13]) (by kernel_rfl) (by simp) ?_
  refine AllReadyH.cons (o := ({ dst := some 28, op := Op.buildSlice 44 3 #[(0, Operand.tmp 24), (1, Operand.tmp 26), (2, Operand.tmp 27)], type := 44, pos := "ref.go:47", after := #[{ on := 9, ground := Ground.data }, { on := 11, ground := Ground.data }, { on := 12, ground := Ground.data }], guard := none } : Oper)) rfl (fun K hK => ?_) AllReadyH.nil
  go_simp
  refine hK.out _ _ ((HK2.out.alloc (.cells #[.slice A2 n2 c2, .slice A l.body.length c, .slice A4 n4 c4] 22)).five) (fun hHeld => ?_)
  clear hK K
  try simp only [Act.put, List.setIfInBounds_toArray, List.set_cons_zero, List.set_cons_succ]
  have HB5 := Lib.hid (HB2.out.alloc HB2.out.size (.cells #[.slice A2 n2 c2, .slice A l.body.length c, .slice A4 n4 c4] 22))
  have HK5 := Lib.hid (HK2.out.alloc (.cells #[.slice A2 n2 c2, .slice A l.body.length c, .slice A4 n4 c4] 22))
  have HR5 := Lib.hid (rows_made3 w2 22 HO2.out.row HL2.out.1.row HT2.out.row)
  refine wpAnyH_ready (rs := [14]) (by kernel_rfl) (by simp) ?_
  refine AllReadyH.cons (o := ({ dst := some 29, op := Op.call { callee := Callee.value (Operand.func 44), args := #[Operand.tmp 28], argTypes := #[44] }, type := 33, pos := "ref.go:47", after := #[{ on := 13, ground := Ground.data }, { on := 9, ground := Ground.chain }], guard := none } : Oper)) rfl (fun K hK => ?_) AllReadyH.nil
  go_simp
  refine (refJoinX_any _ _ _ _ _ HR5.out (HTA.out _ HLT.out)).mono ?_
  rintro e w6 ⟨hb6, hj⟩
  obtain ⟨A6, n6, c6, k6, l6, rfl, ho6, hp6⟩ : ∃ A6 n6 c6 k6 l6, e = .returned (.tuple #[.slice A6 n6 c6, .int .i64 ((k6 : Nat) : Int)]) ∧ OwnB w6 (w2.alloc (.cells #[.slice A2 n2 c2, .slice A l.body.length c, .slice A4 n4 c4] 22)).heap.size A6 n6 c6 l6 ∧ l.encode = (k6, l6) := by
    have hen : l.encode = match l.pack with | none => (13, []) | some b => (0, b) := by unfold Lt.encode; rw [if_neg (by rw [HOK.out]; decide)]; cases l.pack <;> rfl
    have hpk : l.pack = joinX [numsN [l.f1, l.f2, l.r], l.body, joinN l.tags] := by unfold Lt.pack; rw [HLT.out]
    rcases hj with ⟨lr, hlr, A6, n6, c6, rfl, ho6⟩ | ⟨hlr, rfl⟩
    · exact ⟨A6, n6, c6, 0, lr, rfl, ho6, by rw [hen, hpk, hlr]⟩
    · exact ⟨none, 0, 0, 13, [], rfl, OwnB.nil_ _ _, by rw [hen, hpk, hlr]⟩
  have HB6 := Lib.hid (below_next HB5.out hb6 HB5.out.size)
  have HK6 := Lib.hid (HK5.out.kept hb6)
  have HO6 := Lib.hid (ho6.more HB5.out.size)
  have HEN := Lib.hid hp6
  clear hb6 ho6 hp6 hj
  go_wp2_with fail
  refine hK.out _ _ (HK6.out.five) (fun hHeld => ?_)
  clear hK K
  try simp only [Act.put, List.setIfInBounds_toArray, List.set_cons_zero, List.set_cons_succ]
  refine wpAnyH_take (i := 15) (oi := ({ dst := some 30, op := Op.extract (Operand.tmp 29) 0, type := 22, pos := "ref.go:47", after := #[{ on := 14, ground := Ground.data }], guard := none } : Oper)) (v := ?_) rfl (by kernel_rfl) (by kernel_rfl) (by kernel_rfl) (fun _ _ _ h => h) (Or.inl ⟨by rfl, ?_⟩) (by assumption) ?_
  rotate_left
  · intro w hSw; (try dsimp only at hSw); go_simp; first | done | with_reducible rfl
  try simp only [Act.put, List.setIfInBounds_toArray, List.set_cons_zero, List.set_cons_succ]
  refine wpAnyH_take (i := 16) (oi := ({ dst := some 31, op := Op.extract (Operand.tmp 29) 1, type := 32, pos := "ref.go:47", after := #[{ on := 14, ground := Ground.data }], guard := none } : Oper)) (v := ?_) rfl (by kernel_rfl) (by kernel_rfl) (by kernel_rfl) (fun _ _ _ h => h) (Or.inl ⟨by rfl, ?_⟩) (by assumption) ?_
  rotate_left
  · intro w hSw; (try dsimp only at hSw); go_simp; first | done | with_reducible rfl
  try simp only [Act.put, List.setIfInBounds_toArray, List.set_cons_zero, List.set_cons_succ]
  refine wpAnyH_take (i := 17) (oi := ({ dst := some 2, op := Op.assign (Operand.tmp 30), type := 22, pos := "ref.go:47", after := #[{ on := 15, ground := Ground.data }, { on := 14, ground := Ground.chain }, { on := 0, ground := Ground.phase }, { on := 1, ground := Ground.phase }, { on := 2, ground := Ground.phase }, { on := 3, ground := Ground.phase }, { on := 4, ground := Ground.phase }, { on := 5, ground := Ground.phase }, { on := 6, ground := Ground.phase }, { on := 7, ground := Ground.phase }, { on := 8, ground := Ground.phase }, { on := 9, ground := Ground.phase }, { on := 10, ground := Ground.phase }, { on := 11, ground := Ground.phase }, { on := 12, ground := Ground.phase }, { on := 13, ground := Ground.phase }, { on := 14, ground := Ground.phase }, { on := 15, ground := Ground.phase }, { on := 16, ground := Ground.phase }], guard := none } : Oper)) (v := ?_) rfl (by kernel_rfl) (by kernel_rfl) (by kernel_rfl) (fun _ _ _ h => h) (Or.inl ⟨by rfl, ?_⟩) (by assumption) ?_
  rotate_left
  · intro w hSw; (try dsimp only at hSw); go_simp; first | done | with_reducible rfl
  try simp only [Act.put, List.setIfInBounds_toArray, List.set_cons_zero, List.set_cons_succ]
  refine wpAnyH_take (i := 18) (oi := ({ dst := some 3, op := Op.assign (Operand.tmp 31), type := 32, pos := "ref.go:47", after := #[{ on := 16, ground := Ground.data }, { on := 17, ground := Ground.chain }, { on := 0, ground := Ground.phase }, { on := 1, ground := Ground.phase }, { on := 2, ground := Ground.phase }, { on := 3, ground := Ground.phase }, { on := 4, ground := Ground.phase }, { on := 5, ground := Ground.phase }, { on := 6, ground := Ground.phase }, { on := 7, ground := Ground.phase }, { on := 8, ground := Ground.phase }, { on := 9, ground := Ground.phase }, { on := 10, ground := Ground.phase }, { on := 11, ground := Ground.phase }, { on := 12, ground := Ground.phase }, { on := 13, ground := Ground.phase }, { on := 14, ground := Ground.phase }, { on := 15, ground := Ground.phase }, { on := 16, ground := Ground.phase }, { on := 17, ground := Ground.phase }], guard := none } : Oper)) (v := ?_) rfl (by kernel_rfl) (by kernel_rfl) (by kernel_rfl) (fun _ _ _ h => h) (Or.inl ⟨by rfl, ?_⟩) (by assumption) ?_
  rotate_left
  · intro w hSw; (try dsimp only at hSw); go_simp; first | done | with_reducible rfl
  try simp only [Act.put, List.setIfInBounds_toArray, List.set_cons_zero, List.set_cons_succ]
  refine wpAnyH_done (by kernel_rfl) ?_ _
  go_wp2_with fail
  go_ret2
  exact ⟨HB6.out, A6, n6, c6, by rw [HEN.out]; rfl, by rw [HEN.out]; exact HO6.out⟩

set_option maxHeartbeats 1600000 in
theorem refPackEntry_any (e : En) (A : Option Addr) (c : Nat) (F : Nat → Prop) (w : World) (h : BF F w A c e.dig) :
    Calls Try.prog 26 #[.agg #[.int .i64 e.c, .int .i64 e.s, .int .i64 e.t, .slice A e.dig.length c]] w (EncP e.encode w) := by
  have hB := (Below.refl w.heap.size w).alloc (Nat.le_refl _) (.cells #[.int .i64 e.c, .int .i64 e.s, .int .i64 e.t, .slice A e.dig.length c] 24)
  have HB0 := Lib.hid hB
  have HK0 := Lib.hid (Bk.new w 24 [.int .i64 e.c, .int .i64 e.s, .int .i64 e.t, .slice A e.dig.length c])
  have HL0 := Lib.hid (h.below hB)
  clear h hB
  go_enter Try.func26, Try.ntmps26
  go_wp2_with fail
  refine (refEntry_any e A c _).mono ?_
  rintro en X ⟨rfl, hb1⟩
  have HB := Lib.hid (below_next HB0.out hb1 HB0.out.size)
  have HK := Lib.hid (HK0.out.kept hb1)
  have HL := Lib.hid (HL0.out.below hb1)
  clear hb1
  cases hok : e.ok
  · have HEN := Lib.hid (show e.encode = (81, []) by unfold En.encode; rw [if_pos hok])
    clear hok
    go_wp2_with fail
    go_ret2
    exact ⟨HB.out, none, 0, 0, by rw [HEN.out]; rfl, by rw [HEN.out]; exact OwnB.nil_ _ _⟩
  have HEN := Lib.hid (show e.encode = (0, e.pack) by unfold En.encode; rw [if_neg (by rw [hok]; decide)])
  have hsz := en_ok hok
  have HNB := Lib.hid hsz.1
  have HJX := Lib.hid (en_join hok)
  have HTA := Lib.hid (show total [numsN [e.c + 1, e.s, e.t], e.dig] ≤ 68719476736 by
    have h2 := numsN_len3 hsz.1 (by simp)
    have h3 := hsz.2.1
    simp only [total]
    omega)
  obtain ⟨_, _, y1, y2⟩ := hsz
  have y3 : IntKind.i64.wrap (e.c + 1) = e.c + 1 := by rw [IntKind.wrap_i64]; omega
  clear hok HB0 HK0 HL0
  go_wp2_with fail
  refine wp_region_held_drew (S := fun w' => w'.cell? ⟨w.heap.size, 0, none⟩ = some (.int .i64 e.c) ∧ w'.cell? ⟨w.heap.size, 1, none⟩ = some (.int .i64 e.s) ∧ w'.cell? ⟨w.heap.size, 2, none⟩ = some (.int .i64 e.t) ∧ w'.cell? ⟨w.heap.size, 3, none⟩ = some (.slice A e.dig.length c)) (by kernel_rfl) (⟨(bk_drew HK.out).at_ (i := 0) rfl, (bk_drew HK.out).at_ (i := 1) rfl, (bk_drew HK.out).at_ (i := 2) rfl, (bk_drew HK.out).at_ (i := 3) rfl⟩) (fun hHeld => ?_)
  refine wpAnyH_take (i := 0) (oi := ({ dst := some 7, op := Op.fieldAddr 24 (Operand.tmp 1) 0, type := 0, pos := "ref.go:75", after := #[], guard := none } : Oper)) (v := ?_) rfl (by kernel_rfl) (by kernel_rfl) (by kernel_rfl) (fun _ _ _ h => h) (Or.inl ⟨by rfl, ?_⟩) (by assumption) ?_
  rotate_left
  · intro w hSw; (try dsimp only at hSw); go_simp; first | done | with_reducible rfl
  try simp only [Act.put, List.setIfInBounds_toArray, List.set_cons_zero, List.set_cons_succ]
  refine wpAnyH_take (i := 1) (oi := ({ dst := some 8, op := Op.load 3 (Operand.tmp 7), type := 3, pos := "ref.go:75", after := #[{ on := 0, ground := Ground.data }], guard := none } : Oper)) (v := ?_) rfl (by kernel_rfl) (by kernel_rfl) (by kernel_rfl) (fun _ _ _ h => h) (Or.inl ⟨by rfl, ?_⟩) (by assumption) ?_
  rotate_left
  · intro w hSw; (try dsimp only at hSw); go_simp; first | done | with_reducible rfl
  try simp only [Act.put, List.setIfInBounds_toArray, List.set_cons_zero, List.set_cons_succ]
  refine wpAnyH_take (i := 2) (oi := ({ dst := some 9, op := Op.binOp BinOp.add 3 (Operand.tmp 8) (Operand.const (Value.int IntKind.i64 1)) 3, type := 3, pos := "ref.go:75", after := #[{ on := 1, ground := Ground.data }], guard := none } : Oper)) (v := ?_) rfl (by kernel_rfl) (by kernel_rfl) (by kernel_rfl) (fun _ _ _ h => h) (Or.inl ⟨by rfl, ?_⟩) (by assumption) ?_
  rotate_left
  · intro w hSw; (try dsimp only at hSw); go_simp; first | done | with_reducible rfl
  try simp only [Act.put, List.setIfInBounds_toArray, List.set_cons_zero, List.set_cons_succ]
  refine wpAnyH_take (i := 3) (oi := ({ dst := some 10, op := Op.fieldAddr 24 (Operand.tmp 1) 1, type := 0, pos := "ref.go:75", after := #[], guard := none } : Oper)) (v := ?_) rfl (by kernel_rfl) (by kernel_rfl) (by kernel_rfl) (fun _ _ _ h => h) (Or.inl ⟨by rfl, ?_⟩) (by assumption) ?_
  rotate_left
  · intro w hSw; (try dsimp only at hSw); go_simp; first | done | with_reducible rfl
  try simp only [Act.put, List.setIfInBounds_toArray, List.set_cons_zero, List.set_cons_succ]
  refine wpAnyH_take (i := 4) (oi := ({ dst := some 11, op := Op.load 3 (Operand.tmp 10), type := 3, pos := "ref.go:75", after := #[{ on := 3, ground := Ground.data }], guard := none } : Oper)) (v := ?_) rfl (by kernel_rfl) (by kernel_rfl) (by kernel_rfl) (fun _ _ _ h => h) (Or.inl ⟨by rfl, ?_⟩) (by assumption) ?_
  rotate_left
  · intro w hSw; (try dsimp only at hSw); go_simp; first | done | with_reducible rfl
  try simp only [Act.put, List.setIfInBounds_toArray, List.set_cons_zero, List.set_cons_succ]
  refine wpAnyH_take (i := 5) (oi := ({ dst := some 12, op := Op.fieldAddr 24 (Operand.tmp 1) 2, type := 0, pos := "ref.go:75", after := #[], guard := none } : Oper)) (v := ?_) rfl (by kernel_rfl) (by kernel_rfl) (by kernel_rfl) (fun _ _ _ h => h) (Or.inl ⟨by rfl, ?_⟩) (by assumption) ?_
  rotate_left
  · intro w hSw; (try dsimp only at hSw); go_simp; first | done | with_reducible rfl
  try simp only [Act.put, List.setIfInBounds_toArray, List.set_cons_zero, List.set_cons_succ]
  refine wpAnyH_take (i := 6) (oi := ({ dst := some 13, op := Op.load 3 (Operand.tmp 12), type := 3, pos := "ref.go:75", after := #[{ on := 5, ground := Ground.data }], guard := none } : Oper)) (v := ?_) rfl (by kernel_rfl) (by kernel_rfl) (by kernel_rfl) (fun _ _ _ h => h) (Or.inl ⟨by rfl, ?_⟩) (by assumption) ?_
  rotate_left
  · intro w hSw; (try dsimp only at hSw); go_simp; first | done | with_reducible rfl
  try simp only [Act.put, List.setIfInBounds_toArray, List.set_cons_zero, List.set_cons_succ]
  refine wpAnyH_take (i := 9) (oi := ({ dst := some 16, op := Op.fieldAddr 24 (Operand.tmp 1) 3, type := 0, pos := "ref.go:75", after := #[], guard := none } : Oper)) (v := ?_) rfl (by kernel_rfl) (by kernel_rfl) (by kernel_rfl) (fun _ _ _ h => h) (Or.inl ⟨by rfl, ?_⟩) (by assumption) ?_
  rotate_left
  · intro w hSw; (try dsimp only at hSw); go_simp; first | done | with_reducible rfl
  try simp only [Act.put, List.setIfInBounds_toArray, List.set_cons_zero, List.set_cons_succ]
  refine wpAnyH_take (i := 10) (oi := ({ dst := some 17, op := Op.load 22 (Operand.tmp 16), type := 22, pos := "ref.go:75", after := #[{ on := 9, ground := Ground.data }], guard := none } : Oper)) (v := ?_) rfl (by kernel_rfl) (by kernel_rfl) (by kernel_rfl) (fun _ _ _ h => h) (Or.inl ⟨by rfl, ?_⟩) (by assumption) ?_
  rotate_left
  · intro w hSw; (try dsimp only at hSw); go_simp; first | done | with_reducible rfl
  try simp only [Act.put, List.setIfInBounds_toArray, List.set_cons_zero, List.set_cons_succ]
  refine wpAnyH_ready (rs := [7]) (by kernel_rfl) (by simp) ?_
  refine AllReadyH.cons (o := ({ dst := some 14, op := Op.buildSlice 70 3 #[(0, Operand.tmp 9), (1, Operand.tmp 11), (2, Operand.tmp 13)], type := 70, pos := "ref.go:75", after := #[{ on := 2, ground := Ground.data }, { on := 4, ground := Ground.data }, { on := 6, ground := Ground.data }], guard := none } : Oper)) rfl (fun K hK => ?_) AllReadyH.nil
  go_simp
  refine hK.out _ _ (⟨(bk_drew (HK.out.alloc (.cells #[.int .i64 (e.c + 1), .int .i64 e.s, .int .i64 e.t] 3))).at_ (i := 0) rfl, (bk_drew (HK.out.alloc (.cells #[.int .i64 (e.c + 1), .int .i64 e.s, .int .i64 e.t] 3))).at_ (i := 1) rfl, (bk_drew (HK.out.alloc (.cells #[.int .i64 (e.c + 1), .int .i64 e.s, .int .i64 e.t] 3))).at_ (i := 2) rfl, (bk_drew (HK.out.alloc (.cells #[.int .i64 (e.c + 1), .int .i64 e.s, .int .i64 e.t] 3))).at_ (i := 3) rfl⟩) (fun hHeld => ?_)
  clear hK K
  try simp only [Act.put, List.setIfInBounds_toArray, List.set_cons_zero, List.set_cons_succ]
  have HB1 := Lib.hid (below_drew (HB.out.alloc HB.out.size (.cells #[.int .i64 (e.c + 1), .int .i64 e.s, .int .i64 e.t] 3)))
  have HK1 := Lib.hid (bk_drew (HK.out.alloc (.cells #[.int .i64 (e.c + 1), .int .i64 e.s, .int .i64 e.t] 3)))
  have HL1 := Lib.hid (HL.out.below (below_drew ((Below.refl _ _).alloc (Nat.le_refl _) (.cells #[.int .i64 (e.c + 1), .int .i64 e.s, .int .i64 e.t] 3))))
  have HR1 := Lib.hid (show Rd (X.alloc (.cells #[.int .i64 (e.c + 1), .int .i64 e.s, .int .i64 e.t] 3)).drew (some ⟨X.heap.size, 0, none⟩) 3 ([e.c + 1, e.s, e.t].map iv) from Rd.new X [.int .i64 (e.c + 1), .int .i64 e.s, .int .i64 e.t] 3)
  clear HB HK HL
  refine wpAnyH_ready (rs := [8]) (by kernel_rfl) (by simp) ?_
  refine AllReadyH.cons (o := ({ dst := some 15, op := Op.call { callee := Callee.value (Operand.func 41), args := #[Operand.tmp 14], argTypes := #[70] }, type := 22, pos := "ref.go:75", after := #[{ on := 7, ground := Ground.data }], guard := none } : Oper)) rfl (fun K hK => ?_) AllReadyH.nil
  go_simp
  refine (refNumsB_any _ _ _ _ _ HR1.out (by omega) HNB.out).mono ?_
  rintro e2 w2 ⟨A2, n2, c2, rfl, ho2, hb2⟩
  have HB2 := Lib.hid (below_next HB1.out hb2 HB1.out.size)
  have HK2 := Lib.hid (HK1.out.kept hb2)
  have HL2 := Lib.hid (HL1.out.below hb2)
  have HO2 := Lib.hid ho2
  clear hb2 ho2
  go_wp2_with fail
  refine hK.out _ _ (⟨HK2.out.at_ (i := 0) rfl, HK2.out.at_ (i := 1) rfl, HK2.out.at_ (i := 2) rfl, HK2.out.at_ (i := 3) rfl⟩) (fun hHeld => ?_)
  clear hK K
  try simp only [Act.put, List.setIfInBounds_toArray, List.set_cons_zero, List.set_cons_succ]
  refine wpAnyH_ready (rs := [11]) (by kernel_rfl) (by simp) ?_
  refine AllReadyH.cons (o := ({ dst := some 18, op := Op.buildSlice 44 2 #[(0, Operand.tmp 15), (1, Operand.tmp 17)], type := 44, pos := "ref.go:75", after := #[{ on := 8, ground := Ground.data }, { on := 10, ground := Ground.data }], guard := none } : Oper)) rfl (fun K hK => ?_) AllReadyH.nil
  go_simp
  refine hK.out _ _ (⟨(HK2.out.alloc (.cells #[.slice A2 n2 c2, .slice A e.dig.length c] 22)).at_ (i := 0) rfl, (HK2.out.alloc (.cells #[.slice A2 n2 c2, .slice A e.dig.length c] 22)).at_ (i := 1) rfl, (HK2.out.alloc (.cells #[.slice A2 n2 c2, .slice A e.dig.length c] 22)).at_ (i := 2) rfl, (HK2.out.alloc (.cells #[.slice A2 n2 c2, .slice A e.dig.length c] 22)).at_ (i := 3) rfl⟩) (fun hHeld => ?_)
  clear hK K
  try simp only [Act.put, List.setIfInBounds_toArray, List.set_cons_zero, List.set_cons_succ]
  have HB5 := Lib.hid (HB2.out.alloc HB2.out.size (.cells #[.slice A2 n2 c2, .slice A e.dig.length c] 22))
  have HK5 := Lib.hid (HK2.out.alloc (.cells #[.slice A2 n2 c2, .slice A e.dig.length c] 22))
  have HR5 := Lib.hid (rows_made2 w2 22 HO2.out.row HL2.out.row)
  refine wpAnyH_ready (rs := [12]) (by kernel_rfl) (by simp) ?_
  refine AllReadyH.cons (o := ({ dst := some 19, op := Op.call { callee := Callee.value (Operand.func 44), args := #[Operand.tmp 18], argTypes := #[44] }, type := 33, pos := "ref.go:75", after := #[{ on := 11, ground := Ground.data }, { on := 8, ground := Ground.chain }], guard := none } : Oper)) rfl (fun K hK => ?_) AllReadyH.nil
  go_simp
  refine (refJoinX_any _ _ _ _ _ HR5.out HTA.out).mono ?_
  rw [HJX.out]
  rintro e6 w6 ⟨hb6, ⟨lr, hlr, A6, n6, c6, rfl, ho6⟩ | ⟨hlr, rfl⟩⟩
  rotate_left
  · cases hlr
  obtain rfl := Option.some.inj hlr
  have HB6 := Lib.hid (below_next HB5.out hb6 HB5.out.size)
  have HK6 := Lib.hid (HK5.out.kept hb6)
  have HO6 := Lib.hid (ho6.more HB5.out.size)
  clear hb6 ho6 hlr
  go_wp2_with fail
  refine hK.out _ _ (⟨HK6.out.at_ (i := 0) rfl, HK6.out.at_ (i := 1) rfl, HK6.out.at_ (i := 2) rfl, HK6.out.at_ (i := 3) rfl⟩) (fun hHeld => ?_)
  clear hK K
  try simp only [Act.put, List.setIfInBounds_toArray, List.set_cons_zero, List.set_cons_succ]
  refine wpAnyH_take (i := 13) (oi := ({ dst := some 20, op := Op.extract (Operand.tmp 19) 0, type := 22, pos := "ref.go:75", after := #[{ on := 12, ground := Ground.data }], guard := none } : Oper)) (v := ?_) rfl (by kernel_rfl) (by kernel_rfl) (by kernel_rfl) (fun _ _ _ h => h) (Or.inl ⟨by rfl, ?_⟩) (by assumption) ?_
  rotate_left
  · intro w hSw; (try dsimp only at hSw); go_simp; first | done | with_reducible rfl
  try simp only [Act.put, List.setIfInBounds_toArray, List.set_cons_zero, List.set_cons_succ]
  refine wpAnyH_take (i := 14) (oi := ({ dst := some 21, op := Op.extract (Operand.tmp 19) 1, type := 32, pos := "ref.go:75", after := #[{ on := 12, ground := Ground.data }], guard := none } : Oper)) (v := ?_) rfl (by kernel_rfl) (by kernel_rfl) (by kernel_rfl) (fun _ _ _ h => h) (Or.inl ⟨by rfl, ?_⟩) (by assumption) ?_
  rotate_left
  · intro w hSw; (try dsimp only at hSw); go_simp; first | done | with_reducible rfl
  try simp only [Act.put, List.setIfInBounds_toArray, List.set_cons_zero, List.set_cons_succ]
  refine wpAnyH_take (i := 15) (oi := ({ dst := some 2, op := Op.assign (Operand.tmp 20), type := 22, pos := "ref.go:75", after := #[{ on := 13, ground := Ground.data }, { on := 12, ground := Ground.chain }, { on := 0, ground := Ground.phase }, { on := 1, ground := Ground.phase }, { on := 2, ground := Ground.phase }, { on := 3, ground := Ground.phase }, { on := 4, ground := Ground.phase }, { on := 5, ground := Ground.phase }, { on := 6, ground := Ground.phase }, { on := 7, ground := Ground.phase }, { on := 8, ground := Ground.phase }, { on := 9, ground := Ground.phase }, { on := 10, ground := Ground.phase }, { on := 11, ground := Ground.phase }, { on := 12, ground := Ground.phase }, { on := 13, ground := Ground.phase }, { on := 14, ground := Ground.phase }], guard := none } : Oper)) (v := ?_) rfl (by kernel_rfl) (by kernel_rfl) (by kernel_rfl) (fun _ _ _ h => h) (Or.inl ⟨by rfl, ?_⟩) (by assumption) ?_
  rotate_left
  · intro w hSw; (try dsimp only at hSw); go_simp; first | done | with_reducible rfl
  try simp only [Act.put, List.setIfInBounds_toArray, List.set_cons_zero, List.set_cons_succ]
  refine wpAnyH_take (i := 16) (oi := ({ dst := some 3, op := Op.assign (Operand.tmp 21), type := 32, pos := "ref.go:75", after := #[{ on := 14, ground := Ground.data }, { on := 15, ground := Ground.chain }, { on := 0, ground := Ground.phase }, { on := 1, ground := Ground.phase }, { on := 2, ground := Ground.phase }, { on := 3, ground := Ground.phase }, { on := 4, ground := Ground.phase }, { on := 5, ground := Ground.phase }, { on := 6, ground := Ground.phase }, { on := 7, ground := Ground.phase }, { on := 8, ground := Ground.phase }, { on := 9, ground := Ground.phase }, { on := 10, ground := Ground.phase }, { on := 11, ground := Ground.phase }, { on := 12, ground := Ground.phase }, { on := 13, ground := Ground.phase }, { on := 14, ground := Ground.phase }, { on := 15, ground := Ground.phase }], guard := none } : Oper)) (v := ?_) rfl (by kernel_rfl) (by kernel_rfl) (by kernel_rfl) (fun _ _ _ h => h) (Or.inl ⟨by rfl, ?_⟩) (by assumption) ?_
  rotate_left
  · intro w hSw; (try dsimp only at hSw); go_simp; first | done | with_reducible rfl
  try simp only [Act.put, List.setIfInBounds_toArray, List.set_cons_zero, List.set_cons_succ]
  refine wpAnyH_done (by kernel_rfl) ?_ _
  go_wp2_with fail
  go_ret2
  exact ⟨HB6.out, A6, n6, c6, by rw [HEN.out]; rfl, by rw [HEN.out]; exact HO6.out⟩
end Go.Proofs.Ytmgmmbgjmnklkaa
