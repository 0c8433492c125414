/-
  The reference's Load. Walks; no statement.
-/
import Derived.Test.YtgppclmofphlfaaGreatDoorTreeRef4
import Derived.Test.YtgppclmofphlfaaGreatDoorTreeCopy
import Derived.Test.YtgppclmofphlfaaGreatDoorMRows
import Derived.BigQuiet
namespace Go.Proofs.YtgppclmofphlfaaGreatDoor
set_option maxRecDepth 100000
open Go.RowKit
set_option linter.unusedVariables false
set_option maxRecDepth 100000

/-- what the reference's calls leave: the tree as a value, and what else they tell -/
def FreshRf (F : Nat → Prop) (t : List Lf) (rest : List Value) (w : World) (e : Ending) (w' : World) : Prop :=
  Below w.heap.size w w' ∧ ∃ A c, e = .returned (.tuple (Value.agg #[.slice A t.length c] :: rest).toArray) ∧ RdS RLf (fun b => F b ∨ w.heap.size ≤ b) w' A c t
theorem fresh_exit {F : Nat → Prop} {w X : World} {A : Option Addr} {c g : Nat} {t : List Lf} (h : RdS RLf F w A c t) (hX : Below w.heap.size w X) (hg : w.heap.size ≤ g) (v : Value) (rest : List Value) :
    FreshRf F t rest w (.returned (.tuple (Value.agg #[.slice A t.length c] :: rest).toArray)) (X.setCell ⟨g, 0, none⟩ v) := by
  have g1 := grown_set (grown_refl X (some g)) 0 v
  refine ⟨hX.grown g1 hX.size (fun b hb => by injection hb with hb; omega), A, c, rfl, ?_⟩
  have h1 := h.keep (F' := fun b => F b ∧ b < w.heap.size) (w' := X) (Kp.of_below hX) fun b hb hl => ⟨hb, hl⟩
  exact h1.keep (Kp.of_grown g1 fun b hb e => by injection e with e; omega) fun b hb _ => .inl hb.1
theorem fresh_done {F : Nat → Prop} {w X : World} {A : Option Addr} {c : Nat} {t : List Lf} (hX : Below w.heap.size w X) (h : RdS RLf (fun b => (F b ∧ b < w.heap.size) ∨ w.heap.size + 2 ≤ b) X A c t) (v : Value) (rest : List Value) :
    FreshRf F t rest w (.returned (.tuple (Value.agg #[.slice A t.length c] :: rest).toArray)) (X.setCell ⟨w.heap.size + 1, 0, none⟩ v) := by
  have g1 := grown_set (grown_refl X (some (w.heap.size + 1))) 0 v
  refine ⟨hX.grown g1 hX.size (fun b hb => by injection hb with hb; omega), A, c, rfl, ?_⟩
  exact h.keep (Kp.of_grown g1 fun b hb e => by injection e with e; omega) fun b hb _ => hb.elim (fun h => .inl h.1) (fun h => .inr (by omega))
theorem run_geq_s (W : World) (a b : List UInt8) : (binOp BinOp.geq 9 (.string ⟨a.toArray⟩) (.string ⟨b.toArray⟩)).run Tryz.prog W = .ok (.bool (!(Op.bytesLess a b))) W := by
  have h : ∀ l : List UInt8, (⟨l.toArray⟩ : ByteArray).toList = l := fun l => by rw [Lib.toList_data]
  simp [binOp, Op.stringOp, h]
theorem getD_of {xs : List Lf} {k : Nat} {x : Lf} (h : xs[k]? = some x) : xs.getD k lfRoot = x := by rw [List.getD_eq_getElem?_getD, h]; rfl
def lfOkay (x : Lf) : Prop := -1 ≤ x.own ∧ 0 ≤ x.ver ∧ 0 ≤ x.next ∧ 0 ≤ x.born ∧ x.data.length ≤ 128
theorem right_not {xs : List Lf} {k : Nat} {x : Lf} (hx : xs[k]? = some x) (h : ¬ lfOkay x) : tRight xs k = false := by
  unfold tRight
  simp only [getD_of hx]
  rw [decide_eq_false (by exact h), Bool.false_and]
theorem right_zero {xs : List Lf} {x : Lf} (hx : xs[0]? = some x) (h : lfOkay x) : tRight xs 0 = true := by
  unfold tRight
  simp only [getD_of hx]
  rw [decide_eq_true (by exact h)]
  rfl
theorem right_ord {xs : List Lf} {k : Nat} {x p : Lf} (hx : xs[k]? = some x) (hk : 0 < k) (hp : xs[k - 1]? = some p) (h : Op.bytesLess p.path x.path = false) : tRight xs k = false := by
  unfold tRight
  simp only [getD_of hx, getD_of hp]
  rw [h, show (k == 0) = false by simp; omega]
  simp
theorem right_par {xs : List Lf} {k : Nat} {x p : Lf} (hx : xs[k]? = some x) (hk : 0 < k) (hp : xs[k - 1]? = some p) (h : Op.bytesLess p.path x.path = true) (ho : lfOkay x) :
    tRight xs k = match parentP x.path with
      | none => false
      | some up => match tAt up xs with
        | none => false
        | some j => decide ((xs.getD j lfRoot).own = -1) := by
  unfold tRight
  simp only [getD_of hx, getD_of hp]
  rw [h, show (k == 0) = false by simp; omega, decide_eq_true (by exact ho)]
  simp only [Bool.true_and, Bool.false_or]
  rfl
theorem loads_no {xs : List Lf} {k : Nat} (hk : k < xs.length) (h : tRight xs k = false) : tLoads xs = false := by
  unfold tLoads
  have : (List.range xs.length).all (tRight xs) = false := by
    rw [List.all_eq_false]
    exact ⟨k, List.mem_range.2 hk, by rw [h]; simp⟩
  rw [this, Bool.and_false]
theorem loads_head {xs : List Lf} {x : Lf} (hx : xs[0]? = some x) (h : ¬ (x.path = [47] ∧ x.own = -1 ∧ x.born = 0)) : tLoads xs = false := by
  unfold tLoads
  rw [getD_of hx, decide_eq_false h, Bool.and_false, Bool.false_and]
theorem loads_yes {xs : List Lf} {x : Lf} (hx : xs[0]? = some x) (h1 : 1 ≤ xs.length ∧ xs.length ≤ 32) (h : x.path = [47] ∧ x.own = -1 ∧ x.born = 0) (ha : ∀ k, k < xs.length → tRight xs k = true) : tLoads xs = true := by
  unfold tLoads
  rw [getD_of hx, decide_eq_true h, decide_eq_true h1, Bool.true_and, Bool.true_and, List.all_eq_true]
  exact fun k hk => ha k (List.mem_range.1 hk)
set_option maxHeartbeats 12800000 in
theorem refLoad_any (A : Option Addr) (c : Nat) (t : List Lf) (F : Nat → Prop) (LA : Option Addr) (LC : Nat) (xs : List Lf) (G : Nat → Prop) (w : World)
    (h : RdS RLf F w A c t) (hl : RdS RLf G w LA LC xs) (hn : lfsBig xs) (hsz : ∀ l ∈ xs, l.path.length ≤ maxLen) :
    Calls Tryz.prog 35 #[.agg #[.slice A t.length c], .slice LA xs.length LC] w (FreshRf F (if tLoads xs then xs else t) [.bool (tLoads xs)] w) := by
  obtain ⟨W2, hW2⟩ : ∃ W2, W2 = (w.alloc (.cells #[.slice A t.length c] 30)).alloc (.cells #[.slice none 0 0] 30) := ⟨_, rfl⟩
  have HB2 := Lib.hid (show Below w.heap.size w W2 by rw [hW2]; exact ((Below.refl w.heap.size w).alloc (Nat.le_refl _) _).alloc (by simp) _)
  have HS2 := Lib.hid (show W2.heap.size = w.heap.size + 2 by rw [hW2]; simp)
  have hk0 : Bk W2 w.heap.size 30 [.slice A t.length c] := by rw [hW2]; exact (Bk.new w 30 [.slice A t.length c]).alloc _
  have hk1 : Bk W2 (w.heap.size + 1) 30 [.slice none 0 0] := by
    rw [hW2]
    have := Bk.new (w.alloc (.cells #[.slice A t.length c] 30)) 30 [.slice none 0 0]
    rw [show (w.alloc (.cells #[.slice A t.length c] 30)).heap.size = w.heap.size + 1 by simp] at this
    exact this
  have HKW := Lib.hid (fun X (hb : Below (w.heap.size + 2) W2 X) => show X.cell? ⟨w.heap.size, 0, none⟩ = some (.slice A t.length c) ∧ X.cell? ⟨w.heap.size + 1, 0, none⟩ = some (.slice none 0 0) ∧ X.frozen? ⟨w.heap.size + 1, 0, none⟩ = false ∧ Bk X (w.heap.size + 1) 30 [.slice none 0 0] ∧ w.heap.size + 2 ≤ X.heap.size ∧ Below w.heap.size w X from
    ⟨(hk0.below hb (by omega)).at_ rfl, (hk1.below hb (by omega)).at_ rfl, (hk1.below hb (by omega)).frozen 0, hk1.below hb (by omega), by have := hb.size; have := HS2.out; omega, HB2.out.trans (hb.mono (by omega))⟩)
  have HX := Lib.hid (fun X (hb : Below w.heap.size w X) => fresh_exit (g := w.heap.size + 1) h hb (by omega) (.slice A t.length c) [.bool false])
  have HXE := Lib.hid (show FreshRf F t [.bool false] w (.returned (.tuple #[.agg #[.slice A t.length c], .bool false])) ((w.alloc (.cells #[.slice A t.length c] 30)).alloc (.cells #[.slice A t.length c] 30)) from
    ⟨((Below.refl w.heap.size w).alloc (Nat.le_refl _) _).alloc (by simp) _, A, c, rfl, (h.below (((Below.refl w.heap.size w).alloc (Nat.le_refl _) _).alloc (by simp) _)).keep ⟨Nat.le_refl _, fun _ _ _ => rfl⟩ fun _ hk _ => .inl hk⟩)
  have HKE := Lib.hid (show Bk ((w.alloc (.cells #[.slice A t.length c] 30)).alloc (.cells #[.slice A t.length c] 30)) (w.heap.size + 1) 30 [.slice A t.length c] by
    have := Bk.new (w.alloc (.cells #[.slice A t.length c] 30)) 30 [.slice A t.length c]
    rw [show (w.alloc (.cells #[.slice A t.length c] 30)).heap.size = w.heap.size + 1 by simp] at this
    exact this)
  have HL := Lib.hid hl
  have HN := Lib.hid hn
  have HSZ := Lib.hid hsz
  have HWE := Lib.hid hW2
  have HB22 := Lib.hid (Below.refl (w.heap.size + 2) W2)
  clear h hl hn hsz hk0 hk1
  obtain ⟨j0, j1, z1, kb, hs, hbw⟩ := HKW.out W2 HB22.out
  have HNO := Lib.hid (show ∀ r v, r = (if tLoads xs = true then xs else t) → v = tLoads xs → tLoads xs = false → r = t ∧ v = false from fun r v e1 e2 e => by rw [e1, e2, e]; exact ⟨rfl, rfl⟩)
  have HYES := Lib.hid (show ∀ r v, r = (if tLoads xs = true then xs else t) → v = tLoads xs → tLoads xs = true → r = xs ∧ v = true from fun r v e1 e2 e => by rw [e1, e2, e]; exact ⟨rfl, rfl⟩)
  obtain ⟨tr, htr⟩ : ∃ r, r = (if tLoads xs = true then xs else t) := ⟨_, rfl⟩
  obtain ⟨tv, htv⟩ : ∃ v, v = tLoads xs := ⟨_, rfl⟩
  rw [← htr, ← htv]
  replace HNO := Lib.hid (HNO.out tr tv htr htv)
  replace HYES := Lib.hid (HYES.out tr tv htr htv)
  clear htr htv
  by_cases h1 : xs.length < 1
  · have y1 : (xs.length : Int) < 1 := by omega
    have HV := Lib.hid (show tLoads xs = false from by unfold tLoads; rw [decide_eq_false (by omega)]; rfl)

    obtain ⟨er, ev⟩ := HNO.out HV.out
    rw [er, ev]
    rw [HWE.out] at j0 j1 z1
    clear er ev HNO HYES HN HL HB22 HS2 HB2 HKW kb hs hW2 hbw HX HSZ
    go_enter Tryz.func35, Tryz.ntmps35
    go_wp2_with fail
    have kk := HKE.out
    refine bodyPost_ret_by (results_row_tmp rfl _ _ (w.heap.size + 1) 30 _ _ rfl kk Tryz.underlying30 rfl info_tree1) rfl ?_
    exact HXE.out
  by_cases h2 : 32 < xs.length
  · have y1 : ¬ (xs.length : Int) < 1 := by omega
    have y2 : (32 : Int) < (xs.length : Int) := by omega
    have HV := Lib.hid (show tLoads xs = false from by unfold tLoads; rw [decide_eq_false (by omega)]; rfl)

    obtain ⟨er, ev⟩ := HNO.out HV.out
    rw [er, ev]
    rw [HWE.out] at j0 j1 z1
    clear er ev HNO HYES HN HL HB22 HS2 HB2 HKW kb hs hW2 hbw HX HSZ
    go_enter Tryz.func35, Tryz.ntmps35
    go_wp2_with fail
    have kk := HKE.out
    refine bodyPost_ret_by (results_row_tmp rfl _ _ (w.heap.size + 1) 30 _ _ rfl kk Tryz.underlying30 rfl info_tree1) rfl ?_
    exact HXE.out
  obtain ⟨x0, hx0⟩ : ∃ x, xs[0]? = some x := ⟨_, List.getElem?_eq_getElem (by omega)⟩
  obtain ⟨y, XA, XC, rfl, hyb, u0, u1, u2, u3, u4, u5, hxd⟩ := (HL.out.below HB2.out).lf6 hx0
  have hy0 : y.add (0 * 6) = y := by unfold Addr.add; simp
  rw [hy0] at u0 u3 u5
  have y1 : ¬ (xs.length : Int) < 1 := by omega
  have y2 : ¬ (32 : Int) < (xs.length : Int) := by omega
  have y3 : (0 : Int) < (xs.length : Int) := by omega
  have HLN := Lib.hid (And.intro (show 1 ≤ xs.length by omega) (show xs.length ≤ 32 by omega))
  clear u1 u2 u4 hxd h1 h2 hyb hy0
  by_cases e1 : x0.path = [47]
  rotate_left
  · have b1 : (x0.path == [47]) = false := by simpa using e1
    have b1' : (x0.path != [47]) = true := by simpa using e1
    have HC := Lib.hid (show tLoads xs = false from loads_head hx0 (fun h => e1 h.1))
    rw [HWE.out] at u0
    clear e1 hx0 u3 u5
    have HV := Lib.hid (show tLoads xs = false from HC.out)

    obtain ⟨er, ev⟩ := HNO.out HV.out
    rw [er, ev]
    rw [HWE.out] at j0 j1 z1
    clear er ev HNO HYES HN HL HB22 HS2 HB2 HKW kb hs hW2 hbw HX HSZ
    go_enter Tryz.func35, Tryz.ntmps35
    go_wp2_with fail
    have kk := HKE.out
    refine bodyPost_ret_by (results_row_tmp rfl _ _ (w.heap.size + 1) 30 _ _ rfl kk Tryz.underlying30 rfl info_tree1) rfl ?_
    exact HXE.out
  by_cases e2 : x0.own = -1
  rotate_left
  · have b2 : (x0.own != -1) = true := by simpa using e2
    have b1 : (x0.path == [47]) = true := by simpa using e1
    have b1' : (x0.path != [47]) = false := by simpa using e1
    have HC := Lib.hid (show tLoads xs = false from loads_head hx0 (fun h => e2 h.2.1))
    rw [HWE.out] at u0 u3
    clear e1 e2 hx0 u5
    have HV := Lib.hid (show tLoads xs = false from HC.out)

    obtain ⟨er, ev⟩ := HNO.out HV.out
    rw [er, ev]
    rw [HWE.out] at j0 j1 z1
    clear er ev HNO HYES HN HL HB22 HS2 HB2 HKW kb hs hW2 hbw HX HSZ
    go_enter Tryz.func35, Tryz.ntmps35
    go_wp2_with fail
    have kk := HKE.out
    refine bodyPost_ret_by (results_row_tmp rfl _ _ (w.heap.size + 1) 30 _ _ rfl kk Tryz.underlying30 rfl info_tree1) rfl ?_
    exact HXE.out
  by_cases e3 : x0.born = 0
  rotate_left
  · have b3 : (x0.born != 0) = true := by simpa using e3
    have b2 : (x0.own != -1) = false := by simpa using e2
    have b1 : (x0.path == [47]) = true := by simpa using e1
    have b1' : (x0.path != [47]) = false := by simpa using e1
    have HC := Lib.hid (show tLoads xs = false from loads_head hx0 (fun h => e3 h.2.2))
    rw [HWE.out] at u0 u3 u5
    clear e1 e2 e3 hx0
    have HV := Lib.hid (show tLoads xs = false from HC.out)

    obtain ⟨er, ev⟩ := HNO.out HV.out
    rw [er, ev]
    rw [HWE.out] at j0 j1 z1
    clear er ev HNO HYES HN HL HB22 HS2 HB2 HKW kb hs hW2 hbw HX HSZ
    go_enter Tryz.func35, Tryz.ntmps35
    go_wp2_with fail
    have kk := HKE.out
    refine bodyPost_ret_by (results_row_tmp rfl _ _ (w.heap.size + 1) 30 _ _ rfl kk Tryz.underlying30 rfl info_tree1) rfl ?_
    exact HXE.out
  have b3 : (x0.born != 0) = false := by simpa using e3
  have b2 : (x0.own != -1) = false := by simpa using e2
  have b1 : (x0.path == [47]) = true := by simpa using e1
  have b1' : (x0.path != [47]) = false := by simpa using e1
  have HHD := Lib.hid (show (∀ k, k < xs.length → tRight xs k = true) → tLoads xs = true from loads_yes hx0 HLN.out ⟨e1, e2, e3⟩)
  have HCL := Lib.hid (copyLeaves_any (some y) LC xs G W2 (HL.out.below HB2.out) HN.out)
  rw [HWE.out] at u0 u3 u5 j0 j1 z1
  clear hx0 e1 e2 e3 HN kb hs hbw hW2 HXE HKE
  go_enter Tryz.func35, Tryz.ntmps35
  go_wp2_with fail
  rw [← HWE.out]
  refine HCL.out.mono ?_
  rintro e w3 ⟨A3, c3, rfl, hr3, hb3⟩
  have HR3 := Lib.hid (show RdS RLf (From (w.heap.size + 2)) w3 A3 c3 xs by have := hr3; rw [HS2.out] at this; exact this)
  have HB3 := Lib.hid (show Below (w.heap.size + 2) W2 w3 by have := hb3; rw [HS2.out] at this; exact this)
  clear hr3 hb3 u0 u3 u5 j0 j1 z1 HCL
  obtain ⟨W4, hW4⟩ : ∃ W4, W4 = w3.alloc (.cells #[.slice A3 xs.length c3] 30) := ⟨_, rfl⟩
  have HS4 := Lib.hid (show W4.heap.size = w3.heap.size + 1 by rw [hW4]; simp)
  have HB34 := Lib.hid (show Below w3.heap.size w3 W4 by rw [hW4]; exact (Below.refl _ w3).alloc (Nat.le_refl _) _)
  have HK4 := Lib.hid (show Bk W4 w3.heap.size 30 [.slice A3 xs.length c3] by rw [hW4]; exact Bk.new w3 30 [.slice A3 xs.length c3])
  have HB4 := Lib.hid (below_next HB3.out HB34.out (by have := HB3.out.size; have := HS2.out; omega))
  have HS3 := Lib.hid (show w.heap.size + 2 ≤ w3.heap.size by have := HB3.out.size; have := HS2.out; omega)
  have HW4 := Lib.hid hW4
  clear hW4
  go_wp2_with fail
  rw [← HW4.out]
  have HWK := Lib.hid (fun X (hb : Below W4.heap.size W4 X) => show X.cell? ⟨w3.heap.size, 0, none⟩ = some (.slice A3 xs.length c3) ∧ Below (w.heap.size + 2) W2 X ∧ Below w.heap.size w X ∧ Below w3.heap.size w3 X from
    ⟨(HK4.out.below hb (by rw [HS4.out]; omega)).at_ rfl, HB4.out.trans (hb.mono (by have := HS4.out; have := HS3.out; omega)), HB2.out.trans ((HB4.out.trans (hb.mono (by have := HS4.out; have := HS3.out; omega))).mono (by omega)), HB34.out.trans (hb.mono (by have := HS4.out; omega))⟩)
  go_loopw [7] (fun i wr => ∃ k : Nat, k ≤ xs.length ∧ i = .int .i64 k ∧ Below W4.heap.size W4 wr ∧ ∀ j, j < k → tRight xs j = true) (fun i _ => xs.length - (intOf i).toNat)
  case atStart => exact ⟨0, Nat.zero_le _, rfl, Below.refl _ _, fun j hj => absurd hj (Nat.not_lt_zero _)⟩
  case round =>
    obtain ⟨k, hk, rfl, hb, hall⟩ := hrel
    have HBR := Lib.hid hb
    have HALL := Lib.hid hall
    obtain ⟨g0, hbx, hbw, hb3⟩ := HWK.out wr hb
    have HBW := Lib.hid hbw
    have HBX := Lib.hid hbx
    have HBR3 := Lib.hid hb3
    clear hb hall hbx hbw hb3
    by_cases hlt : k < xs.length
    · obtain ⟨x, hx⟩ : ∃ x, xs[k]? = some x := ⟨_, List.getElem?_eq_getElem hlt⟩
      obtain ⟨y', XA', XC', e', hyb, u0, u1, u2, u3, u4, u5, hxd⟩ := (HL.out.below HBW.out).lf6 hx
      obtain rfl := Option.some.inj e'
      have HXS := Lib.hid (HSZ.out x (List.mem_of_getElem? hx))
      have HLE := Lib.hid (show xs.length ≤ 32 from HLN.out.2)
      obtain ⟨W5, hW5⟩ : ∃ W5, W5 = wr.alloc (.cells #[.string ⟨x.path.toArray⟩, .slice XA' x.data.length XC', .int .i64 x.ver, .int .i64 x.own, .int .i64 x.next, .int .i64 x.born] 50) := ⟨_, rfl⟩
      have HK5 := Lib.hid (show Bk W5 wr.heap.size 50 [.string ⟨x.path.toArray⟩, .slice XA' x.data.length XC', .int .i64 x.ver, .int .i64 x.own, .int .i64 x.next, .int .i64 x.born] by rw [hW5]; exact Bk.new wr 50 [.string ⟨x.path.toArray⟩, .slice XA' x.data.length XC', .int .i64 x.ver, .int .i64 x.own, .int .i64 x.next, .int .i64 x.born])
      have HB5 := Lib.hid (show Below wr.heap.size wr W5 by rw [hW5]; exact (Below.refl _ wr).alloc (Nat.le_refl _) _)
      have HW5 := Lib.hid hW5
      have HNO' := Lib.hid (fun h => HNO.out (loads_no hlt h))
      have HX5 := Lib.hid (HB5.out)
      have HBR5 := Lib.hid (show Below W4.heap.size W4 W5 from HBR.out.trans (HB5.out.mono HBR.out.size))
      have y4 : (0 : Int) ≤ (k : Int) := by omega
      have y5 : (k : Int) < (xs.length : Int) := by omega
      have yl : xs.length ≤ 32 := HLE.out
      clear hW5 hyb hxd e'
      go_upto_region 8 with fail
      rw [← HW5.out]
      clear u0 u1 u2 u3 u4 u5
      have q0 : W5.cell? ⟨wr.heap.size, 0, none⟩ = some (.string ⟨x.path.toArray⟩) := HK5.out.at_ rfl
      have q1 : W5.cell? ⟨wr.heap.size, 1, none⟩ = some (.slice XA' x.data.length XC') := HK5.out.at_ rfl
      have q2 : W5.cell? ⟨wr.heap.size, 2, none⟩ = some (.int .i64 x.ver) := HK5.out.at_ rfl
      have q3 : W5.cell? ⟨wr.heap.size, 3, none⟩ = some (.int .i64 x.own) := HK5.out.at_ rfl
      have q4 : W5.cell? ⟨wr.heap.size, 4, none⟩ = some (.int .i64 x.next) := HK5.out.at_ rfl
      have q5 : W5.cell? ⟨wr.heap.size, 5, none⟩ = some (.int .i64 x.born) := HK5.out.at_ rfl
      obtain ⟨g0, hbx, hbw, hb3⟩ := HWK.out W5 HBR5.out
      obtain ⟨j0, j1, z1, kb, hs, -⟩ := HKW.out W5 hbx
      have HBW5 := Lib.hid hbw
      have HBX5 := Lib.hid hbx
      have HKB := Lib.hid kb
      clear hbx hbw hb3 kb hs
      by_cases o0 : x.own < -1
      · have d0 : decide (x.own < -1) = true := decide_eq_true o0
        have HF := Lib.hid (HNO'.out (right_not hx (fun h => by have := h.1; omega)))
        clear o0 hx
        go_quiet (fail)
        go_wp2_with fail
        rw [HF.out.1, HF.out.2]
        have kk := (HKB.out.drewN nq).set 0 (.slice A t.length c)
        refine bodyPost_ret_by (results_row_tmp rfl _ _ (w.heap.size + 1) 30 _ _ rfl kk Tryz.underlying30 rfl info_tree1) rfl ?_
        exact HX.out _ (below_drewN HBW5.out nq)
      have d0 : decide (x.own < -1) = false := decide_eq_false o0
      by_cases o1 : x.ver < 0
      · have d1 : decide (x.ver < 0) = true := decide_eq_true o1
        have HF := Lib.hid (HNO'.out (right_not hx (fun h => by have := h.2.1; omega)))
        clear o1 hx
        go_quiet (fail)
        go_wp2_with fail
        rw [HF.out.1, HF.out.2]
        have kk := (HKB.out.drewN nq).set 0 (.slice A t.length c)
        refine bodyPost_ret_by (results_row_tmp rfl _ _ (w.heap.size + 1) 30 _ _ rfl kk Tryz.underlying30 rfl info_tree1) rfl ?_
        exact HX.out _ (below_drewN HBW5.out nq)
      have d1 : decide (x.ver < 0) = false := decide_eq_false o1
      by_cases o2 : x.next < 0
      · have d2 : decide (x.next < 0) = true := decide_eq_true o2
        have HF := Lib.hid (HNO'.out (right_not hx (fun h => by have := h.2.2.1; omega)))
        clear o2 hx
        go_quiet (fail)
        go_wp2_with fail
        rw [HF.out.1, HF.out.2]
        have kk := (HKB.out.drewN nq).set 0 (.slice A t.length c)
        refine bodyPost_ret_by (results_row_tmp rfl _ _ (w.heap.size + 1) 30 _ _ rfl kk Tryz.underlying30 rfl info_tree1) rfl ?_
        exact HX.out _ (below_drewN HBW5.out nq)
      have d2 : decide (x.next < 0) = false := decide_eq_false o2
      by_cases o3 : x.born < 0
      · have d3 : decide (x.born < 0) = true := decide_eq_true o3
        have HF := Lib.hid (HNO'.out (right_not hx (fun h => by have := h.2.2.2.1; omega)))
        clear o3 hx
        go_quiet (fail)
        go_wp2_with fail
        rw [HF.out.1, HF.out.2]
        have kk := (HKB.out.drewN nq).set 0 (.slice A t.length c)
        refine bodyPost_ret_by (results_row_tmp rfl _ _ (w.heap.size + 1) 30 _ _ rfl kk Tryz.underlying30 rfl info_tree1) rfl ?_
        exact HX.out _ (below_drewN HBW5.out nq)
      have d3 : decide (x.born < 0) = false := decide_eq_false o3
      by_cases o4 : (128 : Int) < (x.data.length : Int)
      · have d4 : decide ((128 : Int) < (x.data.length : Int)) = true := decide_eq_true o4
        have HF := Lib.hid (HNO'.out (right_not hx (fun h => by have := h.2.2.2.2; omega)))
        clear o4 hx
        go_quiet (fail)
        go_wp2_with fail
        rw [HF.out.1, HF.out.2]
        have kk := (HKB.out.drewN nq).set 0 (.slice A t.length c)
        refine bodyPost_ret_by (results_row_tmp rfl _ _ (w.heap.size + 1) 30 _ _ rfl kk Tryz.underlying30 rfl info_tree1) rfl ?_
        exact HX.out _ (below_drewN HBW5.out nq)
      have d4 : decide ((128 : Int) < (x.data.length : Int)) = false := decide_eq_false o4
      have HOK := Lib.hid (show lfOkay x from ⟨by omega, by omega, by omega, by omega, by omega⟩)
      clear o0 o1 o2 o3 o4
      rcases Nat.eq_zero_or_pos k with rfl | hk0
      · have HT0 := Lib.hid (right_zero hx HOK.out)
        have e1 : decide ((0 : Int) < ((0 : Nat) : Int)) = false := rfl
        have e2 : decide ((0 : Int) < 0) = false := rfl
        clear hx HNO' HALL
        go_quiet (fail)
        go_wp2_with fail
        go_roundw
        case rel => exact ⟨1, by omega, rfl, below_drewN HBR5.out nq, fun j hj => by rw [Nat.lt_one_iff.1 hj]; exact HT0.out⟩
        case measure => simp [intOf]; omega
      obtain ⟨p, hp⟩ : ∃ p, xs[k - 1]? = some p := ⟨_, List.getElem?_eq_getElem (by omega)⟩
      obtain ⟨y'', XA'', XC'', e', hyb, v0, -⟩ := (HL.out.below HBW5.out).lf6 hp
      obtain rfl := Option.some.inj e'
      have g1 : decide ((0 : Int) < (k : Int)) = true := decide_eq_true (by omega)
      have g2 : decide (0 < k) = true := decide_eq_true (by omega)
      have g3 : (0 : Int) ≤ (k : Int) - 1 := by omega
      have g4 : (k : Int) - 1 < (xs.length : Int) := by omega
      have g5 : ((k : Int) - 1).toNat = k - 1 := by omega
      clear e' hyb
      cases hlb : Op.bytesLess p.path x.path with
      | false =>
        have HF := Lib.hid (HNO'.out (right_ord hx hk0 hp hlb))
        have p1 : ∀ X, (binOp BinOp.geq 9 (.string ⟨p.path.toArray⟩) (.string ⟨x.path.toArray⟩)).run Tryz.prog X = .ok (.bool true) X := fun X => by rw [run_geq_s, hlb]; rfl
        clear hx hp hlb
        go_quiet (fail)
        go_wp2_with fail
        rw [HF.out.1, HF.out.2]
        have kk := (HKB.out.drewN nq).set 0 (.slice A t.length c)
        refine bodyPost_ret_by (results_row_tmp rfl _ _ (w.heap.size + 1) 30 _ _ rfl kk Tryz.underlying30 rfl info_tree1) rfl ?_
        exact HX.out _ (below_drewN HBW5.out nq)
      | true =>
        have HPR := Lib.hid (right_par hx hk0 hp hlb HOK.out)
        have p1 : ∀ X, (binOp BinOp.geq 9 (.string ⟨p.path.toArray⟩) (.string ⟨x.path.toArray⟩)).run Tryz.prog X = .ok (.bool false) X := fun X => by rw [run_geq_s, hlb]; rfl
        have HKZ := Lib.hid (show ((k : Int) == 0) = false by simp; omega)
        have HALL' := Lib.hid (show tRight xs k = true → ∀ j, j < k + 1 → tRight xs j = true from fun h j hj => by
          rcases Nat.lt_or_ge j k with q | q
          · exact HALL.out j q
          · obtain rfl : j = k := by omega
            exact h)
        clear hx hp hlb HOK HALL
        have HPA := Lib.hid (fun X => show Calls _ _ _ _ (Ans (optV (parentP x.path)) X) from refParent_any ⟨x.path.toArray⟩ X HXS.out)
        go_quiet (fail)
        have hkz := HKZ.out
        obtain ⟨W6, hW6⟩ : ∃ W6, W6 = W5.drewN nq := ⟨_, rfl⟩
        rw [← hW6]
        have HB6 := Lib.hid (show Below W4.heap.size W4 W6 by rw [hW6]; exact below_drewN HBR5.out nq)
        have HB56 := Lib.hid (show Below W5.heap.size W5 W6 by rw [hW6]; exact below_drewN (Below.refl _ _) nq)
        have r0 := cell_kept q0 HB56.out
        clear hW6 q0 q1 q2 q3 q4 q5 v0 p1 d0 d1 d2 d3 d4 g1 g2 g3 g4 g5 j0 j1 z1 g0
        go_wp2_with fail
        rcases opt_cases (parentP x.path) with ⟨e, ev⟩ | ⟨up, e, ev⟩
        · have HF := Lib.hid (HNO'.out (by have := HPR.out; rw [e] at this; exact this))
          rw [ev] at HPA
          clear e ev HPR HNO' HALL'
          refine (HPA.out W6).mono ?_
          rintro e w7 ⟨rfl, hb7⟩
          have HB7 := Lib.hid (HB6.out.trans (hb7.mono HB6.out.size))
          clear hb7 r0
          obtain ⟨g0, hbx, hbw, hb3⟩ := HWK.out w7 HB7.out
          have HBW7 := Lib.hid hbw
          have HR7 := Lib.hid (HR3.out.below hb3)
          have HAT := Lib.hid (show Calls _ _ _ _ (Tells (.int .i64 (atI (tAt ([] : List UInt8) xs))) w7) from refAt_any ⟨([] : List UInt8).toArray⟩ A3 c3 xs _ w7 HR7.out)
          clear hbx hbw hb3
          go_wp2_with fail
          refine HAT.out.mono ?_
          rintro e w8 ⟨rfl, hb8⟩
          have HB8 := Lib.hid (HB7.out.trans (hb8.mono HB7.out.size))
          clear hb8 g0
          obtain ⟨g0, hbx, hbw, hb3⟩ := HWK.out w8 HB8.out
          obtain ⟨j0, j1, z1, kb, hs, -⟩ := HKW.out w8 hbx
          have HBW8 := Lib.hid hbw
          have HKB8 := Lib.hid kb
          have HR8 := Lib.hid (HR3.out.below hb3)
          clear hbx hbw hb3 kb hs
          go_wp2_with fail
          rw [HF.out.1, HF.out.2]
          have kk := HKB8.out.set 0 (.slice A t.length c)
          refine bodyPost_ret_by (results_row_tmp rfl _ _ (w.heap.size + 1) 30 _ _ rfl kk Tryz.underlying30 rfl info_tree1) rfl ?_
          exact HX.out _ HBW8.out
        · rw [ev] at HPA
          cases hat : tAt up xs with
          | none =>
            have HF := Lib.hid (HNO'.out (by have := HPR.out; rw [e] at this; simp only [hat] at this; exact this))
            clear e ev HPR HNO' HALL'
            refine (HPA.out W6).mono ?_
            rintro e w7 ⟨rfl, hb7⟩
            have HB7 := Lib.hid (HB6.out.trans (hb7.mono HB6.out.size))
            clear hb7 r0
            obtain ⟨g0, hbx, hbw, hb3⟩ := HWK.out w7 HB7.out
            have HBW7 := Lib.hid hbw
            have HR7 := Lib.hid (HR3.out.below hb3)
            have HAT := Lib.hid (show Calls _ _ _ _ (Tells (.int .i64 (atI (tAt up xs))) w7) from refAt_any ⟨(up : List UInt8).toArray⟩ A3 c3 xs _ w7 HR7.out)
            clear hbx hbw hb3
            go_wp2_with fail
            rw [hat] at HAT
            replace HAT := Lib.hid (show Calls _ _ _ _ (Tells (.int .i64 (-1)) w7) from HAT.out)
            clear hat
            refine HAT.out.mono ?_
            rintro e w8 ⟨rfl, hb8⟩
            have HB8 := Lib.hid (HB7.out.trans (hb8.mono HB7.out.size))
            clear hb8 g0
            obtain ⟨g0, hbx, hbw, hb3⟩ := HWK.out w8 HB8.out
            obtain ⟨j0, j1, z1, kb, hs, -⟩ := HKW.out w8 hbx
            have HBW8 := Lib.hid hbw
            have HKB8 := Lib.hid kb
            have HR8 := Lib.hid (HR3.out.below hb3)
            clear hbx hbw hb3 kb hs
            go_wp2_with fail
            rw [HF.out.1, HF.out.2]
            have kk := HKB8.out.set 0 (.slice A t.length c)
            refine bodyPost_ret_by (results_row_tmp rfl _ _ (w.heap.size + 1) 30 _ _ rfl kk Tryz.underlying30 rfl info_tree1) rfl ?_
            exact HX.out _ HBW8.out
          | some j =>
            obtain ⟨m, hm, -⟩ := tAt_is hat
            have hjl : j < xs.length := (List.getElem?_eq_some_iff.1 hm).1
            have s1 : (0 : Int) ≤ (j : Int) := by omega
            have s2 : (j : Int) < (xs.length : Int) := by omega
            have s3 : ¬ ((j : Int) < 0) := by omega
            by_cases ho : m.own = -1
            · have HT := Lib.hid (HALL'.out (by have := HPR.out; rw [e] at this; simp only [hat, getD_of hm, ho] at this; exact this))
              have b9 : (m.own != -1) = false := by simpa using ho
              clear e ev HPR HNO' HALL' ho
              refine (HPA.out W6).mono ?_
              rintro e w7 ⟨rfl, hb7⟩
              have HB7 := Lib.hid (HB6.out.trans (hb7.mono HB6.out.size))
              clear hb7 r0
              obtain ⟨g0, hbx, hbw, hb3⟩ := HWK.out w7 HB7.out
              have HBW7 := Lib.hid hbw
              have HR7 := Lib.hid (HR3.out.below hb3)
              have HAT := Lib.hid (show Calls _ _ _ _ (Tells (.int .i64 (atI (tAt up xs))) w7) from refAt_any ⟨(up : List UInt8).toArray⟩ A3 c3 xs _ w7 HR7.out)
              clear hbx hbw hb3
              go_wp2_with fail
              rw [hat] at HAT
              replace HAT := Lib.hid (show Calls _ _ _ _ (Tells (.int .i64 (j : Int)) w7) from HAT.out)
              clear hat
              refine HAT.out.mono ?_
              rintro e w8 ⟨rfl, hb8⟩
              have HB8 := Lib.hid (HB7.out.trans (hb8.mono HB7.out.size))
              clear hb8 g0
              obtain ⟨g0, hbx, hbw, hb3⟩ := HWK.out w8 HB8.out
              obtain ⟨j0, j1, z1, kb, hs, -⟩ := HKW.out w8 hbx
              have HBW8 := Lib.hid hbw
              have HKB8 := Lib.hid kb
              have HR8 := Lib.hid (HR3.out.below hb3)
              clear hbx hbw hb3 kb hs
              obtain ⟨z, ZA, ZC, rfl, hzb, t0, t1, t2, t3, t4, t5, -⟩ := HR8.out.lf6 hm
              clear hm hzb t0 t1 t2 t4 t5
              go_wp2_with fail
              go_roundw
              case rel => exact ⟨k + 1, by omega, by go_num, HB8.out, HT.out⟩
              case measure => simp [intOf]; omega
            · have HF := Lib.hid (HNO'.out (by have := HPR.out; rw [e] at this; simp only [hat, getD_of hm] at this; rw [this]; exact decide_eq_false ho))
              have b9 : (m.own != -1) = true := by simpa using ho
              clear e ev HPR HNO' HALL' ho
              refine (HPA.out W6).mono ?_
              rintro e w7 ⟨rfl, hb7⟩
              have HB7 := Lib.hid (HB6.out.trans (hb7.mono HB6.out.size))
              clear hb7 r0
              obtain ⟨g0, hbx, hbw, hb3⟩ := HWK.out w7 HB7.out
              have HBW7 := Lib.hid hbw
              have HR7 := Lib.hid (HR3.out.below hb3)
              have HAT := Lib.hid (show Calls _ _ _ _ (Tells (.int .i64 (atI (tAt up xs))) w7) from refAt_any ⟨(up : List UInt8).toArray⟩ A3 c3 xs _ w7 HR7.out)
              clear hbx hbw hb3
              go_wp2_with fail
              rw [hat] at HAT
              replace HAT := Lib.hid (show Calls _ _ _ _ (Tells (.int .i64 (j : Int)) w7) from HAT.out)
              clear hat
              refine HAT.out.mono ?_
              rintro e w8 ⟨rfl, hb8⟩
              have HB8 := Lib.hid (HB7.out.trans (hb8.mono HB7.out.size))
              clear hb8 g0
              obtain ⟨g0, hbx, hbw, hb3⟩ := HWK.out w8 HB8.out
              obtain ⟨j0, j1, z1, kb, hs, -⟩ := HKW.out w8 hbx
              have HBW8 := Lib.hid hbw
              have HKB8 := Lib.hid kb
              have HR8 := Lib.hid (HR3.out.below hb3)
              clear hbx hbw hb3 kb hs
              obtain ⟨z, ZA, ZC, rfl, hzb, t0, t1, t2, t3, t4, t5, -⟩ := HR8.out.lf6 hm
              clear hm hzb t0 t1 t2 t4 t5
              go_wp2_with fail
              rw [HF.out.1, HF.out.2]
              have kk := HKB8.out.set 0 (.slice A t.length c)
              refine bodyPost_ret_by (results_row_tmp rfl _ _ (w.heap.size + 1) 30 _ _ rfl kk Tryz.underlying30 rfl info_tree1) rfl ?_
              exact HX.out _ HBW8.out
    · obtain rfl : k = xs.length := by omega
      have HV := Lib.hid (HYES.out (HHD.out (fun j hj => HALL.out j hj)))
      obtain ⟨j0, j1, z1, kb, hs, hbw⟩ := HKW.out wr HBX.out
      have HKB := Lib.hid kb
      have HRX := Lib.hid (HR3.out.below HBR3.out)
      clear kb hs hbw
      go_wp2_with fail
      rw [HV.out.1, HV.out.2]
      have kk := HKB.out.set 0 (.slice A3 xs.length c3)
      refine bodyPost_ret_by (results_row_tmp rfl _ _ (w.heap.size + 1) 30 _ _ rfl kk Tryz.underlying30 rfl info_tree1) rfl ?_
      exact fresh_done HBW.out (HRX.out.keep ⟨Nat.le_refl _, fun _ _ _ => rfl⟩ fun b hb _ => .inr hb) _ [.bool true]
end Go.Proofs.YtgppclmofphlfaaGreatDoor
