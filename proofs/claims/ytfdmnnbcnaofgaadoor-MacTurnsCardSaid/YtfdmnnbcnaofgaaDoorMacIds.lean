import Derived.Test.YtfdmnnbcnaofgaaDoorMacKey
import Derived.Deep.RegionHeld3
namespace Go.Proofs.YtfdmnnbcnaofgaaDoor
open Go.RowKit
open Pk Sh
set_option linter.unusedVariables false

theorem isNaN_any (a : Int) (w : World) : Calls Tryd.prog 63 #[.int .i64 a] w fun e w' => e = .returned (.bool false) ∧ w = w' := by
  have h : (a != a) = false := by simp
  go_enter Tryd.func63, Tryd.ntmps63
  go_wp2
  go_ret
  exact ⟨rfl, rfl⟩

/-- how two numbers lie -/
def cmpN (a b : Int) : Int := if a < b then -1 else if b < a then 1 else 0
theorem compare_any (a b : Int) (w : World) : Calls Tryd.prog 55 #[.int .i64 a, .int .i64 b] w fun e w' => e = .returned (.int .i64 (cmpN a b)) ∧ w = w' := by
  have H := Lib.hid (fun a w => isNaN_any a w)
  rcases Int.lt_trichotomy a b with h | h | h
  · have HC := Lib.hid (show cmpN a b = -1 by unfold cmpN; rw [if_pos h])
    go_enter Tryd.func55, Tryd.ntmps55
    go_wp2_with fail
    refine (H.out _ _).mono ?_
    rintro e w1 ⟨rfl, rfl⟩
    go_wp2_with fail
    refine (H.out _ _).mono ?_
    rintro e w1 ⟨rfl, rfl⟩
    go_wp2
    go_ret
    exact ⟨ret_int HC.out.symm, rfl⟩
  · subst h
    have HC := Lib.hid (show cmpN a a = 0 by unfold cmpN; rw [if_neg (by omega), if_neg (by omega)])
    have h1 : ¬ a < a := by omega
    go_enter Tryd.func55, Tryd.ntmps55
    go_wp2_with fail
    refine (H.out _ _).mono ?_
    rintro e w1 ⟨rfl, rfl⟩
    go_wp2_with fail
    refine (H.out _ _).mono ?_
    rintro e w1 ⟨rfl, rfl⟩
    go_wp2
    go_ret
    exact ⟨ret_int HC.out.symm, rfl⟩
  · have HC := Lib.hid (show cmpN a b = 1 by unfold cmpN; rw [if_neg (by omega), if_pos h])
    have h1 : ¬ a < b := by omega
    go_enter Tryd.func55, Tryd.ntmps55
    go_wp2_with fail
    refine (H.out _ _).mono ?_
    rintro e w1 ⟨rfl, rfl⟩
    go_wp2_with fail
    refine (H.out _ _).mono ?_
    rintro e w1 ⟨rfl, rfl⟩
    go_wp2
    go_ret
    exact ⟨ret_int HC.out.symm, rfl⟩

/-- the first that isn't 0 -/
def firstN : List Int → Int
  | [] => 0
  | v :: r => if v = 0 then firstN r else v
theorem or_any (A : Option Addr) (n c : Nat) (l : List Int) (w : World) (h : Rd w A n (l.map iv)) (hn : n ≤ 4294967296) :
    Calls Tryd.prog 54 #[.slice A n c] w fun e w' => e = .returned (.int .i64 (firstN l)) ∧ w = w' := by
  have hx : l.length = n := by simpa using h.1
  have HX := Lib.hid hx
  clear hx
  go_enter Tryd.func54, Tryd.ntmps54
  go_wp2
  go_loop [8] (fun i => ∃ k : Nat, k ≤ n ∧ i = .int .i64 k ∧ firstN l = firstN (l.drop k)) (fun i => n - (intOf i).toNat)
  case atStart => exact ⟨0, by omega, rfl, by simp⟩
  case round =>
    obtain ⟨k, hk, rfl, hf⟩ := hrel
    by_cases hlt : k < n
    · obtain ⟨a, rfl, hba, hc⟩ := h.at_ hlt
      have hkl : k < l.length := by rw [HX.out]; exact hlt
      have gx : (l.map iv).getD k undef = .int .i64 l[k] := by
        rw [getD_eq (by simpa using hkl)]; simp [iv]
      rw [gx] at hc
      rw [List.drop_eq_getElem_cons hkl, firstN] at hf
      generalize l[k] = v at *
      have e1 : (0 : Int) ≤ (k : Int) := by omega
      have e2 : (k : Int) < (n : Int) := by omega
      clear gx hba
      by_cases hv : v = 0
      · rw [if_pos hv] at hf
        have HF := Lib.hid hf
        clear hf
        subst hv
        go_wp2
        go_round
        case rel => exact ⟨k + 1, by omega, by go_num, HF.out⟩
        case measure => simp [intOf]; omega
      · rw [if_neg hv] at hf
        have HF := Lib.hid hf
        have hb : (v != 0) = true := by simp [hv]
        clear hf
        go_wp2
        go_ret
        exact ⟨ret_int HF.out.symm, rfl⟩
    · have e : l.drop k = [] := List.drop_eq_nil_of_le (by have := HX.out; omega)
      rw [e] at hf
      have HF := Lib.hid hf
      clear hf e
      go_wp2
      go_ret
      exact ⟨ret_int HF.out.symm, rfl⟩

/-- only what is new has turned, and 'returns r' -/
def Tells (r : Value) (w : World) (e : Ending) (w' : World) : Prop := e = .returned r ∧ Below w.heap.size w w'
theorem idLess_cmp (a b : Int × Int) : decide (firstN [cmpN a.1 b.1, cmpN a.2 b.2] < 0) = idLess a b := by
  obtain ⟨a1, a2⟩ := a
  obtain ⟨b1, b2⟩ := b
  simp only [idLess, firstN, cmpN]
  by_cases h1 : a1 < b1
  · simp [h1]
  · by_cases h2 : b1 < a1
    · have h3 : ¬ a1 = b1 := by omega
      simp [h1, h2, h3]
    · have h3 : a1 = b1 := by omega
      subst h3
      by_cases h4 : a2 < b2
      · simp [h4]
      · by_cases h5 : b2 < a2 <;> simp [h4, h5]

theorem refLess_any (a b : Int × Int) (w : World) : Calls Tryd.prog 36 #[.agg #[.int .i64 a.1, .int .i64 a.2], .agg #[.int .i64 b.1, .int .i64 b.2]] w (Tells (.bool (idLess a b)) w) := by
  obtain ⟨a1, a2⟩ := a
  obtain ⟨b1, b2⟩ := b
  have HB := Lib.hid (fun o o' => ((Below.refl w.heap.size w).alloc (Nat.le_refl _) o).alloc (by simp) o')
  by_cases h1 : a1 < b1
  · have HR := Lib.hid (show idLess (a1, a2) (b1, b2) = true by simp [idLess, h1])
    go_enter Tryd.func36, Tryd.ntmps36
    go_wp2
    go_ret
    exact ⟨ret_bool HR.out.symm, HB.out _ _⟩
  · by_cases h2 : a1 = b1
    · subst h2
      by_cases h3 : a2 < b2
      · have HR := Lib.hid (show idLess (a1, a2) (a1, b2) = true by simp [idLess, h3])
        go_enter Tryd.func36, Tryd.ntmps36
        go_wp2
        go_ret
        exact ⟨ret_bool HR.out.symm, HB.out _ _⟩
      · have HR := Lib.hid (show idLess (a1, a2) (a1, b2) = false by simp [idLess, h3])
        go_enter Tryd.func36, Tryd.ntmps36
        go_wp2
        go_ret
        exact ⟨ret_bool HR.out.symm, HB.out _ _⟩
    · have HR := Lib.hid (show idLess (a1, a2) (b1, b2) = false by simp [idLess, h1, h2])
      have h2' : (a1 == b1) = false := by simp [h2]
      go_enter Tryd.func36, Tryd.ntmps36
      go_wp2
      go_ret
      exact ⟨ret_bool HR.out.symm, HB.out _ _⟩

theorem or_two (W : World) (g : Nat) (x y : Int) (h0 : W.cell? ⟨g, 0, none⟩ = some (.int .i64 x)) (h1 : W.cell? ⟨g, 1, none⟩ = some (.int .i64 y)) :
    Calls Tryd.prog 54 #[.slice (some ⟨g, 0, none⟩) 2 2] W fun e w' => e = .returned (.int .i64 (firstN [x, y])) ∧ W = w' := by
  refine or_any _ 2 2 [x, y] W ⟨rfl, fun k u hu => ?_⟩ (by omega)
  match k, hu with
  | 0, hu =>
    have e : u = .int .i64 x := by simpa [iv] using hu.symm
    exact ⟨_, rfl, cell_lt h0, by rw [e]; exact h0⟩
  | 1, hu =>
    have e : u = .int .i64 y := by simpa [iv] using hu.symm
    exact ⟨_, rfl, cell_lt h0, by rw [e]; exact h1⟩
set_option maxHeartbeats 800000 in
theorem less_any (a b : Int × Int) (w : World) : Calls Tryd.prog 33 #[.agg #[.int .i64 a.1, .int .i64 a.2], .agg #[.int .i64 b.1, .int .i64 b.2]] w (Tells (.bool (idLess a b)) w) := by
  have HL := Lib.hid (idLess_cmp a b)
  obtain ⟨a1, a2⟩ := a
  obtain ⟨b1, b2⟩ := b
  have HC := Lib.hid (fun a b w => compare_any a b w)
  have HO := Lib.hid (fun W g => or_two W g (cmpN a1 b1) (cmpN a2 b2))
  go_enter Tryd.func33, Tryd.ntmps33
  go_wp2
  go_region_held3 (fun w' => w'.cell? ⟨w.heap.size, 0, none⟩ = some (.int .i64 a1) ∧ w'.cell? ⟨w.heap.size, 1, none⟩ = some (.int .i64 a2) ∧ w'.cell? ⟨w.heap.size + 1, 0, none⟩ = some (.int .i64 b1) ∧ w'.cell? ⟨w.heap.size + 1, 1, none⟩ = some (.int .i64 b2)) (go_keep)
    (first
      | (go_at_call 55; with_reducible refine (HC.out _ _ _).mono ?_; rintro e w' ⟨rfl, rfl⟩)
      | (go_at_call 54; with_reducible refine (HO.out _ _ ?_ ?_).mono ?_; (go_simp); (go_simp); rintro e w' ⟨rfl, rfl⟩))
  all_goals
    go_wp2
    go_ret
    exact ⟨ret_bool HL.out, below_drewN ((((Below.refl w.heap.size w).alloc (Nat.le_refl _) _).alloc (by simp) _).alloc (by simp; omega) _) 1⟩
end Go.Proofs.YtfdmnnbcnaofgaaDoor
