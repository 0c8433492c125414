/-
  The document's own tally as plain values: what so many agree on. Plain lemmas; no statement.
-/
import Derived.Test.YtckmjpbkcpmdpaaTallyRef1
namespace Go.Proofs.Ytckmjpbkcpmdpaa
set_option linter.unusedVariables false

theorem less_iff : ∀ a b : List UInt8, Op.bytesLess a b = true ↔ cb a b < 0
  | [], [] => by simp [cb, Lib.compareBytes, Op.bytesLess]
  | [], _ :: _ => by simp [cb, Lib.compareBytes, Op.bytesLess]
  | _ :: _, [] => by simp [cb, Lib.compareBytes, Op.bytesLess]
  | x :: a, y :: b => by
    have ih := less_iff a b
    have e1 : cb (x :: a) (y :: b) = if x < y then -1 else if y < x then 1 else cb a b := rfl
    have e2 : Op.bytesLess (x :: a) (y :: b) = (decide (x < y) || (x == y && Op.bytesLess a b)) := rfl
    rw [e1, e2]
    by_cases h1 : x < y
    · rw [if_pos h1]; simp [h1]
    · rw [if_neg h1]
      by_cases h2 : y < x
      · have h3 : ¬ x = y := fun e => by subst e; exact h1 h2
        rw [if_pos h2]; simp [h1, h3]
      · have h3 : x = y := UInt8.le_antisymm (UInt8.not_lt.1 h2) (UInt8.not_lt.1 h1)
        subst h3
        rw [if_neg h2, ← ih]; simp
theorem less_cb (a b : List UInt8) : Op.bytesLess a b = decide (cb a b < 0) := by
  rw [Bool.eq_iff_iff, less_iff, decide_eq_true_iff]
/-- has enough with it -/
def Cand (xs : List Vr) (k : Int) (x : Vr) : Prop := x.has = true ∧ max k 1 ≤ ((vrHaves xs x.rank x.key).length : Int)
def Bt (x y : Vr) : Prop := x.rank < y.rank ∨ (x.rank = y.rank ∧ cb y.key x.key ≤ 0)
/-- best so far -/
def ABest (xs : List Vr) (k : Int) (i : Nat) (b : Int) : Prop :=
  (b = -1 ∧ ∀ (j : Nat) (x : Vr), j < i → xs[j]? = some x → ¬ Cand xs k x) ∨
  ∃ (m : Nat) (y : Vr), b = (m : Int) ∧ m < i ∧ xs[m]? = some y ∧ Cand xs k y ∧ ∀ (j : Nat) (x : Vr), j < i → xs[j]? = some x → Cand xs k x → Bt x y
theorem ABest.zero (xs : List Vr) (k : Int) : ABest xs k 0 (-1) := .inl ⟨rfl, fun j x h => absurd h (Nat.not_lt_zero _)⟩
theorem ABest.skip {xs : List Vr} {k : Int} {i : Nat} {b : Int} (h : ABest xs k i b) {x : Vr} (hx : xs[i]? = some x) (hn : ¬ Cand xs k x) : ABest xs k (i + 1) b := by
  rcases h with ⟨e, h⟩ | ⟨m, y, e, hm, hy, h1, h2⟩
  · refine .inl ⟨e, fun j z hj hz => ?_⟩
    rcases Nat.lt_or_ge j i with q | q
    · exact h j z q hz
    · obtain rfl : j = i := by omega
      rw [hx] at hz; obtain rfl := Option.some.inj hz; exact hn
  · refine .inr ⟨m, y, e, by omega, hy, h1, fun j z hj hz hk => ?_⟩
    rcases Nat.lt_or_ge j i with q | q
    · exact h2 j z q hz hk
    · obtain rfl : j = i := by omega
      rw [hx] at hz; obtain rfl := Option.some.inj hz; exact absurd hk hn
theorem Bt.refl (x : Vr) : Bt x x := .inr ⟨rfl, by rw [cb_self]; omega⟩
theorem Bt.over {z y x : Vr} (h : Bt z y) (hb : y.rank < x.rank ∨ (y.rank = x.rank ∧ cb x.key y.key < 0)) : Bt z x := by
  unfold Bt at *
  rcases hb with q | ⟨q1, q2⟩
  · left; omega
  · rcases h with p | ⟨p1, p2⟩
    · left; omega
    · right
      refine ⟨by omega, ?_⟩
      by_cases e : cb y.key z.key = 0
      · rw [← cb_zero e]; omega
      · have := cb_trans q2 (show cb y.key z.key < 0 by omega)
        omega
theorem ABest.take {xs : List Vr} {k : Int} {i : Nat} {b : Int} (h : ABest xs k i b) {x : Vr} (hx : xs[i]? = some x) (hk : Cand xs k x) (hb : b = -1 ∨ ∃ (m : Nat) (y : Vr), b = (m : Int) ∧ xs[m]? = some y ∧ (y.rank < x.rank ∨ (y.rank = x.rank ∧ cb x.key y.key < 0))) : ABest xs k (i + 1) i := by
  refine .inr ⟨i, x, rfl, by omega, hx, hk, fun j z hj hz hkz => ?_⟩
  rcases Nat.lt_or_ge j i with q | q
  · rcases h with ⟨e, h⟩ | ⟨m, y, e, hm, hy, h1, h2⟩
    · exact absurd hkz (h j z q hz)
    · rcases hb with e2 | ⟨m2, y2, e2, hy2, hlt⟩
      · omega
      · obtain rfl : m = m2 := by omega
        rw [hy] at hy2; obtain rfl := Option.some.inj hy2
        exact (h2 j z q hz hkz).over hlt
  · obtain rfl : j = i := by omega
    rw [hx] at hz; obtain rfl := Option.some.inj hz; exact Bt.refl _
theorem ABest.stay {xs : List Vr} {k : Int} {i : Nat} {m : Nat} {y : Vr} (h : ABest xs k i m) {x : Vr} (hx : xs[i]? = some x) (hy : xs[m]? = some y) (hle : Bt x y) : ABest xs k (i + 1) m := by
  rcases h with ⟨e, h⟩ | ⟨m2, y2, e, hm, hy2, h1, h2⟩
  · omega
  · obtain rfl : m = m2 := by omega
    rw [hy] at hy2; obtain rfl := Option.some.inj hy2
    refine .inr ⟨m, y, rfl, by omega, hy, h1, fun j z hj hz hk => ?_⟩
    rcases Nat.lt_or_ge j i with q | q
    · exact h2 j z q hz hk
    · obtain rfl : j = i := by omega
      rw [hx] at hz; obtain rfl := Option.some.inj hz; exact hle
theorem ABest.end_ {N : Int} {xs : List Vr} {vs : List Vo} (ho : RefOf N vs xs) (hs : vs.Pairwise LtV) {k : Int} {b : Int} (h : ABest xs k xs.length b) :
    (b = -1 ∧ tyAgree vs k = none) ∨ ∃ (m : Nat) (y : Vr) (v : Vo), b = (m : Int) ∧ xs[m]? = some y ∧ tyAgree vs k = some v ∧ v.rank = y.rank ∧ v.key = y.key := by
  have hh : ∀ r key, vrHaves xs r key = tyHaves vs r key := fun r key => ho.haves hs r key
  have hbe : ∀ n : Nat, tyBehind k < n ↔ max k 1 ≤ (n : Int) := fun n => by unfold tyBehind; omega
  unfold ABest Cand at h
  simp only [hh] at h
  rcases h with ⟨e, h⟩ | ⟨m, y, e, hm, hy, h1, h2⟩
  · refine .inl ⟨e, agree_none_of hs fun u hu => ?_⟩
    obtain ⟨j, x, hx, hxh, rfl⟩ := ho.mem.1 hu
    rw [hbe]
    exact fun q => h j x (List.getElem?_eq_some_iff.1 hx).1 hx ⟨hxh, q⟩
  · obtain ⟨v, e1, e2, e3⟩ := agree_uniq (k := k) hs (ho.mem.2 ⟨m, y, hy, h1.1, rfl⟩) (by rw [hbe]; exact h1.2) (fun u hu hlt => by
      obtain ⟨j, x, hx, hxh, rfl⟩ := ho.mem.1 hu
      rw [hbe] at hlt
      exact h2 j x (List.getElem?_eq_some_iff.1 hx).1 hx ⟨hxh, hlt⟩)
    exact .inr ⟨m, y, v, e, hy, e1, e2, e3⟩
end Go.Proofs.Ytckmjpbkcpmdpaa
