/-
  The document's own tally as plain values: how many have reached a rank. Plain lemmas; no statement.
-/
import Derived.Test.YtckmjpbkcpmdpaaTallyRefPlain
namespace Go.Proofs.Ytckmjpbkcpmdpaa
set_option linter.unusedVariables false

/-- how many there have reached x's rank -/
def rcnt (l : List Vr) (x : Vr) : Nat := (l.filter fun y => y.has && x.has && decide (x.rank ≤ y.rank)).length
theorem rcnt_next (xs : List Vr) (j : Nat) (y x : Vr) (h : xs[j]? = some y) : rcnt (xs.take (j + 1)) x = rcnt (xs.take j) x + (if y.has = true ∧ x.has = true ∧ x.rank ≤ y.rank then 1 else 0) := by
  obtain ⟨hj, hx⟩ := List.getElem?_eq_some_iff.1 h
  unfold rcnt
  rw [show xs.take (j + 1) = xs.take j ++ [xs[j]] from List.take_succ_eq_append_getElem hj, List.filter_append, List.length_append, hx]
  by_cases e : y.has = true ∧ x.has = true ∧ x.rank ≤ y.rank
  · rw [if_pos e]; simp [e.1, e.2.1, e.2.2]
  · rw [if_neg e]
    have : (y.has && x.has && decide (x.rank ≤ y.rank)) = false := by
      cases q : (y.has && x.has && decide (x.rank ≤ y.rank)) with
      | false => rfl
      | true => simp only [Bool.and_eq_true, decide_eq_true_eq] at q; exact absurd ⟨q.1.1, q.1.2, q.2⟩ e
    simp [this]
theorem rcnt_le (l : List Vr) (x : Vr) : rcnt l x ≤ l.length := List.length_filter_le _ _
theorem vrs_over (x : Vr) (hx : x.has = true) : ∀ (i : Nat) (l : List Vr), ((vrs i l).filter fun u => decide (x.rank ≤ u.rank)).length = rcnt l x
  | i, [] => rfl
  | i, y :: r => by
    have ih := vrs_over x hx (i + 1) r
    unfold rcnt at ih ⊢
    rw [vrs_cons]
    by_cases hy : y.has = true
    · rw [if_pos hy]
      by_cases q : x.rank ≤ y.rank
      · rw [List.filter_cons_of_pos (p := fun u : Vo => decide (x.rank ≤ u.rank)) (show decide (x.rank ≤ y.rank) = true by simpa using q), List.filter_cons_of_pos (by simp [hy, hx, q]), List.length_cons, List.length_cons, ih]
      · rw [List.filter_cons_of_neg (p := fun u : Vo => decide (x.rank ≤ u.rank)) (show ¬ decide (x.rank ≤ y.rank) = true by simpa using q), List.filter_cons_of_neg (by simp [hy, hx, q]), ih]
    · rw [if_neg hy, List.filter_cons_of_neg (by simp [hy]), ih]
theorem rcnt_has {l : List Vr} {x : Vr} (h : 0 < rcnt l x) : x.has = true := by
  cases q : x.has with
  | true => rfl
  | false =>
    unfold rcnt at h
    simp [q] at h
/-- best so far -/
def RBest (xs : List Vr) (k : Int) (i : Nat) (b : Int) : Prop :=
  (b = -1 ∧ ∀ (j : Nat) (x : Vr), j < i → xs[j]? = some x → ¬ k ≤ (rcnt xs x : Int)) ∨
  ∃ (m : Nat) (y : Vr), b = (m : Int) ∧ m < i ∧ xs[m]? = some y ∧ k ≤ (rcnt xs y : Int) ∧ ∀ (j : Nat) (x : Vr), j < i → xs[j]? = some x → k ≤ (rcnt xs x : Int) → x.rank ≤ y.rank
theorem RBest.zero (xs : List Vr) (k : Int) : RBest xs k 0 (-1) := .inl ⟨rfl, fun j x h => absurd h (Nat.not_lt_zero _)⟩
theorem RBest.skip {xs : List Vr} {k : Int} {i : Nat} {b : Int} (h : RBest xs k i b) {x : Vr} (hx : xs[i]? = some x) (hn : ¬ k ≤ (rcnt xs x : Int)) : RBest xs k (i + 1) b := by
  rcases h with ⟨e, h⟩ | ⟨m, y, e, hm, hy, h1, h2⟩
  · refine .inl ⟨e, fun j z hj hz => ?_⟩
    rcases Nat.lt_or_ge j i with q | q
    · exact h j z q hz
    · obtain rfl : j = i := by omega
      rw [hx] at hz; obtain rfl := Option.some.inj hz; exact hn
  · refine .inr ⟨m, y, e, by omega, hy, h1, fun j z hj hz hk => ?_⟩
    rcases Nat.lt_or_ge j i with q | q
    · exact h2 j z q hz hk
    · obtain rfl : j = i := by omega
      rw [hx] at hz; obtain rfl := Option.some.inj hz; exact absurd hk hn
theorem RBest.take {xs : List Vr} {k : Int} {i : Nat} {b : Int} (h : RBest xs k i b) {x : Vr} (hx : xs[i]? = some x) (hk : k ≤ (rcnt xs x : Int)) (hb : b = -1 ∨ ∃ (m : Nat) (y : Vr), b = (m : Int) ∧ xs[m]? = some y ∧ y.rank < x.rank) : RBest xs k (i + 1) i := by
  refine .inr ⟨i, x, rfl, by omega, hx, hk, fun j z hj hz hkz => ?_⟩
  rcases Nat.lt_or_ge j i with q | q
  · rcases h with ⟨e, h⟩ | ⟨m, y, e, hm, hy, h1, h2⟩
    · exact absurd hkz (h j z q hz)
    · rcases hb with e2 | ⟨m2, y2, e2, hy2, hlt⟩
      · omega
      · obtain rfl : m = m2 := by omega
        rw [hy] at hy2; obtain rfl := Option.some.inj hy2
        have := h2 j z q hz hkz
        omega
  · obtain rfl : j = i := by omega
    rw [hx] at hz; obtain rfl := Option.some.inj hz; exact Int.le_refl _
theorem RBest.stay {xs : List Vr} {k : Int} {i : Nat} {m : Nat} {y : Vr} (h : RBest xs k i m) {x : Vr} (hx : xs[i]? = some x) (hy : xs[m]? = some y) (hle : x.rank ≤ y.rank) : RBest xs k (i + 1) m := by
  rcases h with ⟨e, h⟩ | ⟨m2, y2, e, hm, hy2, h1, h2⟩
  · omega
  · obtain rfl : m = m2 := by omega
    rw [hy] at hy2; obtain rfl := Option.some.inj hy2
    refine .inr ⟨m, y, rfl, by omega, hy, h1, fun j z hj hz hk => ?_⟩
    rcases Nat.lt_or_ge j i with q | q
    · exact h2 j z q hz hk
    · obtain rfl : j = i := by omega
      rw [hx] at hz; obtain rfl := Option.some.inj hz; exact hle
theorem RBest.end_ {N : Int} {xs : List Vr} {vs : List Vo} (ho : RefOf N vs xs) (hs : vs.Pairwise LtV) {k : Int} {b : Int} (h : RBest xs (max k 1) xs.length b) :
    (b = -1 ∧ tyReach vs k = none) ∨ ∃ (m : Nat) (y : Vr), b = (m : Int) ∧ xs[m]? = some y ∧ tyReach vs k = some y.rank := by
  have hover : ∀ x : Vr, x.has = true → tyOver vs x.rank = rcnt xs x := fun x hx => by
    rw [← vrs_over x hx 0 xs]
    exact (ho.count _).symm
  have hbe : ∀ n : Nat, tyBehind k < n ↔ max k 1 ≤ (n : Int) := fun n => by unfold tyBehind; omega
  rcases h with ⟨e, h⟩ | ⟨m, y, e, hm, hy, h1, h2⟩
  · refine .inl ⟨e, reach_none_of hs fun u hu => ?_⟩
    obtain ⟨j, x, hx, hh, rfl⟩ := ho.mem.1 hu
    show ¬ tyBehind k < tyOver vs x.rank
    rw [hover x hh, hbe]
    exact h j x (List.getElem?_eq_some_iff.1 hx).1 hx
  · have hh : y.has = true := rcnt_has (l := xs) (by omega)
    refine .inr ⟨m, y, e, hy, reach_some_iff hs ⟨_, ho.mem.2 ⟨m, y, hy, hh, rfl⟩, rfl⟩ (by rw [hover y hh, hbe]; exact h1) fun u hu hlt => ?_⟩
    obtain ⟨j, x, hx, hxh, rfl⟩ := ho.mem.1 hu
    have hlt' : y.rank < x.rank := hlt
    show ¬ tyBehind k < tyOver vs x.rank
    rw [hover x hxh, hbe]
    intro q
    have := h2 j x (List.getElem?_eq_some_iff.1 hx).1 hx q
    omega
end Go.Proofs.Ytckmjpbkcpmdpaa
