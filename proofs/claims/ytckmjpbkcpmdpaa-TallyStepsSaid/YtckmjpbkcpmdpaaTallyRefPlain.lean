/-
  The document's own tally as plain values. Plain lemmas; no statement.
-/
import Derived.Test.YtckmjpbkcpmdpaaTallyPlain
namespace Go.Proofs.Ytckmjpbkcpmdpaa
set_option linter.unusedVariables false

/-- a vote of the document's tally, as it lies -/
structure Vr where
  has : Bool
  rank : Int
  key : List UInt8
  load : List UInt8
  ka : Option Addr
  kn : Nat
  kc : Nat
  la : Option Addr
  ln : Nat
  lc : Nat
instance : Inhabited Vr := ⟨⟨false, 0, [], [], none, 0, 0, none, 0, 0⟩⟩
def Vr.vo (x : Vr) (i : Nat) : Vo := ⟨(i : Int), x.rank, x.key, x.load⟩
/-- the votes, in the order of the voters -/
def vrs : Nat → List Vr → List Vo
  | _, [] => []
  | i, x :: r => if x.has then x.vo i :: vrs (i + 1) r else vrs (i + 1) r
theorem vrs_cons (i : Nat) (y : Vr) (r : List Vr) : vrs i (y :: r) = if y.has = true then y.vo i :: vrs (i + 1) r else vrs (i + 1) r := rfl
theorem vrs_append (i : Nat) (a b : List Vr) : vrs i (a ++ b) = vrs i a ++ vrs (i + a.length) b := by
  induction a generalizing i with
  | nil => simp [vrs]
  | cons x r ih =>
    simp only [List.cons_append, vrs, ih, List.length_cons]
    rw [show i + 1 + r.length = i + (r.length + 1) by omega]
    split <;> simp
theorem vrs_next (xs : List Vr) (j : Nat) (x : Vr) (h : xs[j]? = some x) : vrs 0 (xs.take (j + 1)) = vrs 0 (xs.take j) ++ (if x.has then [x.vo j] else []) := by
  obtain ⟨hj, hx⟩ := List.getElem?_eq_some_iff.1 h
  rw [show xs.take (j + 1) = xs.take j ++ [xs[j]] from List.take_succ_eq_append_getElem hj, vrs_append, hx]
  simp only [vrs, List.length_take, Nat.zero_add, Nat.min_eq_left (Nat.le_of_lt hj)]
theorem vrs_mem {i : Nat} {xs : List Vr} {v : Vo} : v ∈ vrs i xs ↔ ∃ (j : Nat) (x : Vr), xs[j]? = some x ∧ x.has = true ∧ v = x.vo (i + j) := by
  induction xs generalizing i with
  | nil => simp [vrs]
  | cons y r ih =>
    have e : v ∈ vrs i (y :: r) ↔ (y.has = true ∧ v = y.vo i) ∨ v ∈ vrs (i + 1) r := by
      rw [vrs_cons]
      by_cases h : y.has = true
      · rw [if_pos h]; simp [h]
      · rw [if_neg h]; simp [h]
    rw [e, ih]
    constructor
    · rintro (⟨h1, h2⟩ | ⟨j, x, h1, h2, h3⟩)
      · exact ⟨0, y, rfl, h1, h2⟩
      · exact ⟨j + 1, x, h1, h2, by rw [h3]; congr 1; omega⟩
    · rintro ⟨j, x, h1, h2, h3⟩
      cases j with
      | zero =>
        obtain rfl := Option.some.inj h1
        exact .inl ⟨h2, h3⟩
      | succ j => exact .inr ⟨j, x, h1, h2, by rw [h3]; congr 1; omega⟩
theorem vrs_up (i : Nat) (xs : List Vr) : (vrs i xs).Pairwise fun a b => a.voter < b.voter := by
  induction xs generalizing i with
  | nil => exact List.Pairwise.nil
  | cons y r ih =>
    rw [vrs_cons]
    by_cases h : y.has = true
    · rw [if_pos h]
      refine List.pairwise_cons.2 ⟨fun v hv => ?_, ih (i + 1)⟩
      obtain ⟨j, x, _, _, rfl⟩ := vrs_mem.1 hv
      show (i : Int) < ((i + 1 + j : Nat) : Int)
      omega
    · rw [if_neg h]; exact ih (i + 1)
/-- the document's tally holds these votes -/
structure RefOf (N : Int) (vs : List Vo) (xs : List Vr) : Prop where
  len : (xs.length : Int) = N
  perm : vs.Perm (vrs 0 xs)
  none_ : ∀ x ∈ xs, x.has = false → x.rank = 0 ∧ x.key = [] ∧ x.load = []
  rng : ∀ x ∈ xs, x.key.length ≤ 1099511627776 ∧ x.load.length ≤ 1099511627776
theorem RefOf.nil (n : Nat) : RefOf n [] (List.replicate n default) := by
  refine ⟨by simp, ?_, fun x hx _ => ?_, fun x hx => ?_⟩
  · have : vrs 0 (List.replicate n (default : Vr)) = [] := by
      refine List.eq_nil_iff_forall_not_mem.2 fun v hv => ?_
      obtain ⟨j, x, h1, h2, _⟩ := vrs_mem.1 hv
      have := List.eq_of_mem_replicate (List.mem_of_getElem? h1)
      rw [this] at h2
      cases h2
    rw [this]
  · rw [List.eq_of_mem_replicate hx]; exact ⟨rfl, rfl, rfl⟩
  · rw [List.eq_of_mem_replicate hx]; exact ⟨by decide, by decide⟩
section
variable {N : Int} {vs : List Vo} {xs : List Vr}
theorem RefOf.haves (h : RefOf N vs xs) (hs : vs.Pairwise LtV) (r : Int) (k : List UInt8) : ((vrs 0 xs).filter fun u => decide (u.rank = r) && decide (u.key = k)).map (·.voter) = tyHaves vs r k := by
  refine up_unique ((h.perm.symm.filter _).map _) ?_ (tyHaves_up hs r k)
  exact List.pairwise_map.2 ((vrs_up 0 xs).filter _)
theorem RefOf.count (h : RefOf N vs xs) (p : Vo → Bool) : ((vrs 0 xs).filter p).length = (vs.filter p).length := (h.perm.symm.filter p).length_eq
theorem RefOf.mem (h : RefOf N vs xs) {v : Vo} : v ∈ vs ↔ ∃ (j : Nat) (x : Vr), xs[j]? = some x ∧ x.has = true ∧ v = x.vo j := by
  rw [h.perm.mem_iff, vrs_mem]; simp
theorem RefOf.known (h : RefOf N vs xs) (hg : TyGood N vs) {j : Nat} {x : Vr} (hx : xs[j]? = some x) : tyKnown vs (j : Int) = if x.has = true then some (x.vo j) else none := by
  by_cases e : x.has = true
  · rw [if_pos e]
    exact hg.known_of (u := x.vo j) (h.mem.2 ⟨j, x, hx, e, rfl⟩)
  · rw [if_neg e]
    cases q : tyKnown vs (j : Int) with
    | none => rfl
    | some u =>
      obtain ⟨h1, h2⟩ := tyKnown_some q
      obtain ⟨i, y, h3, h4, rfl⟩ := h.mem.1 h1
      have h5 : (i : Int) = (j : Int) := h2
      obtain rfl : i = j := by omega
      rw [hx] at h3
      obtain rfl := Option.some.inj h3
      exact absurd h4 e
theorem RefOf.out (h : RefOf N vs xs) {a : Int} (ha : a < 0 ∨ N ≤ a) : tyKnown vs a = none := by
  cases q : tyKnown vs a with
  | none => rfl
  | some u =>
    obtain ⟨h1, h2⟩ := tyKnown_some q
    obtain ⟨i, y, h3, h4, rfl⟩ := h.mem.1 h1
    have h5 : (i : Int) = a := h2
    have h6 := (List.getElem?_eq_some_iff.1 h3).1
    have := h.len
    omega
theorem vrs_set (i0 : Nat) (x' : Vr) (hx : x'.has = true) : ∀ (xs : List Vr) (i : Nat), i < xs.length → (vrs i0 (xs.set i x')).Perm (x'.vo (i0 + i) :: (vrs i0 xs).filter fun u => decide (u.voter ≠ ((i0 + i : Nat) : Int)))
  | [], i, h => by simp at h
  | y :: r, 0, _ => by
    have e : ∀ u ∈ vrs (i0 + 1) r, u.voter ≠ (i0 : Int) := fun u hu => by
      obtain ⟨j, x, _, _, rfl⟩ := vrs_mem.1 hu
      show ((i0 + 1 + j : Nat) : Int) ≠ _
      omega
    have e2 : (vrs (i0 + 1) r).filter (fun u => decide (u.voter ≠ (i0 : Int))) = vrs (i0 + 1) r := List.filter_eq_self.2 fun u hu => by simpa using e u hu
    simp only [List.set_cons_zero, vrs, hx, if_true, Nat.add_zero]
    refine List.Perm.cons _ ?_
    by_cases hy : y.has = true
    · rw [if_pos hy, List.filter_cons_of_neg (by simp [Vr.vo]), e2]
    · rw [if_neg hy, e2]
  | y :: r, i + 1, h => by
    have ih := vrs_set (i0 + 1) x' hx r i (by simpa using h)
    rw [show i0 + 1 + i = i0 + (i + 1) by omega] at ih
    simp only [List.set_cons_succ, vrs]
    by_cases hy : y.has = true
    · rw [if_pos hy, if_pos hy, List.filter_cons_of_pos (p := fun u : Vo => decide (u.voter ≠ ((i0 + (i + 1) : Nat) : Int))) (decide_eq_true (show (y.vo i0).voter ≠ ((i0 + (i + 1) : Nat) : Int) from by show ((i0 : Nat) : Int) ≠ _; omega))]
      exact (ih.cons _).trans (List.Perm.swap _ _ _)
    · rw [if_neg hy, if_neg hy]; exact ih
theorem RefOf.put (h : RefOf N vs xs) {i : Nat} {x' : Vr} (hi : i < xs.length) (hx : x'.has = true) (hl : x'.key.length ≤ 1099511627776 ∧ x'.load.length ≤ 1099511627776) : RefOf N (tyPut vs (x'.vo i)) (xs.set i x') := by
  refine ⟨by rw [List.length_set]; exact h.len, ?_, fun x hm he => ?_, fun x hm => ?_⟩
  · refine (tyIns_perm _ _).trans (List.Perm.trans ?_ (vrs_set 0 x' hx xs i hi).symm)
    rw [Nat.zero_add]
    exact (h.perm.filter _).cons _
  · rcases List.mem_or_eq_of_mem_set hm with q | q
    · exact h.none_ x q he
    · rw [q, hx] at he; cases he
  · rcases List.mem_or_eq_of_mem_set hm with q | q
    · exact h.rng x q
    · rw [q]; exact hl
end
/-- what is agreed on is known by its rank and key -/
theorem agree_uniq {vs : List Vo} (h : vs.Pairwise LtV) {k : Int} {v : Vo} (hv : v ∈ vs) (hn : tyBehind k < (tyHaves vs v.rank v.key).length)
    (hu : ∀ u ∈ vs, tyBehind k < (tyHaves vs u.rank u.key).length → u.rank < v.rank ∨ (u.rank = v.rank ∧ cb v.key u.key ≤ 0)) : ∃ v', tyAgree vs k = some v' ∧ v'.rank = v.rank ∧ v'.key = v.key := by
  obtain ⟨v', h1, h2⟩ := tyAgree_of h hn
  obtain ⟨h3, h4, _⟩ := tyAgree_some h h1
  have h5 := hu v' h3 h4
  have h6 := cb_swap v.key v'.key
  refine ⟨v', h1, by omega, ?_⟩
  exact cb_zero (by omega)
theorem agree_none_of {vs : List Vo} (h : vs.Pairwise LtV) {k : Int} (hu : ∀ u ∈ vs, ¬ tyBehind k < (tyHaves vs u.rank u.key).length) : tyAgree vs k = none := by
  cases e : tyAgree vs k with
  | none => rfl
  | some v =>
    obtain ⟨h3, h4, _⟩ := tyAgree_some h e
    exact absurd h4 (hu v h3)
/-- how many have a rank or a greater one -/
def tyOver (vs : List Vo) (r : Int) : Nat := (vs.filter fun u => decide (r ≤ u.rank)).length
theorem over_split {vs : List Vo} (h : vs.Pairwise LtV) (r : Int) : vs = (vs.filter fun u => decide (r ≤ u.rank)) ++ vs.filter fun u => decide (u.rank < r) := by
  induction vs with
  | nil => rfl
  | cons x t ih =>
    obtain ⟨h1, h2⟩ := List.pairwise_cons.1 h
    by_cases e : r ≤ x.rank
    · rw [List.filter_cons_of_pos (by simpa using e), List.filter_cons_of_neg (by simp; omega), List.cons_append, ← ih h2]
    · have e1 : ∀ u ∈ t, u.rank < r := fun u hu => by
        have := h1 u hu
        unfold LtV at this
        rcases this with q | ⟨q, _⟩ <;> omega
      rw [List.filter_cons_of_neg (by simpa using e), List.filter_cons_of_pos (by simp; omega)]
      rw [List.filter_eq_nil_iff.2 (fun u hu => by have := e1 u hu; simp; omega), List.filter_eq_self.2 (fun u hu => by have := e1 u hu; simp; omega)]
      rfl
/-- the first so many have the rank or a greater one -/
theorem over_at {vs : List Vo} (h : vs.Pairwise LtV) {b : Nat} {v : Vo} (hv : vs[b]? = some v) (r : Int) : b < tyOver vs r ↔ r ≤ v.rank := by
  have e := over_split h r
  have hb := (List.getElem?_eq_some_iff.1 hv).1
  unfold tyOver
  generalize hA : (vs.filter fun u => decide (r ≤ u.rank)) = A at e ⊢
  generalize hB : (vs.filter fun u => decide (u.rank < r)) = B at e
  constructor
  · intro hlt
    rw [e, List.getElem?_append_left hlt] at hv
    have : v ∈ vs.filter fun u => decide (r ≤ u.rank) := by rw [hA]; exact List.mem_of_getElem? hv
    simpa using (List.mem_filter.1 this).2
  · intro hr
    rcases Nat.lt_or_ge b A.length with q | q
    · exact q
    · exfalso
      rw [e, List.getElem?_append_right q] at hv
      have : v ∈ vs.filter fun u => decide (u.rank < r) := by rw [hB]; exact List.mem_of_getElem? hv
      have := (List.mem_filter.1 this).2
      simp at this
      omega
theorem reach_some_iff {vs : List Vo} (h : vs.Pairwise LtV) {k r : Int} (hv : ∃ v ∈ vs, v.rank = r) (hn : tyBehind k < tyOver vs r) (hu : ∀ u ∈ vs, r < u.rank → ¬ tyBehind k < tyOver vs u.rank) : tyReach vs k = some r := by
  unfold tyReach
  have hlen : tyOver vs r ≤ vs.length := List.length_filter_le _ _
  have hb : tyBehind k < vs.length := by omega
  have hx : vs[tyBehind k]? = some vs[tyBehind k] := List.getElem?_eq_getElem hb
  rw [hx]
  have h1 := (over_at h hx r).1 hn
  have h2 : ¬ r < (vs[tyBehind k]).rank := fun q => hu _ (List.getElem_mem _) q ((over_at h hx _).2 (Int.le_refl _))
  show some (vs[tyBehind k]).rank = some r
  rw [show (vs[tyBehind k]).rank = r by omega]
theorem reach_none_of {vs : List Vo} (h : vs.Pairwise LtV) {k : Int} (hu : ∀ u ∈ vs, ¬ tyBehind k < tyOver vs u.rank) : tyReach vs k = none := by
  unfold tyReach
  cases e : vs[tyBehind k]? with
  | none => rfl
  | some v => exact absurd ((over_at h e _).2 (Int.le_refl _)) (hu v (List.mem_of_getElem? e))
end Go.Proofs.Ytckmjpbkcpmdpaa
