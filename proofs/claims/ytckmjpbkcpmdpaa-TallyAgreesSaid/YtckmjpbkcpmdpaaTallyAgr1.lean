/-
  What the law on what is agreed asks of votes; the last votes of a law's own. Plain lemmas; no statement.
-/
import Derived.Test.YtckmjpbkcpmdpaaTallyOps1
namespace Go.Proofs.Ytckmjpbkcpmdpaa
open Go.RowKit Go.Sort Go.Shelf
set_option linter.unusedVariables false
set_option maxRecDepth 100000

/-- how many there have x's rank and key -/
def cntS (l : List Vc) (x : Vc) : Nat := (l.filter fun y => decide (y.v.rank = x.v.rank) && decide (y.v.key = x.v.key)).length
theorem cntS_next (l : List Vc) (j : Nat) (y x : Vc) (h : l[j]? = some y) : cntS (l.take (j + 1)) x = if y.v.rank = x.v.rank ∧ y.v.key = x.v.key then cntS (l.take j) x + 1 else cntS (l.take j) x := by
  obtain ⟨hj, hx⟩ := List.getElem?_eq_some_iff.1 h
  unfold cntS
  rw [show l.take (j + 1) = l.take j ++ [l[j]] from List.take_succ_eq_append_getElem hj, List.filter_append, List.length_append, hx]
  by_cases e : y.v.rank = x.v.rank ∧ y.v.key = x.v.key
  · rw [if_pos e]; simp [e.1, e.2]
  · rw [if_neg e]
    have : (decide (y.v.rank = x.v.rank) && decide (y.v.key = x.v.key)) = false := by
      by_cases q : y.v.rank = x.v.rank
      · have q2 : ¬ y.v.key = x.v.key := fun q2 => e ⟨q, q2⟩
        simp [q2]
      · simp [q]
    simp [this]
theorem cntS_le (l : List Vc) (x : Vc) : cntS l x ≤ l.length := List.length_filter_le _ _
/-- the last votes but one voter's -/
def butV (a : Int) (l : List Vc) : List Vc := l.filter fun y => decide (y.v.voter ≠ a)
theorem butV_next (a : Int) (l : List Vc) (j : Nat) (y : Vc) (h : l[j]? = some y) : butV a (l.take (j + 1)) = if y.v.voter = a then butV a (l.take j) else butV a (l.take j) ++ [y] := by
  obtain ⟨hj, hx⟩ := List.getElem?_eq_some_iff.1 h
  unfold butV
  rw [show l.take (j + 1) = l.take j ++ [l[j]] from List.take_succ_eq_append_getElem hj, List.filter_append, hx]
  by_cases e : y.v.voter = a
  · rw [if_pos e]; simp [e]
  · rw [if_neg e]; simp [e]
theorem butV_le (a : Int) (l : List Vc) (j : Nat) : (butV a (l.take j)).length ≤ j := by
  refine Nat.le_trans (List.length_filter_le _ _) ?_
  rw [List.length_take]; omega
theorem last_put {l : List Vc} {vs : List Vo} (h : (l.map (·.v)).Perm vs) (x : Vc) : ((butV x.v.voter l ++ [x]).map (·.v)).Perm (tyPut vs x.v) := by
  unfold tyPut
  refine List.Perm.trans ?_ (tyIns_perm _ _).symm
  rw [List.map_append]
  refine (List.perm_append_singleton _ _).trans (List.Perm.cons _ ?_)
  have e : (butV x.v.voter l).map (·.v) = (l.map (·.v)).filter fun u => decide (u.voter ≠ x.v.voter) := by
    unfold butV
    rw [List.filter_map]
    rfl
  rw [e]
  exact h.filter _
/-- what the law asks of an answer -/
structure AgF (l : List Vc) (k : Int) (ok : Bool) (rk : Int) (ky : List UInt8) (who : List Int) : Prop where
  p1 : ok = true → k ≤ (who.length : Int)
  p2 : ∀ x ∈ l, max k 1 ≤ (cntS l x : Int) → ok = true ∧ x.v.rank ≤ rk
  p3 : ∀ x ∈ l, decide (x.v.voter ∈ who) = (ok && decide (x.v.rank = rk) && decide (x.v.key = ky))
  p4 : ok = false → who = [] ∧ rk = 0 ∧ ky = []
  p5 : ∀ x ∈ l, 1 ≤ cntS l x
theorem cntS_haves {l : List Vc} {vs : List Vo} (h : (l.map (·.v)).Perm vs) (x : Vc) : cntS l x = (tyHaves vs x.v.rank x.v.key).length := by
  unfold tyHaves
  rw [List.length_map, ← (h.filter _).length_eq, List.filter_map, List.length_map]
  rfl
/-- who agree on what is agreed on -/
def agW (vs : List Vo) (o : Option Vo) : List Int := match o with | some v => tyHaves vs v.rank v.key | none => []
theorem agf_of {l : List Vc} {vs : List Vo} {N : Int} (h : (l.map (·.v)).Perm vs) (hg : TyGood N vs) (k : Int) :
    AgF l k (tyAgree vs k).isSome ((tyAgree vs k).getD default).rank ((tyAgree vs k).getD default).key (agW vs (tyAgree vs k)) := by
  have hin : ∀ x ∈ l, x.v ∈ vs := fun x hx => h.subset (List.mem_map.2 ⟨x, hx, rfl⟩)
  have hbe : ∀ n : Nat, tyBehind k < n ↔ max k 1 ≤ (n : Int) := fun n => by unfold tyBehind; omega
  have h2 : ∀ x ∈ l, max k 1 ≤ (cntS l x : Int) → (tyAgree vs k).isSome = true ∧ x.v.rank ≤ ((tyAgree vs k).getD default).rank := fun x hx hc => by
    rw [cntS_haves h, ← hbe] at hc
    obtain ⟨v, e, q⟩ := tyAgree_of hg.srt hc
    rw [e]
    exact ⟨rfl, by show x.v.rank ≤ v.rank; rcases q with q | ⟨q, _⟩ <;> omega⟩
  have h5 : ∀ x ∈ l, 1 ≤ cntS l x := fun x hx => by
    unfold cntS
    have : x ∈ l.filter fun y => decide (y.v.rank = x.v.rank) && decide (y.v.key = x.v.key) := List.mem_filter.2 ⟨hx, by simp⟩
    exact List.length_pos_of_mem this
  cases e : tyAgree vs k with
  | none =>
    rw [e] at h2
    exact ⟨fun q => (by cases q), h2, fun x hx => (by simp [agW]), fun _ => ⟨rfl, rfl, rfl⟩, h5⟩
  | some v =>
    rw [e] at h2
    obtain ⟨m1, m2, _⟩ := tyAgree_some hg.srt e
    have m3 := (hbe _).1 m2
    refine ⟨fun _ => (by show k ≤ ((tyHaves vs v.rank v.key).length : Int); omega), h2, fun x hx => ?_, fun q => (by cases q), h5⟩
    show decide (x.v.voter ∈ tyHaves vs v.rank v.key) = (true && decide (x.v.rank = v.rank) && decide (x.v.key = v.key))
    rw [Bool.true_and, Bool.eq_iff_iff]
    simp only [Bool.and_eq_true, decide_eq_true_eq]
    rw [tyHaves_mem]
    constructor
    · rintro ⟨u, hu, e1, e2, e3⟩
      have := hg.one hu (hin x hx) e3
      rw [← this]; exact ⟨e1, e2⟩
    · rintro ⟨e1, e2⟩
      exact ⟨x.v, hin x hx, e1, e2, rfl⟩
/-- a number of a row -/
theorem ownI_at {w : World} {base : Nat} {A : Option Addr} {n c : Nat} {l : List Int} (h : OwnI w base A n c l) {k : Nat} {x : Int} (hk : l[k]? = some x) :
    ∃ g, A = some ⟨g, 0, none⟩ ∧ g < w.heap.size ∧ w.cell? ⟨g, k, none⟩ = some (.int .i64 x) := by
  have hl : l.length = n := h.len
  have hkn : k < n := by have := (List.getElem?_eq_some_iff.1 hk).1; omega
  obtain ⟨g, cap, hv, _, hlt⟩ := World.ownsRow.form h (by omega)
  injection hv with hA _ _
  subst hA
  have c0 := World.ownsRow.cells h (g := g) rfl k (.int .i64 x) (by rw [List.getElem?_map, hk]; rfl)
  rw [at_add] at c0
  exact ⟨g, rfl, hlt, by simpa using c0⟩
theorem take_mem_next {l : List Int} {j : Nat} {y : Int} (h : l[j]? = some y) (a : Int) : decide (a ∈ l.take (j + 1)) = (decide (a ∈ l.take j) || decide (y = a)) := by
  obtain ⟨hj, hx⟩ := List.getElem?_eq_some_iff.1 h
  rw [show l.take (j + 1) = l.take j ++ [l[j]] from List.take_succ_eq_append_getElem hj, hx, Bool.eq_iff_iff]
  simp only [decide_eq_true_eq, List.mem_append, List.mem_singleton, Bool.or_eq_true]
  constructor
  · rintro (q | q)
    · exact .inl q
    · exact .inr q.symm
  · rintro (q | q)
    · exact .inl q
    · exact .inr q.symm
end Go.Proofs.Ytckmjpbkcpmdpaa
