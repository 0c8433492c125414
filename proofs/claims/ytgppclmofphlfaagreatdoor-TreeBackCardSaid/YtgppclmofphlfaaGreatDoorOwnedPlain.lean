/-
  The nodes of owners dropped one after another. Plain lemmas; no statement.
-/
import Derived.Test.YtgppclmofphlfaaGreatDoorRoomPlain
import Derived.Test.YtgppclmofphlfaaGreatDoorTreeDrop
namespace Go.Proofs.YtgppclmofphlfaaGreatDoor
set_option maxRecDepth 100000
set_option linter.unusedVariables false

theorem tOwned_mem {n : Nat} {t : List Lf} (h : TOk n t) (os : List Int) {y : Lf} (hy : y ∈ t) : y.path ∈ tOwned os t ↔ y.own ∈ os := by
  unfold tOwned
  rw [List.mem_map]
  constructor
  · rintro ⟨x, hx, e⟩
    obtain ⟨h1, h2⟩ := List.mem_filter.1 hx
    have := srt_uniq h.srt (List.mem_reverse.1 h1) hy e
    subst this
    exact of_decide_eq_true h2
  · intro ho
    exact ⟨y, List.mem_filter.2 ⟨List.mem_reverse.2 hy, decide_eq_true ho⟩, rfl⟩
theorem tOwned_from {t : List Lf} {os : List Int} {p : List UInt8} (h : p ∈ tOwned os t) : ∃ y ∈ t, y.path = p ∧ y.own ∈ os := by
  unfold tOwned at h
  obtain ⟨x, hx, e⟩ := List.mem_map.1 h
  obtain ⟨h1, h2⟩ := List.mem_filter.1 hx
  exact ⟨x, List.mem_reverse.1 h1, e, of_decide_eq_true h2⟩
theorem tOwned_le (os : List Int) (t : List Lf) : (tOwned os t).length ≤ t.length := by
  unfold tOwned
  rw [List.length_map]
  exact Nat.le_trans (List.length_filter_le _ _) (by rw [List.length_reverse]; exact Nat.le_refl _)
theorem tOwned_nodup {t : List Lf} (h : Srt t) (os : List Int) : (tOwned os t).Nodup := by
  unfold tOwned
  rw [List.nodup_iff_pairwise_ne, List.pairwise_map]
  refine List.Pairwise.filter _ ?_
  rw [List.pairwise_reverse]
  exact List.Pairwise.imp (fun {a b} hab (e : b.path = a.path) => lb_ne hab e.symm) h
/-- the nodes left when those of l are gone -/
def tLess (l : List (List UInt8)) (t : List Lf) : List Lf := t.filter fun y => decide (y.path ∉ l)
theorem tLess_nil (t : List Lf) : tLess [] t = t := List.filter_eq_self.2 fun y _ => by simp
theorem mem_tLess {l : List (List UInt8)} {t : List Lf} {y : Lf} : y ∈ tLess l t ↔ y ∈ t ∧ y.path ∉ l := by unfold tLess; rw [List.mem_filter]; simp
theorem owned_drop {n m : Nat} {t : List Lf} {os : List Int} (h : TOk n t) (ho : ∀ o ∈ os, 0 ≤ o) {j : Nat} {p : List UInt8} (hj : (tOwned os t)[j]? = some p)
    (h' : TOk m (tLess ((tOwned os t).take j) t)) : tDrop p (-1) (tLess ((tOwned os t).take j) t) = (tLess ((tOwned os t).take (j + 1)) t, 0) := by
  obtain ⟨hlt, hje⟩ := List.getElem?_eq_some_iff.1 hj
  have htk : (tOwned os t).take (j + 1) = (tOwned os t).take j ++ [p] := by rw [List.take_succ_eq_append_getElem hlt, hje]
  obtain ⟨y, hy, hyp, hyo⟩ := tOwned_from (List.mem_of_getElem? hj)
  have hnt : p ∉ (tOwned os t).take j := by
    intro hm
    obtain ⟨i, hi, e⟩ := List.getElem_of_mem hm
    rw [List.length_take] at hi
    rw [List.getElem_take] at e
    have hnd := tOwned_nodup h.srt os
    have : i = j := (List.getElem_inj (h₀ := by omega) (h₁ := hlt) hnd).1 (by rw [e, hje])
    omega
  have hym : y ∈ tLess ((tOwned os t).take j) t := mem_tLess.2 ⟨hy, by rw [hyp]; exact hnt⟩
  have hne : p ≠ [47] := by
    intro e
    obtain ⟨r, hr, h1, h2, _⟩ := h.root
    have : r = y := srt_uniq h.srt hr hy (by rw [h1, hyp, e])
    subst this
    have := ho _ hyo
    omega
  obtain ⟨up, hup⟩ := parent_some (q := p) (by rw [← hyp]; exact h.path y hy) hne
  obtain ⟨k, hk, hg⟩ := at_mem h'.srt hym
  rw [hyp] at hk
  have hnk : tKids p (tLess ((tOwned os t).take j) t) = [] := by
    cases hks : tKids p (tLess ((tOwned os t).take j) t) with
    | nil => rfl
    | cons z zs =>
      have hz : z ∈ tKids p (tLess ((tOwned os t).take j) t) := by rw [hks]; exact List.mem_cons_self
      unfold tKids at hz
      obtain ⟨x, hx, -⟩ := List.mem_map.1 hz
      obtain ⟨hx1, hx2⟩ := List.mem_filter.1 hx
      have hx3 : parentP x.path = some p := by simpa using hx2
      have hxn : x.path ≠ [47] := fun e => by rw [e] at hx3; cases hx3
      obtain ⟨m', hm1, hm2, hm3⟩ := h'.par x hx1 hxn
      have hmp : m'.path = p := (Option.some.inj (hx3.symm.trans hm2)).symm
      have : m' = y := srt_uniq h.srt (mem_tLess.1 hm1).1 hy (by rw [hmp, hyp])
      subst this
      have := ho _ hyo
      omega
  have hka : (tLess ((tOwned os t).take j) t)[k]? = some y := by
    obtain ⟨a, ha, hap⟩ := tAt_mem hk
    rw [List.getD_eq_getElem?_getD, ha] at hg
    have : a = y := hg
    rw [← this]; exact ha
  unfold tDrop
  rw [hup]
  simp only [hk, hg, hnk]
  rw [drop_filter h'.srt hka, hyp, htk]
  simp only [show ¬ (0 ≤ (-1 : Int) ∧ y.ver ≠ -1) from fun hh => by omega, if_false]
  rw [if_neg (by simp)]
  congr 1
  unfold tLess
  rw [List.filter_filter]
  refine List.filter_congr fun z _ => ?_
  simp only [List.mem_append, List.mem_singleton, not_or, decide_not, Bool.decide_and]
  rw [Bool.and_comm]
theorem owned_end {n : Nat} {t : List Lf} (h : TOk n t) (os : List Int) : tLess (tOwned os t) t = t.filter fun y => decide (y.own ∉ os) := by
  unfold tLess
  refine List.filter_congr fun y hy => ?_
  have := tOwned_mem h os hy
  by_cases ho : y.own ∈ os
  · simp [ho, this.2 ho]
  · have h2 : y.path ∉ tOwned os t := fun hh => ho (this.1 hh)
    simp [ho, h2]
theorem owned_get_in {n m : Nat} {t : List Lf} {os : List Int} (h : TOk n t) (h' : TOk m (tLess (tOwned os t) t)) {x : Lf} (hx : x ∈ t) (hn : x.own ∉ os) : tGet x.path (tLess (tOwned os t) t) = (some x, 0) := by
  have hxm : x ∈ tLess (tOwned os t) t := mem_tLess.2 ⟨hx, fun hh => hn ((tOwned_mem h os hx).1 hh)⟩
  obtain ⟨k, hk, hg⟩ := at_mem h'.srt hxm
  rw [tGet_at (h.path x hx), hk]
  simp only [hg]
theorem owned_get_out {n : Nat} {t : List Lf} {os : List Int} (h : TOk n t) {x : Lf} (hx : x ∈ t) (hn : x.own ∈ os) : tGet x.path (tLess (tOwned os t) t) = (none, 100) := by
  rw [tGet_at (h.path x hx), tAt_no.2]
  intro y hy e
  obtain ⟨h1, h2⟩ := mem_tLess.1 hy
  exact h2 (by rw [e]; exact (tOwned_mem h os hx).2 hn)
theorem owned_none {n : Nat} {t : List Lf} (h : TOk n t) (os : List Int) : tOwned os (tLess (tOwned os t) t) = [] := by
  cases hh : tOwned os (tLess (tOwned os t) t) with
  | nil => rfl
  | cons p ps =>
    obtain ⟨y, hy, -, hyo⟩ := tOwned_from (os := os) (t := tLess (tOwned os t) t) (p := p) (by rw [hh]; exact List.mem_cons_self)
    obtain ⟨h1, h2⟩ := mem_tLess.1 hy
    exact absurd ((tOwned_mem h os h1).2 hyo) h2
/-- is it among the first k? -/
def inOs (os : List Int) (k : Nat) (z : Int) : Bool := decide (z ∈ os.take k)
theorem inOs_zero (os : List Int) (z : Int) : inOs os 0 z = false := rfl
theorem inOs_all (os : List Int) (z : Int) : inOs os os.length z = decide (z ∈ os) := by unfold inOs; rw [List.take_length]
theorem inOs_next {os : List Int} {k : Nat} {u : Int} (h : os[k]? = some u) (z : Int) : inOs os (k + 1) z = (inOs os k z || (u == z)) := by
  unfold inOs
  obtain ⟨hh, rfl⟩ := List.getElem?_eq_some_iff.1 h
  rw [List.take_succ_eq_append_getElem hh, Bool.eq_iff_iff]
  simp only [decide_eq_true_iff, List.mem_append, List.mem_singleton, Bool.or_eq_true, beq_iff_eq]
  exact ⟨fun q => q.imp id Eq.symm, fun q => q.imp id Eq.symm⟩
end Go.Proofs.YtgppclmofphlfaaGreatDoor
