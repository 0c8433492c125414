/-
  Scripts of watches: what fires and what is left, element by element. Plain lemmas; no statement.
-/
import Derived.Test.YtbppokdaehaocaaDoorWatchTwo
import Derived.Test.YtbppokdaehaocaaDoorPathUse
namespace Go.Proofs.YtbppokdaehaocaaDoor
set_option maxRecDepth 100000
open Go.RowKit
set_option linter.unusedVariables false

theorem filter_at {α : Type} {p : α → Bool} {t : List α} {i : Nat} {x : α} (h : t[i]? = some x) (hp : p x = true) : (t.filter p)[((t.take i).filter p).length]? = some x := by
  obtain ⟨hk, e⟩ := List.getElem?_eq_some_iff.1 h
  have ht : t = t.take i ++ x :: t.drop (i + 1) := by
    rw [← e, List.getElem_cons_drop, List.take_append_drop]
  have h2 : t.filter p = (t.take i).filter p ++ x :: (t.drop (i + 1)).filter p := by
    conv => lhs; rw [ht]
    rw [List.filter_append, List.filter_cons_of_pos hp]
  rw [h2, List.getElem?_append_right (Nat.le_refl _), Nat.sub_self]
  rfl
theorem filter_len {α : Type} {p : α → Bool} {t : List α} {i : Nat} {x : α} (h : t[i]? = some x) : ((t.take (i + 1)).filter p).length = ((t.take i).filter p).length + if p x = true then 1 else 0 := by
  obtain ⟨hk, e⟩ := List.getElem?_eq_some_iff.1 h
  rw [take_snoc t i hk, e, List.filter_append, List.length_append]
  by_cases q : p x = true <;> simp [q]
theorem filter_two {α : Type} (p : α → Bool) (t : List α) : (t.filter p).length + (t.filter fun x => !p x).length = t.length := by
  induction t with
  | nil => rfl
  | cons x r ih =>
    by_cases q : p x = true
    · rw [List.filter_cons_of_pos q, List.filter_cons_of_neg (by simp [q]), List.length_cons, List.length_cons]; omega
    · have q' : p x = false := by simpa using q
      rw [List.filter_cons_of_neg (by simp [q']), List.filter_cons_of_pos (by simp [q']), List.length_cons, List.length_cons]; omega
theorem fired_left (k : Int) (ps : List (List UInt8)) (t : List Wt) : wFired k ps (wLeft k ps t) = [] := by
  unfold wFired wLeft
  rw [List.filter_filter, List.filter_eq_nil_iff]
  intro x _
  cases wHit k ps x <;> simp
/-- the watches of a script -/
def wos (ops : List Wo) : List Wt := ops.map (·.wt)
theorem wos_at {ops : List Wo} {k : Nat} {o : Wo} (h : ops[k]? = some o) : (wos ops)[k]? = some o.wt := by unfold wos; rw [List.getElem?_map, h]; rfl
theorem wos_len (ops : List Wo) : (wos ops).length = ops.length := by simp [wos]
end Go.Proofs.YtbppokdaehaocaaDoor
