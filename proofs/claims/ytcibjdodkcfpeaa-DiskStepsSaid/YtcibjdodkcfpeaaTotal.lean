/-
  How much a list of lists holds; pieces of lists. Plain lemmas; no statement.
-/
import Derived.Test.YtcibjdodkcfpeaaChecked
namespace Go.Proofs.Ytcibjdodkcfpeaa

theorem take_snoc {α : Type} (l : List α) (k : Nat) (h : k < l.length) : l.take (k + 1) = l.take k ++ [l[k]] := by
  rw [List.take_succ_eq_append_getElem h]
/-- the lists' bytes, each list counted as one more -/
def total : List (List UInt8) → Nat
  | [] => 0
  | l :: r => 1 + l.length + total r
theorem total_append (a b : List (List UInt8)) : total (a ++ b) = total a + total b := by
  induction a with
  | nil => simp [total]
  | cons x r ih => simp only [List.cons_append, total, ih]; omega
theorem total_len (ls : List (List UInt8)) : ls.length ≤ total ls := by
  induction ls with
  | nil => simp [total]
  | cons x r ih => simp only [total, List.length_cons]; omega
theorem total_mem {ls : List (List UInt8)} {l : List UInt8} (h : l ∈ ls) : l.length < total ls := by
  induction ls with
  | nil => cases h
  | cons x r ih =>
    simp only [total]
    rcases List.mem_cons.1 h with e | e
    · subst e; omega
    · have := ih e; omega
theorem total_take (ls : List (List UInt8)) (k : Nat) : total (ls.take k) ≤ total ls := by
  have h := total_append (ls.take k) (ls.drop k)
  rw [List.take_append_drop] at h
  omega
theorem total_flatten (ls : List (List UInt8)) : ls.flatten.length ≤ total ls := by
  induction ls with
  | nil => simp [total]
  | cons x r ih => simp only [List.flatten_cons, List.length_append, total]; omega
theorem getD_mem {α : Type} {ls : List α} {k : Nat} {d : α} (h : k < ls.length) : ls.getD k d ∈ ls := by
  rw [List.getD, List.getElem?_eq_getElem h]
  exact List.getElem_mem h
theorem getD_eq {α : Type} {ls : List α} {k : Nat} {d : α} (h : k < ls.length) : ls.getD k d = ls[k] := by
  rw [List.getD, List.getElem?_eq_getElem h]; rfl
theorem take_snocD {α : Type} (l : List α) (d : α) (k : Nat) (h : k < l.length) : l.take (k + 1) = l.take k ++ [l.getD k d] := by
  rw [take_snoc l k h, getD_eq h]
end Go.Proofs.Ytcibjdodkcfpeaa
