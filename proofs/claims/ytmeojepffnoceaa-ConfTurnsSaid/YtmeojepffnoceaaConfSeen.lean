/-
  Which Orderers views that follow one another have: plain lemmas; no statement.
-/
import Derived.Test.YtmeojepffnoceaaConfLaw
namespace Go.Proofs.Ytmeojepffnoceaa
open Go.RowKit
set_option linter.unusedVariables false

/-- how often each was the primary in the first i views from s on, of n -/
def seenL (n s : Nat) : Nat → List Nat
  | 0 => List.replicate 16 0
  | i + 1 => (seenL n s i).set ((s + i) % n) ((seenL n s i).getD ((s + i) % n) 0 + 1)
theorem seenL_len (n s i : Nat) : (seenL n s i).length = 16 := by
  induction i with
  | zero => simp [seenL]
  | succ i ih => simp [seenL, ih]
theorem seenL_once' : ∀ n, n < 9 → ∀ s, s < 9 → s < n → ∀ k, k < 9 → k < n → (seenL n s n).getD k 0 = 1 := by decide +kernel
theorem seenL_once {n s k : Nat} (hn : n ≤ 8) (hs : s < n) (hk : k < n) : (seenL n s n).getD k 0 = 1 := seenL_once' n (by omega) s (by omega) hs k (by omega) hk
theorem seenL_le (n s i k : Nat) : (seenL n s i).getD k 0 ≤ i := by
  induction i generalizing k with
  | zero =>
    simp only [seenL, List.getD, List.getElem?_replicate]
    split <;> simp
  | succ i ih =>
    simp only [seenL, List.getD, List.getElem?_set] at ih ⊢
    split
    · split
      · have := ih ((s + i) % n); simp; omega
      · simp
    · have := ih k; omega
def nv (k : Nat) : Value := .int .i64 (k : Int)
theorem seen_at (n s i : Nat) {k : Nat} (hk : k < 16) : ((seenL n s i).map nv)[k]? = some (.int .i64 ((seenL n s i).getD k 0 : Nat)) := by
  have hl : k < (seenL n s i).length := by rw [seenL_len]; exact hk
  rw [List.getElem?_map, List.getElem?_eq_getElem hl, getD_eq hl]; rfl
theorem seen_next (n s i k x : Nat) (hk : k = (s + i) % n) (hx : x = (seenL n s i).getD k 0 + 1) : ((seenL n s i).map nv).set k (.int .i64 (x : Int)) = (seenL n s (i + 1)).map nv := by
  subst hk hx
  rw [seenL, List.map_set]; rfl
theorem seen_zero (n s : Nat) : (seenL n s 0).map nv = [.int .i64 0, .int .i64 0, .int .i64 0, .int .i64 0, .int .i64 0, .int .i64 0, .int .i64 0, .int .i64 0, .int .i64 0, .int .i64 0, .int .i64 0, .int .i64 0, .int .i64 0, .int .i64 0, .int .i64 0, .int .i64 0] := rfl
theorem mod_from (V N i : Nat) : (V + i) % N = (V % N + i) % N := by simp
end Go.Proofs.Ytmeojepffnoceaa
