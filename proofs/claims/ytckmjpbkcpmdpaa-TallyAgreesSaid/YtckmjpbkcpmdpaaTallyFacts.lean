/-
  What the laws on tallies ask of votes in order. Plain lemmas; no statement.
-/
import Derived.Test.YtckmjpbkcpmdpaaTallyPlain
namespace Go.Proofs.Ytckmjpbkcpmdpaa
set_option linter.unusedVariables false

theorem srt_rank {vs : List Vo} (h : vs.Pairwise LtV) {i j : Nat} (hij : i ≤ j) (hj : j < vs.length) : (vs.getD j default).rank ≤ (vs.getD i default).rank := by
  rcases srt_le h hij hj with q | q
  · rw [q]; exact Int.le_refl _
  · unfold LtV at q; omega
theorem reach_at (vs : List Vo) (k : Int) : (tyReach vs k).isSome = decide (tyBehind k < vs.length) ∧ (tyBehind k < vs.length → (tyReach vs k).getD 0 = (vs.getD (tyBehind k) default).rank) := by
  unfold tyReach
  by_cases h : tyBehind k < vs.length
  · rw [List.getElem?_eq_getElem h]
    exact ⟨by simp [h], fun _ => by simp [List.getD, h]⟩
  · rw [List.getElem?_eq_none (by omega)]
    exact ⟨by simp [h], fun q => absurd q h⟩
theorem reach_more {vs : List Vo} (h : vs.Pairwise LtV) {k : Int} (hk : 1 ≤ k) (hs : (tyReach vs (k + 1)).isSome = true) : (tyReach vs k).isSome = true ∧ (tyReach vs (k + 1)).getD 0 ≤ (tyReach vs k).getD 0 := by
  have e1 := tyBehind_one k
  have e2 := tyBehind_one (k + 1)
  obtain ⟨a1, a2⟩ := reach_at vs k
  obtain ⟨b1, b2⟩ := reach_at vs (k + 1)
  rw [b1] at hs
  have hl : tyBehind (k + 1) < vs.length := by simpa using hs
  have hl' : tyBehind k < vs.length := by omega
  refine ⟨by rw [a1]; simpa using hl', ?_⟩
  rw [a2 hl', b2 hl]
  exact srt_rank h (by omega) hl
theorem agree_reach {vs : List Vo} (h : vs.Pairwise LtV) {k : Int} (hk : 1 ≤ k) {v : Vo} (hv : tyAgree vs k = some v) : (tyReach vs k).isSome = true ∧ v.rank ≤ (tyReach vs k).getD 0 ∧ k ≤ ((tyHaves vs v.rank v.key).length : Int) := by
  obtain ⟨_, h2, i, h3, h4, h5⟩ := tyAgree_some h hv
  have e1 := tyBehind_one k
  obtain ⟨a1, a2⟩ := reach_at vs k
  have hl : tyBehind k < vs.length := by omega
  refine ⟨by rw [a1]; simpa using hl, ?_, by omega⟩
  rw [a2 hl, ← (tySame_iff.1 h5).1]
  exact srt_rank h (by omega) h3
end Go.Proofs.Ytckmjpbkcpmdpaa
