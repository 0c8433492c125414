/-
  The document's answer for Load and what the developers' Load asks step by step are the same. Plain lemmas; no statement.
-/
import Derived.Test.YtgppclmofphlfaaGreatDoorTreeLoad
import Derived.Test.YtgppclmofphlfaaGreatDoorMTreeP
import Derived.Test.YtgppclmofphlfaaGreatDoorTreeRef12
namespace Go.Proofs.YtgppclmofphlfaaGreatDoor
set_option maxRecDepth 100000
open Go.RowKit
set_option linter.unusedVariables false

theorem okay_fit (x : Lf) : lfFit x = true ↔ lfOkay x := by
  unfold lfFit lfOkay
  simp only [Bool.and_eq_true, decide_eq_true_eq]
  constructor
  · rintro ⟨h1, h2, h3⟩
    exact ⟨h1, by omega, by omega, by omega, h3⟩
  · rintro ⟨h1, h2, h3, h4, h5⟩
    exact ⟨h1, by omega, h5⟩
theorem srt_near : ∀ {t : List Lf}, (∀ k x y, t[k]? = some x → t[k + 1]? = some y → lb x.path y.path) → Srt t
  | [], _ => List.Pairwise.nil
  | x :: r, h => by
    have hr : Srt r := srt_near fun k a b ha hb => h (k + 1) a b (by simpa using ha) (by simpa using hb)
    refine List.pairwise_cons.2 ⟨?_, hr⟩
    cases r with
    | nil => intro z hz; cases hz
    | cons y r =>
      have hxy : lb x.path y.path := h 0 x y rfl rfl
      intro z hz
      rcases List.mem_cons.1 hz with rfl | hz
      · exact hxy
      · exact lb_trans hxy ((List.pairwise_cons.1 hr).1 z hz)
/-- may hold, in a sorted list: the parent is there, and isn't brief -/
theorem may_iff {xs : List Lf} (hs : Srt xs) {k : Nat} {x : Lf} (hx : xs[k]? = some x) :
    tMay x.path (xs.take k) = true ↔ ∃ up j m, parentP x.path = some up ∧ tAt up xs = some j ∧ xs[j]? = some m ∧ m.own = -1 := by
  have hst : Srt (xs.take k) := List.Pairwise.sublist (List.take_sublist k xs) hs
  constructor
  · intro h
    unfold tMay at h
    cases hp : parentP x.path with
    | none => rw [hp] at h; cases h
    | some up =>
      rw [hp] at h
      have h' : (tHold up (xs.take k)).1.isSome = true := h
      unfold tHold at h'
      rw [tGet_at (parent_parts hp)] at h'
      cases ha : tAt up (xs.take k) with
      | none => rw [ha] at h'; cases h'
      | some j =>
        rw [ha] at h'
        obtain ⟨m, hm, hmp⟩ := tAt_mem ha
        have hgm : (xs.take k).getD j lfRoot = m := getD_of hm
        simp only [hgm] at h'
        have ho : m.own = -1 := by
          by_cases ho : m.own = -1
          · exact ho
          · rw [if_neg ho] at h'; cases h'
        have hmx : xs[j]? = some m := by
          rw [List.getElem?_take] at hm
          split at hm
          · exact hm
          · cases hm
        exact ⟨up, j, m, rfl, by rw [← hmp]; exact tAt_of hs hmx, hmx, ho⟩
  · rintro ⟨up, j, m, hp, ha, hm, ho⟩
    obtain ⟨m', hm', hmp⟩ := tAt_mem ha
    obtain rfl : m = m' := Option.some.inj (hm.symm.trans hm')
    have hjk : j < k := (srt_at hs hm hx).2 (by rw [hmp]; exact parent_lb hp)
    have hmt : (xs.take k)[j]? = some m := by rw [List.getElem?_take, if_pos hjk]; exact hm
    unfold tMay
    rw [hp]
    show (tHold up (xs.take k)).1.isSome = true
    unfold tHold
    rw [tGet_at (parent_parts hp), ← hmp, tAt_of hst hmt]
    have hgm : (xs.take k).getD j lfRoot = m := getD_of hmt
    simp only [hgm, ho, if_true]
    rfl
theorem may_right {xs : List Lf} (hs : Srt xs) {k : Nat} {x p : Lf} (hx : xs[k]? = some x) (hk : 0 < k) (hp : xs[k - 1]? = some p) : tStep xs k = tRight xs k := by
  have hlb : Op.bytesLess p.path x.path = true := (srt_at hs hp hx).1 (by omega)
  have hst : tStep xs k = (lfFit x && tMay x.path (xs.take k)) := by
    unfold tStep
    rw [if_neg (by omega)]
    simp only [getD_of hx, getD_of hp]
    rw [hlb, Bool.true_and]
  rw [hst]
  by_cases hf : lfOkay x
  · rw [right_par hx hk hp hlb hf, (okay_fit x).2 hf, Bool.true_and]
    cases hm : tMay x.path (xs.take k) with
    | true =>
      obtain ⟨up, j, m, h1, h2, h3, h4⟩ := (may_iff hs hx).1 hm
      rw [h1]
      simp only [h2, getD_of h3, h4]
      rfl
    | false =>
      have hno : ¬ ∃ up j m, parentP x.path = some up ∧ tAt up xs = some j ∧ xs[j]? = some m ∧ m.own = -1 := fun h => by
        rw [(may_iff hs hx).2 h] at hm; cases hm
      cases h1 : parentP x.path with
      | none => rfl
      | some up =>
        cases h2 : tAt up xs with
        | none => simp only [h2]
        | some j =>
          simp only [h2]
          obtain ⟨m, hm2, -⟩ := tAt_mem h2
          rw [getD_of hm2, eq_comm, decide_eq_false_iff_not]
          exact fun ho => hno ⟨up, j, m, h1, h2, hm2, ho⟩
  · rw [right_not hx hf, show lfFit x = false from Bool.eq_false_iff.2 fun h => hf ((okay_fit x).1 h), Bool.false_and]
theorem takes_loads (xs : List Lf) : tTakes xs = tLoads xs := by
  by_cases hlen : 1 ≤ xs.length ∧ xs.length ≤ 32
  rotate_left
  · unfold tTakes tLoads
    rw [decide_eq_false hlen, Bool.false_and, Bool.false_and, Bool.false_and]
  obtain ⟨x0, hx0⟩ : ∃ x, xs[0]? = some x := ⟨_, List.getElem?_eq_getElem (by omega)⟩
  by_cases hs : Srt xs
  · have h0 : tStep xs 0 = (decide (x0.path = [47] ∧ x0.own = -1 ∧ x0.born = 0) && tRight xs 0) := by
      unfold tStep
      rw [if_pos rfl]
      simp only [getD_of hx0]
      have e1 : lfRooty x0 = decide (x0.path = [47] ∧ x0.own = -1 ∧ x0.born = 0) := by
        unfold lfRooty
        rw [Bool.eq_iff_iff]
        simp
      have e2 : lfFit x0 = tRight xs 0 := by
        by_cases hf : lfOkay x0
        · rw [right_zero hx0 hf, (okay_fit x0).2 hf]
        · rw [right_not hx0 hf, Bool.eq_false_iff]
          exact fun h => hf ((okay_fit x0).1 h)
      rw [e1, e2]
    have hk : ∀ k, 0 < k → k < xs.length → tStep xs k = tRight xs k := fun k hk hl => by
      obtain ⟨x, hx⟩ : ∃ x, xs[k]? = some x := ⟨_, List.getElem?_eq_getElem hl⟩
      obtain ⟨p, hp⟩ : ∃ x, xs[k - 1]? = some x := ⟨_, List.getElem?_eq_getElem (by omega)⟩
      exact may_right hs hx hk hp
    unfold tTakes tLoads
    rw [decide_eq_true hlen, Bool.true_and, Bool.true_and, getD_of hx0, Bool.eq_iff_iff]
    simp only [Bool.and_eq_true, List.all_eq_true, List.mem_range]
    constructor
    · intro h
      have h00 := h 0 (by omega)
      rw [h0, Bool.and_eq_true] at h00
      refine ⟨h00.1, fun k hl => ?_⟩
      rcases Nat.eq_zero_or_pos k with rfl | h1
      · exact h00.2
      · rw [← hk k h1 hl]; exact h k hl
    · rintro ⟨h1, h2⟩ k hl
      rcases Nat.eq_zero_or_pos k with rfl | h3
      · rw [h0, h1, h2 0 hl]; rfl
      · rw [hk k h3 hl]; exact h2 k hl
  · have hno : ∃ k x p, 0 < k ∧ xs[k]? = some x ∧ xs[k - 1]? = some p ∧ Op.bytesLess p.path x.path = false := by
      refine Classical.byContradiction fun h => hs (srt_near fun k x y hx hy => ?_)
      cases hb : Op.bytesLess x.path y.path with
      | true => exact hb
      | false => exact absurd ⟨k + 1, y, x, by omega, hy, by simpa using hx, hb⟩ h
    obtain ⟨k, x, p, hk, hx, hp, hb⟩ := hno
    have hl : k < xs.length := (List.getElem?_eq_some_iff.1 hx).1
    rw [loads_no hl (right_ord hx hk hp hb), takes_no hl (by unfold tStep; rw [if_neg (by omega)]; simp only [getD_of hx, getD_of hp]; rw [hb]; rfl)]
end Go.Proofs.YtgppclmofphlfaaGreatDoor
