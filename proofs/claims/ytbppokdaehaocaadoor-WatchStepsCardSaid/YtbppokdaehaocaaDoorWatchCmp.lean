/-
  Which of two watches is ahead, as the library's comparisons tell it. Plain lemmas; no statement.
-/
import Derived.Test.YtbppokdaehaocaaDoorWatchPlain
import Derived.Lib.Bytealg
import Derived.Lib.Small
namespace Go.Proofs.YtbppokdaehaocaaDoor
set_option maxRecDepth 100000
set_option linter.unusedVariables false

theorem cb_is : ∀ x y : List UInt8, Lib.compareBytes x y = if lb x y then -1 else if x = y then 0 else 1
  | [], [] => rfl
  | [], _ :: _ => rfl
  | _ :: _, [] => rfl
  | a :: x, b :: y => by
    have ih := cb_is x y
    unfold Lib.compareBytes
    by_cases h : a < b
    · rw [if_pos h, if_pos (lb_cons.2 (.inl h))]
    · rw [if_neg h]
      by_cases k : b < a
      · have hne : a ≠ b := fun e => by subst e; exact h k
        have h1 : ¬ lb (a :: x) (b :: y) := fun q => (lb_cons.1 q).elim h fun q => hne q.1
        have h2 : ¬ (a :: x = b :: y) := fun e => hne (by injection e)
        rw [if_pos k, if_neg h1, if_neg h2]
      · have e : a = b := (Nat.lt_trichotomy a.toNat b.toNat).elim (fun q => absurd (UInt8.lt_iff_toNat_lt.2 q) h) fun q => q.elim (fun q => UInt8.toNat_inj.1 q) fun q => absurd (UInt8.lt_iff_toNat_lt.2 q) k
        subst e
        rw [if_neg k, ih]
        have e1 : lb (a :: x) (a :: y) ↔ lb x y := by rw [lb_cons]; exact ⟨fun q => q.elim (fun q => absurd q h) (·.2), fun q => .inr ⟨rfl, q⟩⟩
        by_cases q : lb x y
        · rw [if_pos q, if_pos (e1.2 q)]
        · rw [if_neg q, if_neg (fun r => q (e1.1 r))]
          by_cases r : x = y
          · rw [if_pos r, if_pos (by rw [r])]
          · rw [if_neg r, if_neg (fun s => r (by injection s))]
theorem cmp_is (a b : Wt) : (if Lib.compareBytes a.path b.path ≠ 0 then Lib.compareBytes a.path b.path else if Lib.compareInt a.kind b.kind ≠ 0 then Lib.compareInt a.kind b.kind else Lib.compareInt a.client b.client) = wCmp a b := by
  obtain ⟨c1, k1, p1⟩ := a
  obtain ⟨c2, k2, p2⟩ := b
  have hL : wLt ⟨c1, k1, p1⟩ ⟨c2, k2, p2⟩ ↔ lb p1 p2 ∨ (p1 = p2 ∧ (k1 < k2 ∨ (k1 = k2 ∧ c1 < c2))) := Iff.rfl
  show (if Lib.compareBytes p1 p2 ≠ 0 then Lib.compareBytes p1 p2 else if Lib.compareInt k1 k2 ≠ 0 then Lib.compareInt k1 k2 else Lib.compareInt c1 c2) = _
  unfold wCmp
  by_cases h : lb p1 p2
  · have e : Lib.compareBytes p1 p2 = -1 := by rw [cb_is, if_pos h]
    rw [if_pos (hL.2 (.inl h)), e]
    rfl
  · by_cases e : p1 = p2
    · subst e
      have e0 : Lib.compareBytes p1 p1 = 0 := by rw [cb_is, if_neg h, if_pos rfl]
      have hL' : wLt ⟨c1, k1, p1⟩ ⟨c2, k2, p1⟩ ↔ (k1 < k2 ∨ (k1 = k2 ∧ c1 < c2)) := by rw [hL]; exact ⟨fun q => q.elim (fun q => absurd q h) (·.2), fun q => .inr ⟨rfl, q⟩⟩
      rw [e0]
      simp only [hL', Lib.compareInt, Wt.mk.injEq]
      rcases Int.lt_trichotomy k1 k2 with q | q | q
      · simp [q]
      · subst q
        rcases Int.lt_trichotomy c1 c2 with r | r | r
        · simp [r]
        · subst r; simp
        · have r1 : ¬ c1 < c2 := by omega
          have r2 : ¬ c1 = c2 := by omega
          simp [r, r1, r2]
      · have q1 : ¬ k1 < k2 := by omega
        have q2 : ¬ k1 = k2 := by omega
        simp [q, q1, q2]
    · have e1 : Lib.compareBytes p1 p2 = 1 := by rw [cb_is, if_neg h, if_neg e]
      have n1 : ¬ wLt ⟨c1, k1, p1⟩ ⟨c2, k2, p2⟩ := fun q => (hL.1 q).elim h fun q => e q.1
      have n2 : ¬ ((⟨c1, k1, p1⟩ : Wt) = ⟨c2, k2, p2⟩) := fun q => e (by injection q)
      rw [e1, if_neg n1, if_neg n2]
      rfl
end Go.Proofs.YtbppokdaehaocaaDoor
