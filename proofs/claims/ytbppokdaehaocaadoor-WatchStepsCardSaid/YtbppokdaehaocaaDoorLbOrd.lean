/-
  Texts byte by byte: which is ahead of which. Plain lemmas; no statement.
-/
import Derived.Test.YtbppokdaehaocaaDoorMBase
namespace Go.Proofs.YtbppokdaehaocaaDoor
set_option maxRecDepth 100000
set_option linter.unusedVariables false

/-- ahead of, byte by byte -/
abbrev lb (x y : List UInt8) : Prop := Op.bytesLess x y = true
theorem lb_cons {a b : UInt8} {x y : List UInt8} : lb (a :: x) (b :: y) ↔ a < b ∨ (a = b ∧ lb x y) := by
  show (decide (a < b) || (a == b && Op.bytesLess x y)) = true ↔ _
  simp [lb]
theorem lb_irr : ∀ x : List UInt8, ¬ lb x x
  | [] => by simp [lb, Op.bytesLess]
  | a :: x => by
    rw [lb_cons]
    rintro (h | ⟨_, h⟩)
    · exact absurd h (UInt8.lt_irrefl a)
    · exact lb_irr x h
theorem lb_trans : ∀ {x y z : List UInt8}, lb x y → lb y z → lb x z
  | x, y, [], _, h => by cases y <;> simp [lb, Op.bytesLess] at h
  | [], y, c :: z, _, _ => rfl
  | a :: x, [], c :: z, h, _ => by simp [lb, Op.bytesLess] at h
  | a :: x, b :: y, c :: z, h, k => by
    rw [lb_cons] at h k ⊢
    rcases h with h | ⟨rfl, h⟩ <;> rcases k with k | ⟨rfl, k⟩
    · exact .inl (UInt8.lt_trans h k)
    · exact .inl h
    · exact .inl k
    · exact .inr ⟨rfl, lb_trans h k⟩
theorem lb_total : ∀ (x y : List UInt8), x ≠ y → lb x y ∨ lb y x
  | [], [], h => absurd rfl h
  | [], _ :: _, _ => .inl rfl
  | _ :: _, [], _ => .inr rfl
  | a :: x, b :: y, h => by
    rw [lb_cons, lb_cons]
    rcases Nat.lt_trichotomy a.toNat b.toNat with e | e | e
    · exact .inl (.inl (UInt8.lt_iff_toNat_lt.2 e))
    · have hab : a = b := UInt8.toNat_inj.1 e
      subst hab
      rcases lb_total x y (fun e => h (by rw [e])) with q | q
      · exact .inl (.inr ⟨rfl, q⟩)
      · exact .inr (.inr ⟨rfl, q⟩)
    · exact .inr (.inl (UInt8.lt_iff_toNat_lt.2 e))
theorem lb_asym {x y : List UInt8} (h : lb x y) : ¬ lb y x := fun k => lb_irr _ (lb_trans h k)
theorem lb_ne {x y : List UInt8} (h : lb x y) : x ≠ y := fun e => lb_irr y (by rw [e] at h; exact h)
end Go.Proofs.YtbppokdaehaocaaDoor
