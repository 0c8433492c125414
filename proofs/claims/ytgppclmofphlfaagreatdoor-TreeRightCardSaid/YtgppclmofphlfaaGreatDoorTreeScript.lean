/-
  What a tree of the law's own comes to beside rows of the law's. Plain lemmas; no statement.
-/
import Derived.Test.YtgppclmofphlfaaGreatDoorTreeLaw
import Derived.Deep.RegionHeld
namespace Go.Proofs.YtgppclmofphlfaaGreatDoor
set_option maxRecDepth 100000
open Go.RowKit
set_option linter.unusedVariables false
section
variable {F G : Nat → Prop} {w0 w w' : World} {g n : Nat} {t : List Lf}
theorem TOn.drew (h : TOn F w0 g n t w) : TOn F w0 g n t w.drew := h.kept ⟨rfl, rfl, rfl, Nat.le_refl _, fun _ _ => rfl⟩
theorem TOn.chg (h : TOn F w0 g n t w) (hc : Chg G w w') (hG : ∀ k, F k → ¬ G k) (h0 : ∀ k, G k → w0.heap.size ≤ k) : TOn F w0 g n t w' :=
  ⟨h.tree.chg hc fun k hk _ => hG k hk, fun k hk => ⟨(h.low k hk).1, Nat.lt_of_lt_of_le (h.low k hk).2 hc.size⟩, h.be.trans (hc.below h0 h.be.size), h.ok⟩
end
end Go.Proofs.YtgppclmofphlfaaGreatDoor
