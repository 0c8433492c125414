/-
  Two books of a law's own with nothing in common. Plain lemmas; no statement.
-/
import Derived.Test.YtfbdmemjojjgnaaSessFacts
namespace Go.Proofs.Ytfbdmemjojjgnaa
set_option maxRecDepth 100000
open Go.RowKit
set_option linter.unusedVariables false

/-- books T at g and S at h, their blocks G and H apart -/
structure TwoS (w0 : World) (g : Nat) (G : Nat → Prop) (T : List Se) (h : Nat) (H : Nat → Prop) (S : List Se) (w : World) : Prop where
  one : SOn G w0 g T w
  two : SOn H w0 h S w
  off : ∀ k, G k → ¬ H k
section
variable {w0 w w' : World} {g h : Nat} {G H : Nat → Prop} {T S T' : List Se} {r : Value} {e : Ending} {cs : List Int}
theorem TwoS.kept (t : TwoS w0 g G T h H S w) (hb : Below w.heap.size w w') : TwoS w0 g G T h H S w' := ⟨t.one.kept hb, t.two.kept hb, t.off⟩
theorem TwoS.turn (t : TwoS w0 g G T h H S w) : TwoS w0 h H S g G T w := ⟨t.two, t.one, fun k h1 h2 => t.off k h2 h1⟩
theorem TwoS.did {G' : Nat → Prop} (t : TwoS w0 g G T h H S w) (h1 : SOn G' w0 g T' w') (h2 : ∀ k, G' k → G k ∨ w.heap.size ≤ k) (h3 : Chg G w w') : TwoS w0 g G' T' h H S w' :=
  ⟨h1, t.two.other h3 (fun k hk hg => t.off k hg hk) h1.be, fun k hk hh => by
    rcases h2 k hk with q | q
    · exact t.off k q hh
    · have := (t.two.low k hh).2; omega⟩
theorem TwoS.did1 (t : TwoS w0 g G T h H S w) (hd : MvS G w0 g T' r w e w') : ∃ G', e = .returned r ∧ TwoS w0 g G' T' h H S w' := by
  obtain ⟨he, G', h1, h2, h3⟩ := hd
  exact ⟨G', he, t.did h1 h2 h3⟩
theorem TwoS.did2 (t : TwoS w0 g G T h H S w) (hd : MvS H w0 h T' r w e w') : ∃ H', e = .returned r ∧ TwoS w0 g G T h H' T' w' := by
  obtain ⟨H', he, q⟩ := t.turn.did1 hd
  exact ⟨H', he, q.turn⟩
theorem TwoS.gone1 (t : TwoS w0 g G T h H S w) (hd : GoneS G w0 g T' cs w e w') : ∃ A c G', e = .returned (.slice A cs.length c) ∧ TwoS w0 g G' T' h H S w' := by
  obtain ⟨A, c, G', he, _, _, h1, h2, h3⟩ := hd
  exact ⟨A, c, G', he, t.did h1 h2 h3⟩
theorem TwoS.gone2 (t : TwoS w0 g G T h H S w) (hd : GoneS H w0 h T' cs w e w') : ∃ A c H', e = .returned (.slice A cs.length c) ∧ TwoS w0 g G T h H' T' w' := by
  obtain ⟨A, c, H', he, q⟩ := t.turn.gone1 hd
  exact ⟨A, c, H', he, q.turn⟩
theorem TwoS.new (h1 : SOn G w0 g T w) (h2 : SOn H w0 h S w') (hH : ∀ k, H k → w.heap.size ≤ k) (hb : Below w.heap.size w w') : TwoS w0 g G T h H S w' :=
  ⟨h1.kept hb, h2, fun k hk hh => by have := (h1.low k hk).2; have := hH k hh; omega⟩
end
end Go.Proofs.Ytfbdmemjojjgnaa
