/-
  Rows and bytes of a call's own that calls on a log leave as they are. Plain lemmas; no statement.
-/
import Derived.Test.YtmiejaohkgemnaaDoorMLaw
import Derived.Test.YtmiejaohkgemnaaDoorLogGood
namespace Go.Proofs.YtmiejaohkgemnaaDoor
open Go.RowKit
set_option linter.unusedVariables false
set_option maxRecDepth 100000

/-- a row of the call's own, none of it in F -/
def OwnBX (w : World) (F : Nat → Prop) (base : Nat) (A : Option Addr) (n c : Nat) (l : List UInt8) : Prop := OwnB w base A n c l ∧ ∀ i, (Value.slice A n c).ownBlock = some i → ¬ F i
def OwnRsX (w : World) (F : Nat → Prop) (base : Nat) (A : Option Addr) (n c : Nat) (ls : List (List UInt8)) : Prop :=
  ls.length = n ∧ ∃ us : List Value, w.ownsRow base 32 1 (.slice A n c) n us ∧ (∀ i, (Value.slice A n c).ownBlock = some i → ¬ F i) ∧
    ∀ (k : Nat) (u : Value) (l : List UInt8), us[k]? = some u → ls[k]? = some l → ∃ A' c', u = .slice A' l.length c' ∧ OwnBX w F base A' l.length c' l
section
variable {w w' : World} {F F' : Nat → Prop} {base n c : Nat} {A : Option Addr} {l : List UInt8} {ls : List (List UInt8)}
theorem OwnB.x (h : OwnB w base A n c l) (hF : ∀ i, F i → i < base) : OwnBX w F base A n c l := ⟨h, fun i e hf => by have := hF i hf; have := h.block i e; omega⟩
theorem OwnBX.step (h : OwnBX w F base A n c l) (hc : Chg F w w') (hF : ∀ i, F' i → F i ∨ w.heap.size ≤ i) : OwnBX w' F' base A n c l :=
  ⟨hc.ownB h.1 h.2, fun i e hf => (hF i hf).elim (h.2 i e) (fun q => by have := (World.ownsRow.lt h.1 i e).2; omega)⟩
theorem OwnBX.below (h : OwnBX w F base A n c l) (hb : Below w.heap.size w w') : OwnBX w' F base A n c l := ⟨h.1.below hb, h.2⟩
theorem OwnRs.x (h : OwnRs w base A n c ls) (hF : ∀ i, F i → i < base) : OwnRsX w F base A n c ls := by
  obtain ⟨h1, us, h2, h3⟩ := h
  refine ⟨h1, us, h2, fun i e hf => by have := hF i hf; have := (World.ownsRow.lt h2 i e).1; omega, fun k u l hu hl => ?_⟩
  obtain ⟨A', c', e, ho⟩ := h3 k u l hu hl
  exact ⟨A', c', e, ho.x hF⟩
theorem OwnRsX.own (h : OwnRsX w F base A n c ls) : OwnRs w base A n c ls := by
  obtain ⟨h1, us, h2, _, h3⟩ := h
  refine ⟨h1, us, h2, fun k u l hu hl => ?_⟩
  obtain ⟨A', c', e, ho⟩ := h3 k u l hu hl
  exact ⟨A', c', e, ho.1⟩
theorem OwnRsX.step (h : OwnRsX w F base A n c ls) (hc : Chg F w w') (hF : ∀ i, F' i → F i ∨ w.heap.size ≤ i) : OwnRsX w' F' base A n c ls := by
  obtain ⟨h1, us, h2, h2f, h3⟩ := h
  refine ⟨h1, us, hc.owns h2 h2f, fun i e hf => (hF i hf).elim (h2f i e) (fun q => by have := (World.ownsRow.lt h2 i e).2; omega), fun k u l hu hl => ?_⟩
  obtain ⟨A', c', e, ho⟩ := h3 k u l hu hl
  exact ⟨A', c', e, ho.step hc hF⟩
theorem OwnRsX.below (h : OwnRsX w F base A n c ls) (hb : Below w.heap.size w w') : OwnRsX w' F base A n c ls := h.step (Chg.of_below F hb) (fun _ => .inl)
theorem OwnRsX.less (h : OwnRsX w F base A n c ls) (hF : ∀ i, F' i → F i ∨ w.heap.size ≤ i) : OwnRsX w F' base A n c ls := h.step (Chg.refl F w) hF
theorem OwnBX.less (h : OwnBX w F base A n c l) (hF : ∀ i, F' i → F i ∨ w.heap.size ≤ i) : OwnBX w F' base A n c l := h.step (Chg.refl F w) hF
/-- rows that came in, apart from nothing -/
theorem RdRows.all (h : RdRows w A n ls) : RowsOff w (fun _ => False) A n ls := by
  obtain ⟨h1, us, h2, h3⟩ := h
  refine ⟨h1, us, h2, fun _ _ _ h => h, fun k u l hu hl => ?_⟩
  obtain ⟨A', c', e, q1, q2, q3, q4⟩ := h3 k u l hu hl
  exact ⟨A', c', e, ⟨q1, q2, q3, q4⟩, fun _ _ _ h => h⟩
end
namespace Lg
/-- a disk with these bytes -/
def PA (a b : List UInt8) : PD := ⟨-1, a, b, 0, 0⟩
theorem pa1 (a : List UInt8) : (PD.new (-1)).append 0 [a] = (PA a [], 0) := by
  unfold PD.append
  rw [if_pos known0, if_neg (by show ¬ ((-1 : Int) = 0); omega)]
  simp [PD.setData, PD.drew, drawn, PD.data, PD.new, PA]
theorem pa2 (a b : List UInt8) : (PA a []).append 1 [b] = (PA a b, 0) := by
  unfold PD.append
  rw [if_pos known1, if_neg (by show ¬ ((-1 : Int) = 0); omega)]
  simp [PD.setData, PD.drew, drawn, PD.data, PA]
end Lg
end Go.Proofs.YtmiejaohkgemnaaDoor
