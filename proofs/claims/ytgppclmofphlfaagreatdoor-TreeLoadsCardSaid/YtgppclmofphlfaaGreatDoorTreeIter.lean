/-
  What a loop's body leaves to an iterator that reads memory of its own: all but one box and what the slice in it holds. Plain lemmas; no statement.
-/
import Derived.Test.YtgppclmofphlfaaGreatDoorMTreeD
import Derived.RangeFuncNested
import Derived.RangeFuncBound
import Derived.RangeFuncCalls
import Derived.RangeFuncLeaves
import Derived.RangeFuncBox
import Derived.Shelf.RegionOpen
import Derived.WalkKit
import Derived.LoopNIn
import Derived.LoopIn
import Derived.Maps.AppendAt
namespace Go.Proofs.YtgppclmofphlfaaGreatDoor
set_option maxRecDepth 100000
open Go.RowKit Go.Shelf
set_option linter.unusedVariables false

/-- block k is the box B, or the block of the slice in it -/
def Hold (B : Nat) (W : World) (k : Nat) : Prop := k = B ∨ ∃ a n c, W.cell? ⟨B, 0, none⟩ = some (.slice (some a) n c) ∧ a.block = k
/-- below n0 nothing has turned; of the other cells those alone that the box B holds -/
structure KpB (n0 B : Nat) (W W' : World) : Prop where
  be : Below n0 W W'
  same : ∀ k o, W.heap[k]? = some o → o.isCells = true → ¬ Hold B W k → W'.heap[k]? = some o
  hold : ∀ k, Hold B W' k → Hold B W k ∨ W.heap.size ≤ k
theorem KpB.refl (n0 B : Nat) (W : World) : KpB n0 B W W := ⟨Below.refl _ _, fun _ _ h _ _ => h, fun _ h => .inl h⟩
theorem KpB.trans {n0 B : Nat} {X Y Z : World} (h : KpB n0 B X Y) (k : KpB n0 B Y Z) : KpB n0 B X Z := by
  refine ⟨h.be.trans k.be, fun i o hi ho hn => ?_, fun i hi => ?_⟩
  · refine k.same i o (h.same i o hi ho hn) ho fun hy => ?_
    rcases h.hold i hy with q | q
    · exact hn q
    · have := (Array.getElem?_eq_some_iff.1 hi).1; omega
  · rcases k.hold i hi with q | q
    · exact h.hold i q
    · exact .inr (Nat.le_trans h.be.size q)
theorem hold_same {B : Nat} {W W' : World} (h : W'.cell? ⟨B, 0, none⟩ = W.cell? ⟨B, 0, none⟩) (k : Nat) : Hold B W' k ↔ Hold B W k := by
  unfold Hold
  rw [h]
/-- where the box stands as it stood -/
theorem KpB.of_grown {n0 B : Nat} {W W' : World} {row : Option Nat} (hg : W.grownBy W' row) (hB : B < W.heap.size) (h : ∀ k, row = some k → n0 ≤ k ∧ k ≠ B ∧ ∀ o, W.heap[k]? = some o → o.isCells = false) (hn : n0 ≤ W.heap.size) : KpB n0 B W W' := by
  have hb : W'.heap[B]? = W.heap[B]? := hg.block B hB fun e => (h B e.symm).2.1 rfl
  refine ⟨(Below.refl n0 W).grown hg hn fun k e => (h k e).1, fun k o hk ho _ => ?_, fun k hk => ?_⟩
  · have hlt := (Array.getElem?_eq_some_iff.1 hk).1
    refine (hg.block k hlt fun e => ?_).trans hk
    rw [(h k e.symm).2.2 o hk] at ho
    cases ho
  · exact .inl ((hold_same (World.cell?_of_block (w := W) hb) k).1 hk)
theorem KpB.of_below {n0 B : Nat} {W W' : World} (hb : Below W.heap.size W W') (hB : B < W.heap.size) (hn : n0 ≤ W.heap.size) : KpB n0 B W W' :=
  KpB.of_grown (grown_of_below hb none) hB (fun k e => by cases e) hn
theorem KpB.cell {n0 B : Nat} {W W' : World} (h : KpB n0 B W W') {p : Addr} {v : Value} (hp : W.cell? p = some v) (hn : ¬ Hold B W p.block) : W'.cell? p = some v := by
  have hc : ∃ o, W.heap[p.block]? = some o ∧ o.isCells = true := by
    unfold World.cell? at hp
    split at hp
    · exact ⟨_, by assumption, rfl⟩
    · cases hp
  obtain ⟨o, ho, hoc⟩ := hc
  rw [World.cell?_of_block (w := W) ((h.same _ o ho hoc hn).trans ho.symm)]
  exact hp
theorem KpB.rdT {n0 B : Nat} {W W' : World} (h : KpB n0 B W W') {A : Option Addr} {n : Nat} {ls : List (List UInt8)} (hr : RdT W A n ls) (hn : ∀ a, A = some a → 0 < n → ¬ Hold B W a.block) : RdT W' A n ls := by
  refine ⟨hr.1, fun k u hu => ?_⟩
  obtain ⟨a, e, hb, hc⟩ := hr.2 k u hu
  have h0 : 0 < n := by have := (List.getElem?_eq_some_iff.1 hu).1; have := hr.1; omega
  exact ⟨a, e, Nat.lt_of_lt_of_le hb h.be.size, h.cell hc (by rw [add_block]; exact hn a e h0)⟩
theorem kpB_t {n0 B : Nat} {X Y Z : World} (h : KpB n0 B X Y) (k : KpB n0 B Y Z) : KpB n0 B X Z := h.trans k
theorem kpB_b {n0 B : Nat} {w : World} (hn : n0 ≤ w.heap.size) (hB : B < w.heap.size) (W : World) (l : Nat) (o o' : Obj) (hl : w.heap.size ≤ l) (h : W.heap[l]? = some o) (hc : o.isCells = false) (_ : o.isWalk = false) : KpB n0 B W (W.putObj l o') := by
  have hlt := (Array.getElem?_eq_some_iff.1 h).1
  refine KpB.of_grown (grownBy_putObj' W l o') (by omega) (fun k e => ?_) (by omega)
  obtain rfl := Option.some.inj e
  exact ⟨by omega, by omega, fun o2 h2 => by rw [h] at h2; cases h2; exact hc⟩
end Go.Proofs.YtgppclmofphlfaaGreatDoor
