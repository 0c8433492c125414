/-
  A text pushed onto the row in a box, within a round. Plain lemmas; no statement.
-/
import Derived.Test.YtgppclmofphlfaaGreatDoorTreeIter
import Derived.Test.YtgppclmofphlfaaGreatDoorRoundPlain
namespace Go.Proofs.YtgppclmofphlfaaGreatDoor
set_option maxRecDepth 100000
open Go.RowKit Go.Shelf
set_option linter.unusedVariables false

/-- behind a text pushed onto the row in box B -/
structure Pushed (n0 B : Nat) (W w7 : World) (A' : Option Addr) (n c' : Nat) (ls : List (List UInt8)) : Prop where
  kept : KeepsOthers W w7
  kp : KpB n0 B W w7
  box : Bk w7 B 53 [.slice A' n c']
  own : OwnT w7 n0 A' n c' ls
theorem own_pos {w : World} {base : Nat} {A : Option Addr} {n c : Nat} {ls : List (List UInt8)} (h : OwnT w base A (n + 1) c ls) : ∃ g, A = some ⟨g, 0, none⟩ ∧ base ≤ g ∧ g < w.heap.size := by
  rcases h.2 with ⟨e1, e2⟩ | ⟨g', cap, cur, e1, hg, hb, _⟩
  · omega
  · injection e1 with e1
    exact ⟨g', e1, hg, (Array.getElem?_eq_some_iff.1 hb).1⟩
theorem pushed {n0 B : Nat} {W w5 w6 : World} {A A' : Option Addr} {n c c' : Nat} {ls : List (List UInt8)} {x : List UInt8} (hn0 : n0 ≤ W.heap.size) (hnB : n0 ≤ B)
    (hb : Bk W B 53 [.slice A n c]) (ho : OwnT W n0 A n c ls) (h5 : Below W.heap.size W w5)
    (hg : (w5.alloc (.cells #[sv x] 9)).grownBy w6 (Value.slice A n c).ownBlock)
    (ho6 : w6.ownsRow n0 9 1 (.slice A' (n + 1) c') (n + 1) (ls.map sv ++ [sv x]))
    (hr : (Value.slice A' (n + 1) c').ownBlock = (Value.slice A n c).ownBlock ∨ (Value.slice A' (n + 1) c').ownBlock = some (w5.alloc (.cells #[sv x] 9)).heap.size) :
    Pushed n0 B W (w6.setCell ⟨B, 0, none⟩ (.slice A' (n + 1) c')) A' (n + 1) c' (ls ++ [x]) := by
  have hb5 : Bk w5 B 53 [.slice A n c] := hb.kept h5
  have ho5 : OwnT w5 n0 A n c ls := ho.below h5
  have hBl := hb.lt
  obtain ⟨q1, q2, q3, q4, q5⟩ := Boxed.appended (t := 53) (e := 9) (tmp := .cells #[sv x] 9) hb5 (by decide) ho5 (Nat.le_trans hn0 h5.size) hnB ho6 hg
  refine ⟨(KeepsOthers.of_grownBy (grown_of_below h5 none) (fun j o e => by cases e)).trans q4, ⟨(h5.mono hn0).trans q5, ?_, ?_⟩, q2, ?_⟩
  · intro k o hk hc hn
    have hlt := (Array.getElem?_eq_some_iff.1 hk).1
    have hkB : k ≠ B := fun e => hn (.inl e)
    have hkA : some k ≠ (Value.slice A n c).ownBlock := by
      intro e
      cases A with
      | none => simp [Value.ownBlock] at e
      | some a =>
        refine hn (.inr ⟨a, n, c, hb.at_ rfl, ?_⟩)
        have : some a.block = some k := by rw [e]; rfl
        exact Option.some.inj this
    have e1 : w6.heap[k]? = some o := by
      rw [hg.block k (by have := h5.size; simp; omega) hkA, heap_alloc_old _ _ (by have := h5.size; omega), h5.block k hlt]
      exact hk
    exact (heap_setCell_other w6 ⟨B, 0, none⟩ k _ hkB).trans e1
  · intro k hk
    rcases hk with rfl | ⟨a, n', c2, hc, ha⟩
    · exact .inl (.inl rfl)
    · have hc2 : (w6.setCell ⟨B, 0, none⟩ (.slice A' (n + 1) c')).cell? ⟨B, 0, none⟩ = some (.slice A' (n + 1) c') := (show Bk _ B 53 [.slice A' (n + 1) c'] from q2).at_ rfl
      rw [hc2] at hc
      injection hc with hc
      injection hc with hA
      subst hA
      rcases hr with e | e
      · left; right
        have e1 : (Value.slice A n c).ownBlock = some k := by rw [← e, ← ha]; rfl
        cases A with
        | none => simp [Value.ownBlock] at e1
        | some b =>
          refine ⟨b, n, c, hb.at_ rfl, ?_⟩
          have : some b.block = some k := by rw [← e1]; rfl
          exact Option.some.inj this
      · right
        have e1 : some a.block = some (w5.alloc (.cells #[sv x] 9)).heap.size := by rw [← e]; rfl
        have e2 := Option.some.inj e1
        have := h5.size
        rw [← ha, e2]
        simp
        omega
  · show World.ownsRow _ n0 9 1 (.slice A' (n + 1) c') (n + 1) ((ls ++ [x]).map sv)
    rw [List.map_append]
    exact q3
end Go.Proofs.YtgppclmofphlfaaGreatDoor
