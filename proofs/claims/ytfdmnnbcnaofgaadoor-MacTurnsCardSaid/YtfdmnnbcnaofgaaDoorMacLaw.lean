import Derived.Test.YtfdmnnbcnaofgaaDoorMacAlive
import Derived.Deep.RegionHeld3
namespace Go.Proofs.YtfdmnnbcnaofgaaDoor
open Go.RowKit
open Pk Sh
set_option linter.unusedVariables false

theorem Sl.drew {w : World} {A : Option Addr} {n c : Nat} {l : List UInt8} (h : Sl w A n c l) : Sl w.drew A n c l := h
/-- onto a later world, a draw between or not -/
theorem Sl.belowD {w w' : World} {A : Option Addr} {n c : Nat} {l : List UInt8} (h : Sl w A n c l) (hb : Below w.drew.heap.size w.drew w') : Sl w' A n c l := h.drew.below hb
theorem below_drew {B : Nat} {a w : World} (h : Below B a w) : Below B a w.drew := below_drewN h 1
theorem Rd.belowD {w w' : World} {A : Option Addr} {n : Nat} {xs : List Value} (h : Rd w A n xs) (hb : Below w.drew.heap.size w.drew w') : Rd w' A n xs := (Rd.drew h).below hb
theorem rows_drew {w : World} {A : Option Addr} {n : Nat} {ls : List (List UInt8)} (h : RdRows w A n ls) : RdRows w.drew A n ls := h
theorem rows_belowD {w w' : World} {A : Option Addr} {n : Nat} {ls : List (List UInt8)} (h : RdRows w A n ls) (hb : Below w.drew.heap.size w.drew w') : RdRows w' A n ls := (rows_drew h).below hb
theorem bk_keptD {w w' : World} {g : Nat} {t : TypeId} {cs : List Value} (h : Bk w g t cs) (hb : Below w.drew.heap.size w.drew w') : Bk w' g t cs := (show Bk w.drew g t cs from h).kept hb
theorem bk_drew {w : World} {g : Nat} {t : TypeId} {cs : List Value} (h : Bk w g t cs) : Bk w.drew g t cs := h
theorem Sl.front {w : World} {A : Option Addr} {N n c : Nat} {l r : List UInt8} (h : Sl w A N c (l ++ r)) (hl : l.length = n) : Sl w A n c l := by
  have hlen := h.len
  rw [List.length_append, hl] at hlen
  refine ⟨by have := h.1; omega, h.2.1, ?_, h.2.2.2⟩
  have := h.rd.front (k := n) (by omega)
  rwa [List.map_append, List.take_left' (by rw [List.length_map]; exact hl)] at this
/-- what a call answers: new bytes; what was there is as it was -/
def NewS (l : List UInt8) (n : Nat) (w X : World) (e : Ending) (w' : World) : Prop :=
  ∃ A c, e = .returned (.slice A n c) ∧ Sl w' A n c l ∧ Below w.heap.size w w' ∧ Below X.heap.size X w'
theorem fresh_new {l : List UInt8} {n : Nat} {w X : World} {e : Ending} {w' : World} (hw : Below w.heap.size w X) (hl : l.length = n) (h : Fresh1 l X e w') : NewS l n w X e w' := by
  obtain ⟨A, m, c, he, ho, hb⟩ := h
  have hm : m = n := by rw [← hl, ho.len]
  subst hm
  exact ⟨A, c, he, Sl.own ho, below_next hw hb hw.size, hb⟩
/-- a bool, and what was there is as it was -/
def BoolS (b : Bool) (w X : World) (e : Ending) (w' : World) : Prop := e = .returned (.bool b) ∧ Below w.heap.size w w' ∧ Below X.heap.size X w'
theorem quiet_bool {b : Bool} {w X : World} {e : Ending} {w' : World} (hw : Below w.heap.size w X) (h : Quiet (.bool b) X e w') : BoolS b w X e w' := by
  obtain ⟨he, k, rfl⟩ := h
  exact ⟨he, below_drewN hw k, below_drewN (Below.refl _ _) k⟩
theorem tells_bool {b : Bool} {w X : World} {e : Ending} {w' : World} (hw : Below w.heap.size w X) (h : Tells (.bool b) X e w') : BoolS b w X e w' := by
  obtain ⟨he, hb⟩ := h
  exact ⟨he, below_next hw hb hw.size, hb⟩
/-- the calls of the statements, in these words -/
theorem copy_new {w : World} {B : Option Addr} {m d : Nat} {b : List UInt8} (h : Sl w B m d b) (hm : m ≤ 1099511627776) (X : World) (hw : Below w.heap.size w X) :
    Calls Tryd.prog 14 #[.slice B m d] X (NewS b m w X) :=
  (copyBytes_any B m d b X (h.below hw).rd hm).mono fun _ _ q => fresh_new hw h.len q
theorem same_new {w : World} {n : Nat} {l : List UInt8} (hn : n ≤ maxLen) (A A' : Option Addr) (n' c c' : Nat) (X : World) (hw : Below w.heap.size w X) (h : Sl X A n c l) (h' : Sl X A' n' c' l) :
    Calls Tryd.prog 12 #[.slice A n c, .slice A' n' c'] X (BoolS true w X) :=
  (sameBytes_self A A' n n' c c' X l h.rd h'.rd hn).mono fun _ _ q => quiet_bool hw q
end Go.Proofs.YtfdmnnbcnaofgaaDoor
