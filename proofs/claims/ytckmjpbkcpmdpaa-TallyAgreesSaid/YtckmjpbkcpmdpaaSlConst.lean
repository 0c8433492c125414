/-
  A constant's bytes as a slice. A plain lemma; no statement.
-/
import Derived.Test.YtckmjpbkcpmdpaaMRows
namespace Go.Proofs.Ytckmjpbkcpmdpaa
open Go.RowKit
set_option linter.unusedVariables false

theorem Sl.const (w : World) (l : List UInt8) (cs : Array Value) (n s : Nat) (hc : cs = (l.map bv).toArray) (hn : n = l.length) (hs : s = w.heap.size) (fr : Nat × Nat) (h : l.length ≤ maxLen) : Sl (w.alloc (.cells cs 5 fr)) (some ⟨s, 0, none⟩) n n l := by
  subst hc hn hs
  exact Sl.marked w l fr h
end Go.Proofs.Ytckmjpbkcpmdpaa
