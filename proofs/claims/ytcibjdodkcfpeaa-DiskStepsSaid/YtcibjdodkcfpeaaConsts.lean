/-
  Constant bytes, and bytes as a string. Plain lemmas; no statement.
-/
import Derived.Test.YtcibjdodkcfpeaaBlocks
import Derived.Lib.SlBytesConst
import Derived.Laws.IdiomStrings
import Derived.Laws.BytesArg
namespace Go.Proofs.Ytcibjdodkcfpeaa
open Go.RowKit
set_option linter.unusedVariables false

theorem Sl.marked (w : World) (l : List UInt8) (fr : Nat × Nat) (h : l.length ≤ maxLen) : Sl (w.alloc (.cells (l.map bv).toArray 5 fr)) (some ⟨w.heap.size, 0, none⟩) l.length l.length l :=
  ⟨Nat.le_refl _, h, by have := Rd.marked w (l.map bv) 5 fr; rwa [List.length_map] at this, fun e => by cases e⟩
/-- a constant's bytes go on as they are -/
theorem conv_const (W : World) (g : Nat) (hg : g = W.heap.size) (C : Array Value) (n c : Nat) :
    (convert 28 28 (.slice (some ⟨g, 0, none⟩) n c)).run Try.prog (W.alloc (.cells C 5)) = .ok (.slice (some ⟨g, 0, none⟩) n c) (W.alloc (.cells C 5 (C.size, C.size + 1))) := by
  subst hg
  exact Lib.run_convert_bytes_const W 28 5 C n c Try.underlying28 Try.underlying5
theorem conv_rd (A : Option Addr) (n c : Nat) (l : List UInt8) (w : World) (h : Rd w A n (l.map bv)) :
    (convert 28 9 (.slice A n c)).run Try.prog w = .ok (.string ⟨l.toArray⟩) w := by
  have hx : l.length = n := by simpa using h.1
  rcases A with _ | a
  · have := h.none_nil
    simp at this
    subst this
    rw [run_convert_bytes_nil w 28 5 Try.underlying28 Try.underlying5 n c 9 Try.underlying9]
    rfl
  · subst hx
    refine run_convert_bytes_back w 28 9 5 a c l Try.underlying28 Try.underlying5 Try.underlying9 (fun j hj => ?_)
    obtain ⟨a', e, _, hc⟩ := h.2 j (bv l[j]) (by simp [hj])
    have e3 : a = a' := Option.some.inj e
    rw [e3]; exact hc
end Go.Proofs.Ytcibjdodkcfpeaa
