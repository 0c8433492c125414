/-
  What a state that has taken in bytes holds: in plain Lean. No statement.
-/
import Derived.Test.YtfdmnnbcnaofgaaDoorShaPlain
namespace Go.Proofs.YtfdmnnbcnaofgaaDoor
namespace Sh

/-- m was taken in: the words, and the bytes of the last block -/
def Par (m : List UInt8) (s : S8) (blk : List UInt8) (f : Nat) : Prop :=
  s = absorb (m.length / 64) init m ∧ f = m.length % 64 ∧ blk.take f = m.drop (64 * (m.length / 64))

theorem par_nil (blk : List UInt8) : Par [] init blk 0 := ⟨rfl, rfl, by simp⟩
theorem Par.lt {m : List UInt8} {s : S8} {blk : List UInt8} {f : Nat} (h : Par m s blk f) : f < 64 := by rw [h.2.1]; omega

theorem absorb_front (n : Nat) (s : S8) (m : List UInt8) (h : 64 * n ≤ m.length) : absorb n s (m.take (64 * n)) = absorb n s m := by
  have e := absorb_take n s (m.take (64 * n)) (m.drop (64 * n)) (by rw [List.length_take]; omega)
  rw [List.take_append_drop] at e
  exact e.symm

theorem Par.part {m cs blk : List UInt8} {s : S8} {f : Nat} (h : Par m s blk f) (hb : blk.length = 64) (hl : f + cs.length < 64) :
    Par (m ++ cs) s (blk.take f ++ cs ++ blk.drop (f + cs.length)) (f + cs.length) := by
  obtain ⟨h1, h2, h3⟩ := h
  have e1 : (m ++ cs).length / 64 = m.length / 64 := by rw [List.length_append]; omega
  have e2 : f + cs.length = (m ++ cs).length % 64 := by rw [List.length_append]; omega
  refine ⟨?_, e2, ?_⟩
  · rw [e1, h1, absorb_take _ _ _ _ (by omega)]
  · have e3 : (blk.take f).length = f := by rw [List.length_take]; omega
    rw [e1, List.drop_append_of_le_length (by omega), List.take_append_of_le_length (by rw [List.length_append, e3]; omega), List.take_of_length_le (by rw [List.length_append, e3]; omega), h3]

theorem Par.full {m cs blk : List UInt8} {s : S8} {f : Nat} (h : Par m s blk f) (hb : blk.length = 64) (hl : f + cs.length = 64) :
    Par (m ++ cs) (mixS s (blk.take f ++ cs ++ blk.drop (f + cs.length))) (blk.take f ++ cs ++ blk.drop (f + cs.length)) 0 := by
  obtain ⟨h1, h2, h3⟩ := h
  have e1 : (m ++ cs).length / 64 = m.length / 64 + 1 := by rw [List.length_append]; omega
  have e2 : (m ++ cs).length = 64 * (m.length / 64 + 1) := by rw [List.length_append]; omega
  refine ⟨?_, by omega, ?_⟩
  · have ea : m ++ cs = m.take (64 * (m.length / 64)) ++ (m.drop (64 * (m.length / 64)) ++ cs) := by rw [← List.append_assoc, List.take_append_drop]
    have e4 : absorb (m.length / 64 + 1) init (m ++ cs) = absorb 1 (absorb (m.length / 64) init (m.take (64 * (m.length / 64)))) (m.drop (64 * (m.length / 64)) ++ cs) := by
      conv => lhs; rw [ea]
      exact absorb_more _ 1 _ _ _ (by rw [List.length_take]; omega)
    rw [e1, e4, absorb_front _ _ _ (by omega), ← h1, List.drop_eq_nil_of_le (show blk.length ≤ f + cs.length by omega), List.append_nil, h3]
    show _ = mixS s ((m.drop (64 * (m.length / 64)) ++ cs).take 64)
    rw [List.take_of_length_le (by rw [List.length_append, List.length_drop]; omega)]
  · rw [e1, List.take_zero, List.drop_eq_nil_of_le (by omega)]

theorem lay_len {blk cs : List UInt8} {f : Nat} (hb : blk.length = 64) (hl : f + cs.length ≤ 64) : (blk.take f ++ cs ++ blk.drop (f + cs.length)).length = 64 := by
  simp only [List.length_append, List.length_take, List.length_drop]; omega
end Sh
end Go.Proofs.YtfdmnnbcnaofgaaDoor
