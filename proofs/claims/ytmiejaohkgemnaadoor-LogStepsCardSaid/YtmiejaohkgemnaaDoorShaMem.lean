/-
  Words for blocks that a call writes to: a block of one-cell values, known whole. No statement.
-/
import Derived.Test.YtmiejaohkgemnaaDoorMSha
import Derived.Test.YtmiejaohkgemnaaDoorMRows
import Derived.Laws.Rows
import Derived.Deep.MidRow
namespace Go.Proofs.YtmiejaohkgemnaaDoor
set_option linter.unusedVariables false
open Go.RowKit

theorem one_words (ws : List UInt32) : ((ws.map wv).toArray).all (·.oneCell') = true :=
  all_oneCell_toArray (fun v hv => by obtain ⟨x, _, rfl⟩ := List.mem_map.1 hv; rfl)
theorem oneB (l : List UInt8) : ∀ u ∈ l.map bv, u.oneCell' = true := by
  intro u hu
  obtain ⟨c, _, rfl⟩ := List.mem_map.1 hu
  rfl
theorem info_w64 : (Tryd.prog.info? 123).map (·.size) = some 64 := by kernel_rfl
theorem info_w8 : (Tryd.prog.info? 125).map (·.size) = some 8 := by kernel_rfl

theorem agg_u32 (w : World) : (isAgg 122).run Tryd.prog w = .ok false w := by kernel_rfl
theorem size_u32 (w : World) : (sizeOf 122).run Tryd.prog w = .ok 1 w := by kernel_rfl
theorem under_w64 : Tryd.prog.underlying 123 = some (.array 64 122) := by kernel_rfl
theorem under_w8 : Tryd.prog.underlying 125 = some (.array 8 122) := by kernel_rfl
theorem index_words (T N : Nat) (hT : Tryd.prog.underlying T = some (.array N 122)) (ws : List UInt32) (hl : ws.length = N) (n : Nat) (hn : n < N) (w : World) :
    (Instr.index T (.agg (ws.map wv).toArray) (.int .i64 (n : Int))).run Tryd.prog w = .ok (.int .u32 ((ws.getD n 0).toNat : Int)) w := by
  have hx : (ws.map wv).toArray[n]? = some (.int .u32 ((ws.getD n 0).toNat : Int)) := by
    simp [wv, hl, hn]
  simp only [Instr.index, asIntOf, Sem.run_bind, Sem.run_pure, Result.andThen_ok, run_underlying hT]
  rw [if_pos ⟨by omega, by omega⟩]
  simp only [Sem.run_bind, size_u32, Result.andThen_ok, part, agg_u32, Int.toNat_natCast, Nat.mul_one, hx]
  rfl

theorem arrLen64 : Tryd.prog.arrayLen 128 = 64 := by kernel_rfl
theorem arrElem64 : Tryd.prog.elem 128 = 5 := by kernel_rfl
theorem size_u8 (w : World) : (sizeOf 5).run Tryd.prog w = .ok 1 w := by kernel_rfl
theorem under64 : Tryd.prog.underlying 128 = some (.array (Tryd.prog.arrayLen 128) (Tryd.prog.elem 128)) := by kernel_rfl

/-- a piece of an array of 64 bytes behind its address -/
theorem piece_lh (g o l h : Nat) (hl : l ≤ h) (hh : h ≤ 64) (h64 : l < 64) (w : World) :
    (Instr.sliceAt 128 (.pointer (some ⟨g, o, none⟩)) (some (.int .i64 (l : Int))) (some (.int .i64 (h : Int))) none).run Tryd.prog w = .ok (.slice (some ⟨g, o + l, none⟩) (h - l) (64 - l)) w := by
  rw [run_sliceAt_array_lh w _ _ under64 .i64 .i64 l h (by omega) (by omega) (by rw [arrLen64]; omega), arrElem64, size_u8, arrLen64]
  simp [Result.andThen, slicedAt, at_add, show ¬ 64 = l by omega]
theorem piece_l (g o l : Nat) (h64 : l < 64) (w : World) :
    (Instr.sliceAt 128 (.pointer (some ⟨g, o, none⟩)) (some (.int .i64 (l : Int))) none none).run Tryd.prog w = .ok (.slice (some ⟨g, o + l, none⟩) (64 - l) (64 - l)) w := by
  rw [run_sliceAt_array_l w _ _ under64 .i64 l (by omega) (by rw [arrLen64]; omega), arrElem64, size_u8, arrLen64]
  simp [Result.andThen, slicedAt, at_add, show ¬ 64 = l by omega]
theorem piece_64 (g o : Nat) (w : World) :
    (Instr.sliceAt 128 (.pointer (some ⟨g, o, none⟩)) (some (.int .i64 64)) none none).run Tryd.prog w = .ok (.slice (some ⟨g, o, none⟩) 0 0) w := by
  rw [run_sliceAt_array_l w _ _ under64 .i64 64 (by omega) (by rw [arrLen64]; omega), arrElem64, size_u8, arrLen64]
  simp [Result.andThen, slicedAt]
theorem piece_all (g o : Nat) (w : World) :
    (Instr.sliceAt 128 (.pointer (some ⟨g, o, none⟩)) none none none).run Tryd.prog w = .ok (.slice (some ⟨g, o, none⟩) 64 64) w := by
  rw [run_sliceAt_array_all w _ _ under64, arrElem64, size_u8, arrLen64]
  simp [Result.andThen, slicedAt, at_add]
end Go.Proofs.YtmiejaohkgemnaaDoor
