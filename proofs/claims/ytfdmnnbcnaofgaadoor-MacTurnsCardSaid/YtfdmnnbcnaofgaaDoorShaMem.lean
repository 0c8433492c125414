/-
  Words for blocks that a call writes to: a block of one-cell values, known whole. No statement.
-/
import Derived.Test.YtfdmnnbcnaofgaaDoorShaBits
import Derived.Laws.Rows
import Derived.Deep.MidRow
namespace Go.Proofs.YtfdmnnbcnaofgaaDoor
set_option linter.unusedVariables false
open Go.RowKit

/-- block g is just the cells cs, none frozen -/
def Bk (w : World) (g : Nat) (t : TypeId) (cs : List Value) : Prop := w.heap[g]? = some (.cells cs.toArray t (0, 0))

section
variable {w w' : World} {g : Nat} {t : TypeId} {cs : List Value}
theorem Bk.lt (h : Bk w g t cs) : g < w.heap.size := by
  rcases Nat.lt_or_ge g w.heap.size with hlt | hge
  · exact hlt
  · unfold Bk at h; rw [Array.getElem?_eq_none hge] at h; cases h
theorem Bk.cell (h : Bk w g t cs) (i : Nat) : w.cell? ⟨g, i, none⟩ = cs[i]? := by
  rw [cell_of_row w g i cs.toArray t (0, 0) h]; simp
theorem Bk.at_ (h : Bk w g t cs) {i : Nat} {u : Value} (hu : cs[i]? = some u) : w.cell? ⟨g, i, none⟩ = some u := (h.cell i).trans hu
theorem Bk.frozen (h : Bk w g t cs) (i : Nat) : w.frozen? ⟨g, i, none⟩ = false := frozen_of_row w g i cs.toArray t h
theorem Bk.new (w : World) (t : TypeId) (cs : List Value) : Bk (w.alloc (.cells cs.toArray t)) w.heap.size t cs := heap_alloc_new w _
theorem Bk.alloc (h : Bk w g t cs) (o : Obj) : Bk (w.alloc o) g t cs := (heap_alloc_old w o h.lt).trans h
theorem Bk.drewN (h : Bk w g t cs) (n : Nat) : Bk (w.drewN n) g t cs := h
theorem Bk.set (h : Bk w g t cs) (i : Nat) (u : Value) : Bk (w.setCell ⟨g, i, none⟩ u) g t (cs.set i u) := by
  unfold Bk
  rw [heap_setCell_same w g i cs.toArray t u h]
  simp
theorem Bk.far (h : Bk w g t cs) {p : Addr} (hp : g ≠ p.block) (u : Value) : Bk (w.setCell p u) g t cs := (heap_setCell_other w p g u hp).trans h
theorem Bk.below {B : Nat} (h : Bk w g t cs) (hb : Below B w w') (hg : g < B) : Bk w' g t cs := (hb.block g hg).trans h
theorem Bk.grown {row : Option Nat} (h : Bk w g t cs) (hb : w.grownBy w' row) (hg : some g ≠ row) : Bk w' g t cs := (hb.block g h.lt hg).trans h
theorem Bk.kept (h : Bk w g t cs) (hb : Below w.heap.size w w') : Bk w' g t cs := h.below hb h.lt
end
theorem grown_set {w0 w : World} {g : Nat} (h : w0.grownBy w (some g)) (i : Nat) (u : Value) : w0.grownBy (w.setCell ⟨g, i, none⟩ u) (some g) :=
  ⟨h.os, h.tape, h.output, by simpa using h.size, fun k hk hne => (heap_setCell_other w ⟨g, i, none⟩ k u (fun e => hne (by rw [e]))).trans (h.block k hk hne)⟩
theorem below_set {B g : Nat} {w0 w : World} (h : Below B w0 w) (hg : B ≤ g) (i : Nat) (u : Value) : Below B w0 (w.setCell ⟨g, i, none⟩ u) :=
  ⟨h.os, h.tape, h.output, by simpa using h.size, fun k hk => (heap_setCell_other w ⟨g, i, none⟩ k u (by simp; omega)).trans (h.block k hk)⟩

theorem size_setCells' (g : Nat) : ∀ (vs : List Value) (o : Nat) (w : World), (w.setCells g o vs).heap.size = w.heap.size
  | [], _, _ => rfl
  | v :: r, o, w => by
    show ((w.setCell ⟨g, o, none⟩ v).setCells g (o + 1) r).heap.size = _
    rw [size_setCells' g r (o + 1) _]; simp
theorem Bk.setCells {g : Nat} {t : TypeId} : ∀ (vs : List Value) (o : Nat) {w : World} {cs : List Value}, Bk w g t cs → o + vs.length ≤ cs.length → Bk (w.setCells g o vs) g t (cs.take o ++ vs ++ cs.drop (o + vs.length))
  | [], o, w, cs, h, _ => by
    show Bk w g t _
    simpa using h
  | v :: r, o, w, cs, h, hl => by
    have hl' : o + (r.length + 1) ≤ cs.length := by simpa using hl
    have e := Bk.setCells r (o + 1) (h.set o v) (by simp; omega)
    show Bk ((w.setCell ⟨g, o, none⟩ v).setCells g (o + 1) r) g t _
    have e2 : (cs.set o v).take (o + 1) ++ r ++ (cs.set o v).drop (o + 1 + r.length) = cs.take o ++ (v :: r) ++ cs.drop (o + (v :: r).length) := by
      rw [List.take_set, List.drop_set_of_lt (by omega), List.set_eq_take_append_cons_drop, if_pos (by simp; omega)]
      simp [List.take_take, Nat.add_comm, Nat.add_left_comm]
    rw [← e2]; exact e
theorem Bk.setAll {w : World} {g : Nat} {t : TypeId} {cs : List Value} (h : Bk w g t cs) (vs : List Value) (hl : vs.length = cs.length) : Bk (w.setCells g 0 vs) g t vs := by
  have e := Bk.setCells vs 0 h (by omega)
  simpa [hl] using e
theorem grown_setCells {w0 : World} {g : Nat} : ∀ (vs : List Value) (o : Nat) {w : World}, w0.grownBy w (some g) → w0.grownBy (w.setCells g o vs) (some g)
  | [], _, _, h => h
  | v :: r, o, w, h => grown_setCells r (o + 1) (w := w.setCell ⟨g, o, none⟩ v) (grown_set h o v)
theorem below_setCells' {B g : Nat} {w0 : World} (hg : B ≤ g) : ∀ (vs : List Value) (o : Nat) {w : World}, Below B w0 w → Below B w0 (w.setCells g o vs)
  | [], _, _, h => h
  | v :: r, o, w, h => below_setCells' hg r (o + 1) (w := w.setCell ⟨g, o, none⟩ v) (below_set h hg o v)
theorem Bk.there {w : World} {g : Nat} {t : TypeId} {cs : List Value} (h : Bk w g t cs) {o n : Nat} (hn : o + n ≤ cs.length) : w.there g o n := fun j hj => by
  refine ⟨?_, h.frozen _⟩
  rw [h.cell, List.getElem?_eq_getElem (by omega)]; rfl
theorem Bk.rangeAll {w : World} {g : Nat} {t : TypeId} {cs : List Value} (h : Bk w g t cs) : w.rangeAt g 0 cs := fun j v hv => by
  rw [Nat.zero_add]; exact h.at_ hv
theorem one_words (ws : List UInt32) : ((ws.map wv).toArray).all (·.oneCell') = true :=
  all_oneCell_toArray (fun v hv => by obtain ⟨x, _, rfl⟩ := List.mem_map.1 hv; rfl)
theorem oneB (l : List UInt8) : ∀ u ∈ l.map bv, u.oneCell' = true := by
  intro u hu
  obtain ⟨c, _, rfl⟩ := List.mem_map.1 hu
  rfl
/-- a block that wasn't there has turned -/
theorem grown_new {w0 w1 w2 : World} {r : Option Nat} {g' : Nat} (h : w0.grownBy w1 r) (k : w1.grownBy w2 (some g')) (hg : w0.heap.size ≤ g') : w0.grownBy w2 r :=
  grown_trans h k (.inr fun g e => by injection e with e; omega)
theorem info_w64 : (Tryd.prog.info? 79).map (·.size) = some 64 := by kernel_rfl
theorem info_w8 : (Tryd.prog.info? 71).map (·.size) = some 8 := by kernel_rfl

theorem agg_u32 (w : World) : (isAgg 70).run Tryd.prog w = .ok false w := by kernel_rfl
theorem size_u32 (w : World) : (sizeOf 70).run Tryd.prog w = .ok 1 w := by kernel_rfl
theorem under_w64 : Tryd.prog.underlying 79 = some (.array 64 70) := by kernel_rfl
theorem under_w8 : Tryd.prog.underlying 71 = some (.array 8 70) := by kernel_rfl
theorem index_words (T N : Nat) (hT : Tryd.prog.underlying T = some (.array N 70)) (ws : List UInt32) (hl : ws.length = N) (n : Nat) (hn : n < N) (w : World) :
    (Instr.index T (.agg (ws.map wv).toArray) (.int .i64 (n : Int))).run Tryd.prog w = .ok (.int .u32 ((ws.getD n 0).toNat : Int)) w := by
  have hx : (ws.map wv).toArray[n]? = some (.int .u32 ((ws.getD n 0).toNat : Int)) := by
    simp [wv, hl, hn]
  simp only [Instr.index, asIntOf, Sem.run_bind, Sem.run_pure, Result.andThen_ok, run_underlying hT]
  rw [if_pos ⟨by omega, by omega⟩]
  simp only [Sem.run_bind, size_u32, Result.andThen_ok, part, agg_u32, Int.toNat_natCast, Nat.mul_one, hx]
  rfl

theorem arrLen64 : Tryd.prog.arrayLen 72 = 64 := by kernel_rfl
theorem arrElem64 : Tryd.prog.elem 72 = 5 := by kernel_rfl
theorem size_u8 (w : World) : (sizeOf 5).run Tryd.prog w = .ok 1 w := by kernel_rfl
theorem under64 : Tryd.prog.underlying 72 = some (.array (Tryd.prog.arrayLen 72) (Tryd.prog.elem 72)) := by kernel_rfl
theorem at_add (g o l : Nat) : (⟨g, o, none⟩ : Addr).add l = ⟨g, o + l, none⟩ := by
  unfold Addr.add
  by_cases hl : l = 0 <;> simp [hl]

/-- a piece of an array of 64 bytes behind its address -/
theorem piece_lh (g o l h : Nat) (hl : l ≤ h) (hh : h ≤ 64) (h64 : l < 64) (w : World) :
    (Instr.sliceAt 72 (.pointer (some ⟨g, o, none⟩)) (some (.int .i64 (l : Int))) (some (.int .i64 (h : Int))) none).run Tryd.prog w = .ok (.slice (some ⟨g, o + l, none⟩) (h - l) (64 - l)) w := by
  rw [run_sliceAt_array_lh w _ _ under64 .i64 .i64 l h (by omega) (by omega) (by rw [arrLen64]; omega), arrElem64, size_u8, arrLen64]
  simp [Result.andThen, slicedAt, at_add, show ¬ 64 = l by omega]
theorem piece_l (g o l : Nat) (h64 : l < 64) (w : World) :
    (Instr.sliceAt 72 (.pointer (some ⟨g, o, none⟩)) (some (.int .i64 (l : Int))) none none).run Tryd.prog w = .ok (.slice (some ⟨g, o + l, none⟩) (64 - l) (64 - l)) w := by
  rw [run_sliceAt_array_l w _ _ under64 .i64 l (by omega) (by rw [arrLen64]; omega), arrElem64, size_u8, arrLen64]
  simp [Result.andThen, slicedAt, at_add, show ¬ 64 = l by omega]
theorem piece_64 (g o : Nat) (w : World) :
    (Instr.sliceAt 72 (.pointer (some ⟨g, o, none⟩)) (some (.int .i64 64)) none none).run Tryd.prog w = .ok (.slice (some ⟨g, o, none⟩) 0 0) w := by
  rw [run_sliceAt_array_l w _ _ under64 .i64 64 (by omega) (by rw [arrLen64]; omega), arrElem64, size_u8, arrLen64]
  simp [Result.andThen, slicedAt]
theorem piece_all (g o : Nat) (w : World) :
    (Instr.sliceAt 72 (.pointer (some ⟨g, o, none⟩)) none none none).run Tryd.prog w = .ok (.slice (some ⟨g, o, none⟩) 64 64) w := by
  rw [run_sliceAt_array_all w _ _ under64, arrElem64, size_u8, arrLen64]
  simp [Result.andThen, slicedAt, at_add]
end Go.Proofs.YtfdmnnbcnaofgaaDoor
