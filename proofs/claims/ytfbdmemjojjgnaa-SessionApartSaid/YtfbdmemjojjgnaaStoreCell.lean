/-
  Stores of a cell, or of a whole struct, into a known block. Plain lemmas; no statement.
-/
import Derived.Test.YtfbdmemjojjgnaaRdrMem
namespace Go.Proofs.Ytfbdmemjojjgnaa
set_option maxRecDepth 100000
open Go.RowKit
set_option linter.unusedVariables false

theorem news_row (w : World) (cs : List Value) (t : TypeId) : ∀ j u, cs[j]? = some u → (w.alloc (.cells cs.toArray t)).cell? ((⟨w.heap.size, 0, none⟩ : Addr).add j) = some u :=
  fun j u hu => World.news_of_block (heap_alloc_new w _) j u (by simpa using hu)
theorem form_row {w : World} {base : Nat} {e : TypeId} {sz n : Nat} {v : Value} {xs : List Value} (h : w.ownsRow base e sz v (n + 1) xs) : ∃ A c, v = .slice A (n + 1) c := by
  rcases h.2 with ⟨_, e⟩ | ⟨g, cap, cur, e, _⟩
  · omega
  · exact ⟨_, _, e⟩
theorem cell_kept {w w' : World} {p : Addr} {v : Value} (h : w.cell? p = some v) (hb : Below w.heap.size w w') : w'.cell? p = some v := (hb.cell (World.block_lt_of_cell? _ _ h)).trans h
theorem wpList_store_bkT {P : Program} {ops : Array Oper} {rest : List Oper} {o : Oper} {a : Act} {w : World} {Q : Exit → Act → World → Prop} (hgd : o.guard = none) (ty : TypeId) (x y : Operand) (ho : o.op = .store ty x y)
    (g : Nat) (vs : List Value) (hx : a.eval x = .pointer (some ⟨g, 0, none⟩)) (hy : a.eval y = .agg vs.toArray) (t : TypeId) (cur : List Value) (hb : Bk w g t cur) (hl : vs.length = cur.length)
    (hi : (P.info? ty).map (·.size) = some vs.length) (h1 : vs.all (·.oneCell') = true) (h : ∀ w', Hid (Bk w' g t vs) → Hid (w.grownBy w' (some g)) → wpList P ops Q rest (a.put o.dst undef) w') : wpList P ops Q (o :: rest) a w := by
  refine wpList_store_mid hgd ty x y ho g 0 vs.toArray hx hy (hb.there (by simp; omega)) (by simpa using hi) (all_oneCell_toArray (fun v hv => List.all_eq_true.1 h1 v hv)) ?_
  exact h _ (Lib.hid (hb.setAll vs hl)) (Lib.hid (grown_setCells vs 0 (grown_refl w _)))
/-- a cell of a known block stored -/
theorem run_storeAt_cell {P : Program} (w : World) (g i : Nat) (ty : TypeId) (v : Value) (hv : v.cells = #[v]) (h1 : v.oneCell' = true) (hi : (P.info? ty).map (·.size) = some 1) (hc : (w.cell? ⟨g, i, none⟩).isSome = true) (hf : w.frozen? ⟨g, i, none⟩ = false) :
    (Instr.storeAt ty (.pointer (some ⟨g, i, none⟩)) v).run P w = .ok () (w.setCell ⟨g, i, none⟩ v) := by
  have e := run_storeCells_cells (P := P) g i [v] 0 w (fun j hj => by obtain rfl : j = 0 := (by simpa using hj); simpa using hc) (fun j hj => by obtain rfl : j = 0 := (by simpa using hj); simpa using hf) (fun u hu => by obtain rfl := List.mem_singleton.1 hu; exact h1)
  have hs : (storeVar ty ⟨g, i, none⟩ v).run P w = .ok () (w.setCell ⟨g, i, none⟩ v) := by
    cases hq : P.info? ty with
    | none => simp [hq] at hi
    | some x =>
      have hsz : x.size = 1 := by simpa [hq] using hi
      simp only [Nat.add_zero] at e
      simp [storeVar, sizeOf, typeInfo, hq, hv, hsz, e]
      rfl
  simp only [Instr.storeAt, Instr.sureAddr, Sem.run_bind, Sem.run_pure, Result.andThen_ok, hs]
theorem wpList_store_cell {P : Program} {ops : Array Oper} {rest : List Oper} {o : Oper} {a : Act} {w : World} {Q : Exit → Act → World → Prop} (hgd : o.guard = none) (ty : TypeId) (x y : Operand) (ho : o.op = .store ty x y)
    (g i : Nat) (v : Value) (hx : a.eval x = .pointer (some ⟨g, i, none⟩)) (hy : a.eval y = v) (hvc : v.cells = #[v]) (hv : v.oneCell' = true) (hi : (P.info? ty).map (·.size) = some 1) (t : TypeId) (cur : List Value) (hb : Bk w g t cur) (hl : i < cur.length)
    (h : ∀ w', Hid (Bk w' g t (cur.set i v)) → Hid (w.grownBy w' (some g)) → wpList P ops Q rest (a.put o.dst undef) w') : wpList P ops Q (o :: rest) a w := by
  refine wpList_plain hgd fun K hK => ?_
  have hc : (w.cell? ⟨g, i, none⟩).isSome = true := by rw [hb.cell, List.getElem?_eq_getElem hl]; rfl
  unfold Oper.wp execOp
  simp only [ho, hx, hy, run_storeAt_cell w g i ty v hvc hv hi hc (hb.frozen i), Sem.run_bind, Sem.run_pure, Result.andThen_ok]
  exact hK _ _ (h _ (Lib.hid (hb.set i v)) (Lib.hid (grown_set (grown_refl w (some g)) i v)))
end Go.Proofs.Ytfbdmemjojjgnaa
