/-
  Nodes as they lie in memory. Plain lemmas; no statement.
-/
import Derived.Test.YtgppclmofphlfaaGreatDoorTreePlain
import Derived.Test.YtgppclmofphlfaaGreatDoorRdrMem
import Derived.Test.YtgppclmofphlfaaGreatDoorPathUse
namespace Go.Proofs.YtgppclmofphlfaaGreatDoor
set_option maxRecDepth 100000
open Go.RowKit
set_option linter.unusedVariables false

def lfC (l : Lf) (A : Option Addr) (c : Nat) : List Value := [.string ⟨l.path.toArray⟩, .slice A l.data.length c, .int .i64 l.ver, .int .i64 l.own, .int .i64 l.next, .int .i64 l.born]
/-- a node -/
def RLf : Rdr Lf where
  sz := 6
  rd F w cs l := ∃ A c, cs = lfC l A c ∧ BF F w A c l.data
  len := by rintro F w cs x ⟨A, c, rfl, _⟩; rfl
  keep := by rintro F F' w w' cs x ⟨A, c, rfl, h⟩ hk hf; exact ⟨A, c, rfl, h.keep hk hf⟩
theorem info_leaf : (Tryz.prog.info? 50).map (fun i => (i.zero, i.size, i.bytes)) = some (some (.agg #[.string ByteArray.empty, .slice none 0 0, .int .i64 0, .int .i64 0, .int .i64 0, .int .i64 0]), 6, 72) := by kernel_rfl
theorem info_leaf1 : (Tryz.prog.info? 50).map (·.size) = some 6 := by kernel_rfl
theorem lf_add (x : Addr) (k j : Nat) (hj : 0 < j) : x.add (k + j) = ⟨(x.add k).block, (x.add k).off + j, none⟩ := add_at x k j hj
theorem RdS.lf6 {F : Nat → Prop} {w : World} {A : Option Addr} {c : Nat} {ls : List Lf} (h : RdS RLf F w A c ls) {k : Nat} {l : Lf} (hk : ls[k]? = some l) :
    ∃ x B d, A = some x ∧ x.block < w.heap.size ∧ w.cell? (x.add (k * 6)) = some (.string ⟨l.path.toArray⟩) ∧ w.cell? ⟨(x.add (k * 6)).block, (x.add (k * 6)).off + 1, none⟩ = some (.slice B l.data.length d) ∧
      w.cell? ⟨(x.add (k * 6)).block, (x.add (k * 6)).off + 2, none⟩ = some (.int .i64 l.ver) ∧ w.cell? ⟨(x.add (k * 6)).block, (x.add (k * 6)).off + 3, none⟩ = some (.int .i64 l.own) ∧
      w.cell? ⟨(x.add (k * 6)).block, (x.add (k * 6)).off + 4, none⟩ = some (.int .i64 l.next) ∧ w.cell? ⟨(x.add (k * 6)).block, (x.add (k * 6)).off + 5, none⟩ = some (.int .i64 l.born) ∧ BF F w B d l.data := by
  obtain ⟨x, cs, e, hb, hc, B, d, rfl, hB⟩ := h.at_ hk
  refine ⟨x, B, d, e, hb, hc 0 _ rfl, ?_, ?_, ?_, ?_, ?_, hB⟩
  · rw [← add_at x (k * 6) 1 (by omega)]; exact hc 1 _ rfl
  · rw [← add_at x (k * 6) 2 (by omega)]; exact hc 2 _ rfl
  · rw [← add_at x (k * 6) 3 (by omega)]; exact hc 3 _ rfl
  · rw [← add_at x (k * 6) 4 (by omega)]; exact hc 4 _ rfl
  · rw [← add_at x (k * 6) 5 (by omega)]; exact hc 5 _ rfl
theorem bf_from {B B' : Nat} {w : World} {A : Option Addr} {c : Nat} {l : List UInt8} (h : BF (From B) w A c l) (hB : B' ≤ B) : BF (From B') w A c l := h.keep ⟨Nat.le_refl _, fun _ _ _ => rfl⟩ fun b hb _ => Nat.le_trans hB hb
theorem rds_from {α : Type} {R : Rdr α} {B B' : Nat} {w : World} {A : Option Addr} {c : Nat} {l : List α} (h : RdS R (From B) w A c l) (hB : B' ≤ B) : RdS R (From B') w A c l := h.keep ⟨Nat.le_refl _, fun _ _ _ => rfl⟩ fun b hb _ => Nat.le_trans hB hb
/-- bytes whose blocks aren't block g stay behind stores into it -/
theorem bf_set {F : Nat → Prop} {w w' : World} {g : Nat} {A : Option Addr} {c : Nat} {l : List UInt8} (h : BF F w A c l) (hg : w.grownBy w' (some g)) (hne : ∀ b, F b → b ≠ g) : BF F w' A c l :=
  h.keep (Kp.of_grown hg fun b hb e => hne b hb (Option.some.inj e)) fun _ h _ => h
theorem news_row (w : World) (cs : List Value) (t : TypeId) : ∀ j u, cs[j]? = some u → (w.alloc (.cells cs.toArray t)).cell? ((⟨w.heap.size, 0, none⟩ : Addr).add j) = some u :=
  fun j u hu => World.news_of_block (heap_alloc_new w _) j u (by simpa using hu)
theorem form_row {w : World} {base : Nat} {e : TypeId} {sz n : Nat} {v : Value} {xs : List Value} (h : w.ownsRow base e sz v (n + 1) xs) : ∃ A c, v = .slice A (n + 1) c := by
  rcases h.2 with ⟨_, e⟩ | ⟨g, cap, cur, e, _⟩
  · omega
  · exact ⟨_, _, e⟩
theorem cell_kept {w w' : World} {p : Addr} {v : Value} (h : w.cell? p = some v) (hb : Below w.heap.size w w') : w'.cell? p = some v := (hb.cell (World.block_lt_of_cell? _ _ h)).trans h
theorem wpList_store_bkT {P : Program} {ops : Array Oper} {rest : List Oper} {o : Oper} {a : Act} {w : World} {Q : Exit → Act → World → Prop} (hgd : o.guard = none) (ty : TypeId) (x y : Operand) (ho : o.op = .store ty x y)
    (g : Nat) (vs : List Value) (hx : a.eval x = .pointer (some ⟨g, 0, none⟩)) (hy : a.eval y = .agg vs.toArray) (t : TypeId) (cur : List Value) (hb : Bk w g t cur) (hl : vs.length = cur.length)
    (hi : (P.info? ty).map (·.size) = some vs.length) (h1 : vs.all (·.oneCell') = true) (h : ∀ w', Hid (Bk w' g t vs) → Hid (w.grownBy w' (some g)) → wpList P ops Q rest (a.put o.dst undef) w') : wpList P ops Q (o :: rest) a w := by
  refine wpList_store_mid hgd ty x y ho g 0 vs.toArray hx hy (hb.there (by simp; omega)) (by simpa using hi) (all_oneCell_toArray (fun v hv => List.all_eq_true.1 h1 v hv)) ?_
  exact h _ (Lib.hid (hb.setAll vs hl)) (Lib.hid (grown_setCells vs 0 (grown_refl w _)))
/-- a cell of a known block stored -/
theorem run_storeAt_cell {P : Program} (w : World) (g i : Nat) (ty : TypeId) (v : Value) (hv : v.cells = #[v]) (h1 : v.oneCell' = true) (hi : (P.info? ty).map (·.size) = some 1) (hc : (w.cell? ⟨g, i, none⟩).isSome = true) (hf : w.frozen? ⟨g, i, none⟩ = false) :
    (Instr.storeAt ty (.pointer (some ⟨g, i, none⟩)) v).run P w = .ok () (w.setCell ⟨g, i, none⟩ v) := by
  have e := run_storeCells_cells (P := P) g i [v] 0 w (fun j hj => by obtain rfl : j = 0 := (by simpa using hj); simpa using hc) (fun j hj => by obtain rfl : j = 0 := (by simpa using hj); simpa using hf) (fun u hu => by obtain rfl := List.mem_singleton.1 hu; exact h1)
  have hs : (storeVar ty ⟨g, i, none⟩ v).run P w = .ok () (w.setCell ⟨g, i, none⟩ v) := by
    cases hq : P.info? ty with
    | none => simp [hq] at hi
    | some x =>
      have hsz : x.size = 1 := by simpa [hq] using hi
      simp only [Nat.add_zero] at e
      simp [storeVar, sizeOf, typeInfo, hq, hv, hsz, e]
      rfl
  simp only [Instr.storeAt, Instr.sureAddr, Sem.run_bind, Sem.run_pure, Result.andThen_ok, hs]
theorem wpList_store_cell {P : Program} {ops : Array Oper} {rest : List Oper} {o : Oper} {a : Act} {w : World} {Q : Exit → Act → World → Prop} (hgd : o.guard = none) (ty : TypeId) (x y : Operand) (ho : o.op = .store ty x y)
    (g i : Nat) (v : Value) (hx : a.eval x = .pointer (some ⟨g, i, none⟩)) (hy : a.eval y = v) (hvc : v.cells = #[v]) (hv : v.oneCell' = true) (hi : (P.info? ty).map (·.size) = some 1) (t : TypeId) (cur : List Value) (hb : Bk w g t cur) (hl : i < cur.length)
    (h : ∀ w', Hid (Bk w' g t (cur.set i v)) → Hid (w.grownBy w' (some g)) → wpList P ops Q rest (a.put o.dst undef) w') : wpList P ops Q (o :: rest) a w := by
  refine wpList_plain hgd fun K hK => ?_
  have hc : (w.cell? ⟨g, i, none⟩).isSome = true := by rw [hb.cell, List.getElem?_eq_getElem hl]; rfl
  unfold Oper.wp execOp
  simp only [ho, hx, hy, run_storeAt_cell w g i ty v hvc hv hi hc (hb.frozen i), Sem.run_bind, Sem.run_pure, Result.andThen_ok]
  exact hK _ _ (h _ (Lib.hid (hb.set i v)) (Lib.hid (grown_set (grown_refl w (some g)) i v)))
/-- a node in new memory, or the error -/
def GetP (r : Option Lf × Int) (w : World) (e : Ending) (w' : World) : Prop :=
  Below w.heap.size w w' ∧ match r.1 with
    | some l => ∃ A c, e = .returned (.tuple #[.agg (lfC l A c).toArray, .int .i64 r.2]) ∧ BF (From w.heap.size) w' A c l.data
    | none => e = .returned (.tuple #[.agg #[.string ⟨#[]⟩, .slice none 0 0, .int .i64 0, .int .i64 0, .int .i64 0, .int .i64 0], .int .i64 r.2])
/-- a node's children's paths, or the error -/
def KidsP (r : Option Lf × Int) (ks : List (List UInt8)) (w : World) (e : Ending) (w' : World) : Prop :=
  if r.2 = 0 then ∃ v, FreshT ks w (.returned v) w' ∧ e = .returned (.tuple #[v, .int .i64 0]) else Below w.heap.size w w' ∧ e = .returned (.tuple #[.slice none 0 0, .int .i64 r.2])
end Go.Proofs.YtgppclmofphlfaaGreatDoor
