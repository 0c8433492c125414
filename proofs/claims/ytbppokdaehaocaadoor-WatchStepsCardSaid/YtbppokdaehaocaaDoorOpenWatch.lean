/-
  What the walks are told of scripts and watches that came in. Plain lemmas on the reading of arguments; no statement.
-/
import Derived.Test.YtbppokdaehaocaaDoorOpenWide
import Derived.Test.YtbppokdaehaocaaDoorWatchMem
namespace Go.Proofs.YtbppokdaehaocaaDoor
set_option maxRecDepth 100000
open Go.ChangeShapes Go.WideShapes Go.ChangeAt Go.RowKit Go.Deep
set_option linter.unusedVariables false

/-- texts in a row -/
def RTx : Rdr (List UInt8) where
  sz := 1
  rd _ _ cs l := cs = [.string ⟨l.toArray⟩]
  len := by rintro F w cs x rfl; rfl
  keep := by rintro F F' w w' cs x rfl _ _; rfl
theorem RdS.texts {F : Nat → Prop} {w : World} {A : Option Addr} {c : Nat} {ls : List (List UInt8)} (h : RdS RTx F w A c ls) : RdT w A ls.length ls := by
  refine ⟨by simp, fun k u hu => ?_⟩
  rw [List.getElem?_map, Option.map_eq_some_iff] at hu
  obtain ⟨l, hl, rfl⟩ := hu
  obtain ⟨a, cs, rfl, hb, hc, rfl⟩ := h.at_ hl
  exact ⟨a, rfl, hb, by simpa [RTx] using hc 0 _ rfl⟩
theorem RdS.ints {F : Nat → Prop} {w : World} {A : Option Addr} {c : Nat} {os : List Int} (h : RdS RIn F w A c os) : Rd w A os.length (os.map (.int .i64 ·)) := by
  refine ⟨by simp, fun k u hu => ?_⟩
  rw [List.getElem?_map, Option.map_eq_some_iff] at hu
  obtain ⟨z, hz, rfl⟩ := hu
  obtain ⟨a, cs, rfl, hb, hc, rfl⟩ := h.at_ hz
  exact ⟨a, rfl, hb, by simpa [RIn] using hc 0 _ rfl⟩
/-- a call of a script -/
structure Wo where
  what : Int
  wt : Wt
  paths : List (List UInt8)
  clients : List Int
def woC (o : Wo) (A : Option Addr) (c : Nat) (B : Option Addr) (d : Nat) : List Value := [.int .i64 o.what, .int .i64 o.wt.client, .int .i64 o.wt.kind, .string ⟨o.wt.path.toArray⟩, .slice A o.paths.length c, .slice B o.clients.length d]
def RWo : Rdr Wo where
  sz := 6
  rd F w cs o := ∃ A c B d, cs = woC o A c B d ∧ RdS RTx F w A c o.paths ∧ RdS RIn F w B d o.clients
  len := by rintro F w cs x ⟨A, c, B, d, rfl, _⟩; rfl
  keep := by rintro F F' w w' cs x ⟨A, c, B, d, rfl, h, h'⟩ hk hf; exact ⟨A, c, B, d, rfl, h.keep hk hf, h'.keep hk hf⟩
structure Wo.big (o : Wo) : Prop where
  path : o.wt.path.length ≤ 140737488355328
  paths : o.paths.length ≤ 140737488355328
  clients : o.clients.length ≤ 140737488355328
section
variable {H : Type} {enc : TypeId × Value → H} {W : World}
theorem cells_strs : Tryd.prog.cellsOf 32 = 1 := by kernel_rfl
theorem cells_ints : Tryd.prog.cellsOf 33 = 1 := by kernel_rfl
theorem cells_wt : Tryd.prog.cellsOf 31 = 3 := by kernel_rfl
theorem opens_wt : Opens enc W 31 fun cs => ∃ x, RWt.rd AllB W cs x ∧ x.path.length ≤ 140737488355328 := by
  intro fuel cs x h hw
  have hl : cs.length = 3 := by rw [struct_len Tryd.underlying31 h]; kernel_rfl
  obtain ⟨z0, g0, w0⟩ := opens_field Tryd.underlying31 h hw 0 rfl opens_i64
  obtain ⟨z1, g1, w1⟩ := opens_field Tryd.underlying31 h hw 1 rfl opens_i64
  obtain ⟨p, g2, hp⟩ := opens_field Tryd.underlying31 h hw 2 rfl opens_string
  have g0 : (cs.drop 0).take (Tryd.prog.cellsOf 3) = _ := g0
  have g1 : (cs.drop 1).take (Tryd.prog.cellsOf 3) = _ := g1
  have g2 : (cs.drop 2).take (Tryd.prog.cellsOf 9) = _ := g2
  rw [cells_i64] at g0 g1
  rw [cells_str] at g2
  refine ⟨⟨z0, z1, p⟩, ?_, hp⟩
  match cs, hl with
  | [_, _, _], _ =>
    simp at g0 g1 g2
    simp [RWt, wtC, g0, g1, g2]
theorem opens_texts : Opens enc W 32 fun cs => ∃ ls, (∃ A c, cs = [.slice A ls.length c] ∧ RdS RTx AllB W A c ls) ∧ ls.length ≤ 140737488355328 := by
  intro fuel cs x h hw
  obtain ⟨A, c, xs, e, h1, h2, _⟩ := opens_slice RTx (fun _ => True) (b := 16) (e := 9) Tryd.underlying32 (by kernel_rfl) (by decide) (by kernel_rfl) (fun fuel cs x h hw => by
    obtain ⟨l, e, _⟩ := opens_string fuel cs x h hw
    exact ⟨l, e, trivial⟩) fuel _ _ h hw
  exact ⟨xs, ⟨A, c, e, h1⟩, by omega⟩
theorem opens_ints : Opens enc W 33 fun cs => ∃ os, (∃ A c, cs = [.slice A os.length c] ∧ RdS RIn AllB W A c os) ∧ os.length ≤ 140737488355328 := by
  intro fuel cs x h hw
  obtain ⟨A, c, xs, e, h1, h2, _⟩ := opens_slice RIn (fun _ => True) (b := 8) (e := 3) Tryd.underlying33 (by kernel_rfl) (by decide) (by kernel_rfl) (fun fuel cs x h hw => by
    obtain ⟨z, e, _⟩ := opens_i64 fuel cs x h hw
    exact ⟨z, e, trivial⟩) fuel _ _ h hw
  exact ⟨xs, ⟨A, c, e, h1⟩, by omega⟩
theorem opens_wo : Opens enc W 35 fun cs => ∃ o, RWo.rd AllB W cs o ∧ o.big := by
  intro fuel cs x h hw
  have hl : cs.length = 6 := by rw [struct_len Tryd.underlying35 h]; kernel_rfl
  obtain ⟨z0, g0, w0⟩ := opens_field Tryd.underlying35 h hw 0 rfl opens_i64
  obtain ⟨x1, g1, w1⟩ := opens_field Tryd.underlying35 h hw 1 rfl opens_wt
  obtain ⟨ls, ⟨A, c, g2, hA⟩, h2⟩ := opens_field Tryd.underlying35 h hw 2 rfl opens_texts
  obtain ⟨os, ⟨B, d, g3, hB⟩, h3⟩ := opens_field Tryd.underlying35 h hw 3 rfl opens_ints
  have g0 : (cs.drop 0).take (Tryd.prog.cellsOf 3) = _ := g0
  have g1 : (cs.drop 1).take (Tryd.prog.cellsOf 31) = wtC x1 := g1
  have g2 : (cs.drop 4).take (Tryd.prog.cellsOf 32) = _ := g2
  have g3 : (cs.drop 5).take (Tryd.prog.cellsOf 33) = _ := g3
  rw [cells_i64] at g0
  rw [cells_wt] at g1
  rw [cells_strs] at g2
  rw [cells_ints] at g3
  refine ⟨⟨z0, x1, ls, os⟩, ⟨A, c, B, d, ?_, hA, hB⟩, w1, h2, h3⟩
  match cs, hl with
  | [_, _, _, _, _, _], _ =>
    simp [wtC] at g0 g1 g2 g3
    simp [woC, g0, g1, g2, g3]
/-- a script that came in -/
def InWos (W : World) (v : Value) (xs : List Wo) : Prop := ∃ A c, v = .slice A xs.length c ∧ RdS RWo AllB W A c xs ∧ ∀ x ∈ xs, x.big
theorem open_wos {base : Nat} {v : Value} {d : DataW H} {p : List MemPlace} (hv : Value.okWide Tryd.prog W .any base 22 v) (h : DataW.Trod enc Tryd.prog W 0 (fun _ => true) true 22 v d p)
    (hwt : ∀ m ∈ d.weights Tryd.prog 22, m ≤ reachBytes) : ∃ l, InWos W v l := by
  obtain ⟨a0, len0, cap0, rfl⟩ := okWide_slice Tryd.underlying22 hv
  obtain ⟨fuel, hf⟩ := h
  obtain ⟨A, c, xs, e, h1, _, h3⟩ := opens_slice RWo Wo.big (b := Tryd.prog.bytesOf 35) Tryd.underlying22 (by kernel_rfl) (by decide) rfl opens_wo fuel _ _ hf hwt
  simp only [Value.cells, List.cons.injEq, and_true] at e
  exact ⟨xs, A, c, e, h1, h3⟩
/-- watches that came in -/
def InWts (W : World) (v : Value) (xs : List Wt) : Prop := ∃ A c, v = .slice A xs.length c ∧ RdS RWt AllB W A c xs ∧ xs.length * 32 ≤ 140737488355328 ∧ ∀ x ∈ xs, x.path.length ≤ 140737488355328
theorem open_wts {base : Nat} {v : Value} {d : DataW H} {p : List MemPlace} (hv : Value.okWide Tryd.prog W .any base 27 v) (h : DataW.Trod enc Tryd.prog W 0 (fun _ => true) true 27 v d p)
    (hwt : ∀ m ∈ d.weights Tryd.prog 27, m ≤ reachBytes) : ∃ l, InWts W v l := by
  obtain ⟨a0, len0, cap0, rfl⟩ := okWide_slice Tryd.underlying27 hv
  obtain ⟨fuel, hf⟩ := h
  obtain ⟨A, c, xs, e, h1, h2, h3⟩ := opens_slice RWt (fun x => x.path.length ≤ 140737488355328) (b := 32) Tryd.underlying27 (by kernel_rfl) (by decide) (by kernel_rfl) opens_wt fuel _ _ hf hwt
  simp only [Value.cells, List.cons.injEq, and_true] at e
  exact ⟨xs, A, c, e, h1, h2, h3⟩
/-- texts that came in -/
def InTs (W : World) (v : Value) (ls : List (List UInt8)) : Prop := ∃ A c, v = .slice A ls.length c ∧ RdT W A ls.length ls ∧ ls.length ≤ 140737488355328
theorem open_ts {base : Nat} {v : Value} {d : DataW H} {p : List MemPlace} (hv : Value.okWide Tryd.prog W .any base 32 v) (h : DataW.Trod enc Tryd.prog W 0 (fun _ => true) true 32 v d p)
    (hwt : ∀ m ∈ d.weights Tryd.prog 32, m ≤ reachBytes) : ∃ l, InTs W v l := by
  obtain ⟨a0, len0, cap0, rfl⟩ := okWide_slice Tryd.underlying32 hv
  obtain ⟨fuel, hf⟩ := h
  obtain ⟨l, ⟨A, c, e, hb⟩, hl⟩ := opens_texts fuel _ _ hf hwt
  simp only [Value.cells, List.cons.injEq, and_true] at e
  exact ⟨l, A, c, e, hb.texts, hl⟩
end
theorem RdS.wo6 {F : Nat → Prop} {w : World} {A : Option Addr} {c : Nat} {ls : List Wo} (h : RdS RWo F w A c ls) {k : Nat} {o : Wo} (hk : ls[k]? = some o) :
    ∃ x B d C e, A = some x ∧ x.block < w.heap.size ∧ w.cell? (x.add (k * 6)) = some (.int .i64 o.what) ∧ w.cell? ⟨(x.add (k * 6)).block, (x.add (k * 6)).off + 1, none⟩ = some (.int .i64 o.wt.client) ∧
      w.cell? ⟨(x.add (k * 6)).block, (x.add (k * 6)).off + 2, none⟩ = some (.int .i64 o.wt.kind) ∧ w.cell? ⟨(x.add (k * 6)).block, (x.add (k * 6)).off + 3, none⟩ = some (.string ⟨o.wt.path.toArray⟩) ∧
      w.cell? ⟨(x.add (k * 6)).block, (x.add (k * 6)).off + 4, none⟩ = some (.slice B o.paths.length d) ∧ w.cell? ⟨(x.add (k * 6)).block, (x.add (k * 6)).off + 5, none⟩ = some (.slice C o.clients.length e) ∧
      RdS RTx F w B d o.paths ∧ RdS RIn F w C e o.clients := by
  obtain ⟨x, cs, e, hb, hc, B, d, C, f, rfl, hB, hC⟩ := h.at_ hk
  refine ⟨x, B, d, C, f, e, hb, hc 0 _ rfl, ?_, ?_, ?_, ?_, ?_, hB, hC⟩
  · rw [← add_at x (k * 6) 1 (by omega)]; exact hc 1 _ rfl
  · rw [← add_at x (k * 6) 2 (by omega)]; exact hc 2 _ rfl
  · rw [← add_at x (k * 6) 3 (by omega)]; exact hc 3 _ rfl
  · rw [← add_at x (k * 6) 4 (by omega)]; exact hc 4 _ rfl
  · rw [← add_at x (k * 6) 5 (by omega)]; exact hc 5 _ rfl
end Go.Proofs.YtbppokdaehaocaaDoor
