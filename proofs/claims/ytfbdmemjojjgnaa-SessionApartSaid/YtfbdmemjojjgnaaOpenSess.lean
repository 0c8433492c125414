/-
  Scripts of sessions' calls, and sessions, that came in. Plain lemmas on the reading of arguments; no statement.
-/
import Derived.Test.YtfbdmemjojjgnaaOpenInts
import Derived.Test.YtfbdmemjojjgnaaSessMem
namespace Go.Proofs.Ytfbdmemjojjgnaa
set_option maxRecDepth 100000
open Go.ChangeShapes Go.WideShapes Go.ChangeAt Go.RowKit Go.Deep
set_option linter.unusedVariables false

theorem RdS.intsE {F : Nat → Prop} {w : World} {A : Option Addr} {c : Nat} {os : List Int} (h : RdS RIn F w A c os) : Rd w A os.length (os.map (.int .i64 ·)) := by
  refine ⟨by simp, fun k u hu => ?_⟩
  rw [List.getElem?_map, Option.map_eq_some_iff] at hu
  obtain ⟨z, hz, rfl⟩ := hu
  obtain ⟨a, cs, rfl, hb, hc, rfl⟩ := h.at_ hz
  exact ⟨a, rfl, hb, by simpa [RIn] using hc 0 _ rfl⟩
/-- a call of a script -/
structure So where
  what : Int
  se : Se
  clients : List Int
def soC (o : So) (B : Option Addr) (d : Nat) : List Value := [.int .i64 o.what, .int .i64 o.se.client, .int .i64 o.se.span, .int .i64 o.se.seen, .slice B o.clients.length d]
def RSo : Rdr So where
  sz := 5
  rd F w cs o := ∃ B d, cs = soC o B d ∧ RdS RIn F w B d o.clients
  len := by rintro F w cs x ⟨B, d, rfl, _⟩; rfl
  keep := by rintro F F' w w' cs x ⟨B, d, rfl, h⟩ hk hf; exact ⟨B, d, rfl, h.keep hk hf⟩
structure So.big (o : So) : Prop where
  clients : o.clients.length ≤ 140737488355328
  client : (Lit.int .i64 o.se.client).wf = true
  span : (Lit.int .i64 o.se.span).wf = true
  seen : (Lit.int .i64 o.se.seen).wf = true
section
variable {H : Type} {enc : TypeId × Value → H} {W : World}
theorem cells_intsE : Try.prog.cellsOf 37 = 1 := by kernel_rfl
theorem opens_intsE : Opens enc W 37 fun cs => ∃ os, (∃ A c, cs = [.slice A os.length c] ∧ RdS RIn AllB W A c os) ∧ os.length ≤ 140737488355328 := by
  intro fuel cs x h hw
  obtain ⟨A, c, xs, e, h1, h2, _⟩ := opens_slice RIn (fun _ => True) (b := 8) (e := 3) Try.underlying37 (by kernel_rfl) (by decide) (by kernel_rfl) (fun fuel cs x h hw => by
    obtain ⟨z, e, _⟩ := opens_i64 fuel cs x h hw
    exact ⟨z, e, trivial⟩) fuel _ _ h hw
  exact ⟨xs, ⟨A, c, e, h1⟩, by omega⟩
/-- a session's numbers are such as a word holds -/
def Se.wf (x : Se) : Prop := (Lit.int .i64 x.client).wf = true ∧ (Lit.int .i64 x.span).wf = true ∧ (Lit.int .i64 x.seen).wf = true
theorem opens_se : Opens enc W 36 fun cs => ∃ x, RSe.rd AllB W cs x ∧ Se.wf x := by
  intro fuel cs x h hw
  have hl : cs.length = 3 := by rw [struct_len Try.underlying36 h]; kernel_rfl
  obtain ⟨z0, g0, w0⟩ := opens_field Try.underlying36 h hw 0 rfl opens_i64
  obtain ⟨z1, g1, w1⟩ := opens_field Try.underlying36 h hw 1 rfl opens_i64
  obtain ⟨z2, g2, w2⟩ := opens_field Try.underlying36 h hw 2 rfl opens_i64
  have g0 : (cs.drop 0).take (Try.prog.cellsOf 3) = _ := g0
  have g1 : (cs.drop 1).take (Try.prog.cellsOf 3) = _ := g1
  have g2 : (cs.drop 2).take (Try.prog.cellsOf 3) = _ := g2
  rw [cells_i64] at g0 g1 g2
  refine ⟨⟨z0, z1, z2⟩, ?_, w0, w1, w2⟩
  match cs, hl with
  | [_, _, _], _ =>
    simp at g0 g1 g2
    simp [RSe, seC, g0, g1, g2]
theorem opens_so : Opens enc W 39 fun cs => ∃ o, RSo.rd AllB W cs o ∧ o.big := by
  intro fuel cs x h hw
  have hl : cs.length = 5 := by rw [struct_len Try.underlying39 h]; kernel_rfl
  obtain ⟨z0, g0, w0⟩ := opens_field Try.underlying39 h hw 0 rfl opens_i64
  obtain ⟨z1, g1, w1⟩ := opens_field Try.underlying39 h hw 1 rfl opens_i64
  obtain ⟨z2, g2, w2⟩ := opens_field Try.underlying39 h hw 2 rfl opens_i64
  obtain ⟨z3, g3, w3⟩ := opens_field Try.underlying39 h hw 3 rfl opens_i64
  obtain ⟨os, ⟨B, d, g4, hB⟩, h4⟩ := opens_field Try.underlying39 h hw 4 rfl opens_intsE
  have g0 : (cs.drop 0).take (Try.prog.cellsOf 3) = _ := g0
  have g1 : (cs.drop 1).take (Try.prog.cellsOf 3) = _ := g1
  have g2 : (cs.drop 2).take (Try.prog.cellsOf 3) = _ := g2
  have g3 : (cs.drop 3).take (Try.prog.cellsOf 3) = _ := g3
  have g4 : (cs.drop 4).take (Try.prog.cellsOf 37) = _ := g4
  rw [cells_i64] at g0 g1 g2 g3
  rw [cells_intsE] at g4
  refine ⟨⟨z0, ⟨z1, z2, z3⟩, os⟩, ⟨B, d, ?_, hB⟩, h4, w1, w2, w3⟩
  match cs, hl with
  | [_, _, _, _, _], _ =>
    simp at g0 g1 g2 g3 g4
    simp [soC, g0, g1, g2, g3, g4]
/-- a script that came in -/
def InSos (W : World) (v : Value) (xs : List So) : Prop := ∃ A c, v = .slice A xs.length c ∧ RdS RSo AllB W A c xs ∧ ∀ x ∈ xs, x.big
theorem open_sos {base : Nat} {v : Value} {d : DataW H} {p : List MemPlace} (hv : Value.okWide Try.prog W .any base 22 v) (h : DataW.Trod enc Try.prog W 0 (fun _ => true) true 22 v d p)
    (hwt : ∀ m ∈ d.weights Try.prog 22, m ≤ reachBytes) : ∃ l, InSos W v l := by
  obtain ⟨a0, len0, cap0, rfl⟩ := okWide_slice Try.underlying22 hv
  obtain ⟨fuel, hf⟩ := h
  obtain ⟨A, c, xs, e, h1, _, h3⟩ := opens_slice RSo So.big (b := Try.prog.bytesOf 39) Try.underlying22 (by kernel_rfl) (by decide) rfl opens_so fuel _ _ hf hwt
  simp only [Value.cells, List.cons.injEq, and_true] at e
  exact ⟨xs, A, c, e, h1, h3⟩
/-- sessions that came in -/
def InSes (W : World) (v : Value) (xs : List Se) : Prop := ∃ A c, v = .slice A xs.length c ∧ RdS RSe AllB W A c xs ∧ xs.length * 24 ≤ 140737488355328 ∧ ∀ x ∈ xs, x.wf
theorem open_ses {base : Nat} {v : Value} {d : DataW H} {p : List MemPlace} (hv : Value.okWide Try.prog W .any base 23 v) (h : DataW.Trod enc Try.prog W 0 (fun _ => true) true 23 v d p)
    (hwt : ∀ m ∈ d.weights Try.prog 23, m ≤ reachBytes) : ∃ l, InSes W v l := by
  obtain ⟨a0, len0, cap0, rfl⟩ := okWide_slice Try.underlying23 hv
  obtain ⟨fuel, hf⟩ := h
  obtain ⟨A, c, xs, e, h1, h2, h3⟩ := opens_slice RSe Se.wf (b := 24) Try.underlying23 (by kernel_rfl) (by decide) (by kernel_rfl) opens_se fuel _ _ hf hwt
  simp only [Value.cells, List.cons.injEq, and_true] at e
  exact ⟨xs, A, c, e, h1, h2, h3⟩
end
theorem RdS.so5 {F : Nat → Prop} {w : World} {A : Option Addr} {c : Nat} {ls : List So} (h : RdS RSo F w A c ls) {k : Nat} {o : So} (hk : ls[k]? = some o) :
    ∃ x C e, A = some x ∧ x.block < w.heap.size ∧ w.cell? (x.add (k * 5)) = some (.int .i64 o.what) ∧ w.cell? ⟨(x.add (k * 5)).block, (x.add (k * 5)).off + 1, none⟩ = some (.int .i64 o.se.client) ∧
      w.cell? ⟨(x.add (k * 5)).block, (x.add (k * 5)).off + 2, none⟩ = some (.int .i64 o.se.span) ∧ w.cell? ⟨(x.add (k * 5)).block, (x.add (k * 5)).off + 3, none⟩ = some (.int .i64 o.se.seen) ∧
      w.cell? ⟨(x.add (k * 5)).block, (x.add (k * 5)).off + 4, none⟩ = some (.slice C o.clients.length e) ∧ RdS RIn F w C e o.clients := by
  obtain ⟨x, cs, e, hb, hc, C, f, rfl, hC⟩ := h.at_ hk
  refine ⟨x, C, f, e, hb, hc 0 _ rfl, ?_, ?_, ?_, ?_, hC⟩
  · rw [← add_at x (k * 5) 1 (by omega)]; exact hc 1 _ rfl
  · rw [← add_at x (k * 5) 2 (by omega)]; exact hc 2 _ rfl
  · rw [← add_at x (k * 5) 3 (by omega)]; exact hc 3 _ rfl
  · rw [← add_at x (k * 5) 4 (by omega)]; exact hc 4 _ rfl
end Go.Proofs.Ytfbdmemjojjgnaa
