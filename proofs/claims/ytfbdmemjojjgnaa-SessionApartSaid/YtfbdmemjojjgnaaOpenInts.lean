/-
  Numbers that came in. Plain lemmas on the reading of arguments; no statement.
-/
import Derived.Test.YtfbdmemjojjgnaaOpens
namespace Go.Proofs.Ytfbdmemjojjgnaa
set_option maxRecDepth 100000
open Go.ChangeShapes Go.WideShapes Go.ChangeAt Go.RowKit Go.Deep
set_option linter.unusedVariables false

section
variable {H : Type} {enc : TypeId × Value → H} {W : World}
theorem opens_i64 : Opens enc W 3 fun cs => ∃ z, cs = [.int .i64 z] ∧ (Lit.int .i64 z).wf = true := by
  intro fuel cs x h _
  obtain ⟨z, e, _, hw⟩ := DataW.trod_int Try.underlying3 h
  exact ⟨z, e, hw⟩
theorem cells_i64 : Try.prog.cellsOf 3 = 1 := by kernel_rfl
/-- numbers that came in -/
def RIn : Rdr Int where
  sz := 1
  rd F w cs z := cs = [.int .i64 z]
  len := by rintro F w cs x rfl; rfl
  keep := by rintro F F' w w' cs x rfl _ _; rfl
def InIn (W : World) (v : Value) (os : List Int) : Prop := ∃ A c, v = .slice A os.length c ∧ Rd W A os.length (os.map (.int .i64 ·)) ∧ os.length * 8 ≤ 140737488355328
theorem open_in {base : Nat} {v : Value} {d : DataW H} {p : List MemPlace} (hv : Value.okWide Try.prog W .any base 37 v) (h : DataW.Trod enc Try.prog W 0 (fun _ => true) true 37 v d p)
    (hwt : ∀ m ∈ d.weights Try.prog 37, m ≤ reachBytes) : ∃ l, InIn W v l := by
  obtain ⟨a0, len0, cap0, rfl⟩ := okWide_slice Try.underlying37 hv
  obtain ⟨fuel, hf⟩ := h
  obtain ⟨A, c, xs, e, h1, h2, _⟩ := opens_slice RIn (fun _ => True) (b := 8) (e := 3) Try.underlying37 (by kernel_rfl) (by decide) (by kernel_rfl) (fun fuel cs x h hw => by
    obtain ⟨z, e, _⟩ := opens_i64 fuel cs x h hw
    exact ⟨z, e, trivial⟩) fuel _ _ hf hwt
  simp only [Value.cells, List.cons.injEq, and_true] at e
  refine ⟨xs, A, c, e, ⟨by simp, fun k u hu => ?_⟩, h2⟩
  rw [List.getElem?_map, Option.map_eq_some_iff] at hu
  obtain ⟨z, hz, rfl⟩ := hu
  obtain ⟨a, cs, rfl, hb, hc, rfl⟩ := h1.at_ hz
  exact ⟨a, rfl, hb, by simpa [RIn] using hc 0 _ rfl⟩
end
end Go.Proofs.Ytfbdmemjojjgnaa
