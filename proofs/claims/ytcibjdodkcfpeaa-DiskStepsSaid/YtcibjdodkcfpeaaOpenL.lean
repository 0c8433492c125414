/-
  What the walks are told of an Id and of a letter that came in. Plain lemmas on the reading of arguments; no statement.
-/
import Derived.Test.YtcibjdodkcfpeaaOpen
namespace Go.Proofs.Ytcibjdodkcfpeaa
open Go.ChangeShapes Go.WideShapes Go.ChangeAt Go.RowKit Go.Deep
set_option linter.unusedVariables false

/-- bytes that came in, and how many there may be -/
def InBs (w : World) (v : Value) (l : List UInt8) : Prop := InB w v l ∧ l.length ≤ 140737488355328
theorem open_bytes_sz {H : Type} {enc : TypeId × Value → H} {W : World} {base : Nat} {v : Value} {d : DataW H} {p : List MemPlace}
    (hv : Value.okWide Try.prog W .any base 28 v) (h : DataW.Trod enc Try.prog W 0 (fun _ => true) true 28 v d p) (hwt : ∀ m ∈ d.weights Try.prog 28, m ≤ reachBytes) : ∃ l, InBs W v l := by
  obtain ⟨l, A, n, c, rfl, h1, h2, h3, h4⟩ := open_bytes hv h
  have hl : l.length = n := by simpa using h3.1
  refine ⟨l, ⟨A, n, c, rfl, h1, h2, h3, h4⟩, ?_⟩
  obtain ⟨fuel, hf⟩ := h
  rcases open_ints Try.underlying28 Try.underlying5 (by kernel_rfl) hf with ⟨hcs, _⟩ | ⟨x, len, c', zs, hcs, _, hl', hm, hz, hdat, _⟩
  · simp [Value.cells] at hcs
    omega
  · simp [Value.cells] at hcs
    obtain ⟨_, rfl, rfl⟩ := hcs
    simp only [if_true] at hz
    have hd0 : d = _ := congrArg Prod.fst hdat
    subst hd0
    have hb1 : Try.prog.bytesOf 5 = 1 := by kernel_rfl
    have h7 := hwt c (by
      simp only [DataW.weights, Try.underlying28, List.mem_cons, hb1]
      left
      simp [lits]
      omega)
    have := reachBytes_lt
    omega

theorem take_one {α : Type} {l : List α} {k : Nat} {x : α} (h : (l.drop k).take 1 = [x]) : l[k]? = some x := by
  have e : ((l.drop k).take 1)[0]? = some x := by rw [h]; rfl
  rw [List.getElem?_take] at e
  simpa using e
theorem two_of {α : Type} {l : List α} {x y : α} (hl : l.length = 2) (h0 : l[0]? = some x) (h1 : l[1]? = some y) : l = [x, y] := by
  match l, hl with
  | [a, b], _ => simp at h0 h1; simp [h0, h1]
end Go.Proofs.Ytcibjdodkcfpeaa
