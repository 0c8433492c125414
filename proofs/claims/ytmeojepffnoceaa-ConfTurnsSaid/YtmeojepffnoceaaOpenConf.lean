/-
  What the walks are told of a configuration that came in. Plain lemmas on the reading of arguments; no statement.
-/
import Derived.Test.YtmeojepffnoceaaMOpen
import Derived.Test.YtmeojepffnoceaaConfPlain
namespace Go.Proofs.Ytmeojepffnoceaa
open Go.ChangeShapes Go.WideShapes Go.ChangeAt Go.RowKit Go.Deep
set_option linter.unusedVariables false
set_option maxRecDepth 100000

/-- a configuration that came in -/
def InCf (w : World) (v : Value) (x : Cf × List UInt8) : Prop :=
  ∃ A n c, v = .agg #[.int .i64 x.1.u, .int .i64 x.1.r, .int .i64 x.1.p, .int .i64 x.1.wi, .int .i64 x.1.ev, .int .i64 x.1.pa, .slice A n c] ∧ InBs w (.slice A n c) x.2 ∧ x.1.n = n
theorem cells_conf : Try.prog.cellsOf 24 = 7 := by kernel_rfl
theorem cells_cint : Try.prog.cellsOf 3 = 1 := by kernel_rfl
theorem cells_cbytes : Try.prog.cellsOf 22 = 1 := by kernel_rfl
theorem seven_of {α : Type} {l : List α} {a b c d e f g : α} (hl : l.length = 7) (h0 : l[0]? = some a) (h1 : l[1]? = some b) (h2 : l[2]? = some c) (h3 : l[3]? = some d) (h4 : l[4]? = some e) (h5 : l[5]? = some f) (h6 : l[6]? = some g) : l = [a, b, c, d, e, f, g] := by
  match l, hl with
  | [_, _, _, _, _, _, _], _ => simp at h0 h1 h2 h3 h4 h5 h6; simp [h0, h1, h2, h3, h4, h5, h6]
theorem open_conf {H : Type} {enc : TypeId × Value → H} {W : World} {base : Nat} {v : Value} {d : DataW H} {p : List MemPlace}
    (hv : Value.okWide Try.prog W .any base 24 v) (h : DataW.Trod enc Try.prog W 0 (fun _ => true) true 24 v d p)
    (hwt : ∀ m ∈ d.weights Try.prog 24, m ≤ reachBytes) : ∃ x, InCf W v x := by
  obtain ⟨cs, rfl, hc⟩ := okWide_struct Try.underlying24 hv
  obtain ⟨fuel, hf⟩ := h
  obtain ⟨xs, n, _, hd, hl, hlen, hx⟩ := DataW.trod_struct Try.underlying24 hf
  have hl' : cs.toList.length = 7 := by rw [cells_conf] at hl; simpa [Value.cells] using hl
  match xs, hlen with
  | [y0, y1, y2, y3, y4, y5, y6], _ =>
    have f0 := hx 0 _ rfl
    have f1 := hx 1 _ rfl
    have f2 := hx 2 _ rfl
    have f3 := hx 3 _ rfl
    have f4 := hx 4 _ rfl
    have f5 := hx 5 _ rfl
    have f6 := hx 6 _ rfl
    simp only [List.getElem?_cons_zero, List.getElem?_cons_succ] at f0 f1 f2 f3 f4 f5 f6
    obtain ⟨a0, e0, _, _⟩ := DataW.trod_int Try.underlying3 f0
    obtain ⟨a1, e1, _, _⟩ := DataW.trod_int Try.underlying3 f1
    obtain ⟨a2, e2, _, _⟩ := DataW.trod_int Try.underlying3 f2
    obtain ⟨a3, e3, _, _⟩ := DataW.trod_int Try.underlying3 f3
    obtain ⟨a4, e4, _, _⟩ := DataW.trod_int Try.underlying3 f4
    obtain ⟨a5, e5, _, _⟩ := DataW.trod_int Try.underlying3 f5
    have hcs : (Value.agg cs).cells.toList = cs.toList := by simp [Value.cells]
    rw [hcs] at e0 e1 e2 e3 e4 e5 f6
    have e0 : (cs.toList.drop 0).take (Try.prog.cellsOf 3) = _ := e0
    have e1 : (cs.toList.drop 1).take (Try.prog.cellsOf 3) = _ := e1
    have e2 : (cs.toList.drop 2).take (Try.prog.cellsOf 3) = _ := e2
    have e3 : (cs.toList.drop 3).take (Try.prog.cellsOf 3) = _ := e3
    have e4 : (cs.toList.drop 4).take (Try.prog.cellsOf 3) = _ := e4
    have e5 : (cs.toList.drop 5).take (Try.prog.cellsOf 3) = _ := e5
    have f6 : DataW.trod enc Try.prog W 0 (fun _ => true) true n 22 ((cs.toList.drop 6).take (Try.prog.cellsOf 22)) = _ := f6
    rw [cells_cint] at e0 e1 e2 e3 e4 e5
    rw [cells_cbytes] at f6
    have hdw : ∀ m, m ∈ y6.1.weights Try.prog 22 → m ≤ reachBytes := by
      intro m hm
      refine hwt m ?_
      have hd0 : d = .agg [y0.1, y1.1, y2.1, y3.1, y4.1, y5.1, y6.1] := congrArg Prod.fst hd
      rw [hd0]
      simp only [DataW.weights, Try.underlying24]
      exact DataW.weights_mem_each (j := 6) rfl rfl m hm
    have s6 : ∃ A n c, (cs.toList.drop 6).take 1 = [.slice A n c] := by
      rcases DataW.trod_slice Try.underlying22 f6 with ⟨e, _⟩ | ⟨a, len, cap, _, _, _, _, e, _⟩
      · exact ⟨_, _, _, e⟩
      · exact ⟨_, _, _, e⟩
    obtain ⟨A, k, c, e6⟩ := s6
    have g6 : ∃ l, InBs W (.slice A k c) l := open_bytes_sz_at (enc := enc) (d := y6.1) (p := y6.2) ⟨n, by
      have q := f6
      rw [e6] at q
      simpa [Value.cells] using q⟩ hdw
    obtain ⟨l, hl6⟩ := g6
    have e' := seven_of hl' (take_one e0) (take_one e1) (take_one e2) (take_one e3) (take_one e4) (take_one e5) (take_one e6)
    refine ⟨(⟨a0, a1, a2, a3, a4, a5, k⟩, l), A, k, c, ?_, hl6, rfl⟩
    rw [← Array.toArray_toList (xs := cs), e']
end Go.Proofs.Ytmeojepffnoceaa
