/-
  The wrap that keeps the world's shape and the arguments' size; numbers, texts, bytes that came in. Plain lemmas on the reading of arguments; no statement.
-/
import Derived.Test.YtbppokdaehaocaaDoorOpens
import Derived.Test.YtbppokdaehaocaaDoorPathTab
import Derived.SizedLaws
namespace Go.Proofs.YtbppokdaehaocaaDoor
set_option maxRecDepth 100000
open Go.ChangeShapes Go.WideShapes Go.ChangeAt Go.RowKit Go.Deep
set_option linter.unusedVariables false

theorem returns_sized {H : Type} {enc : TypeId × Value → H} {a : Assume} {C : Checked} {os : Os} {f : FuncId} {fn : Func} {s : ChangeSpec} {conds : List PathCond} {apart fresh handsOn again : Bool} {X : World → Array Value → Prop}
    (hX : ∀ (w w' : World) (args : Array Value), w.heap = w'.heap → X w args → X w' args)
    (own : ownKnob C.prog.godebug = none) (started : os.Started) (noInit : C.prog.inits.idxOf? f = none) (hfn : C.prog.funcs[f]? = some fn)
    (witness : ∃ (w : World) (tape : Tape) (i : Input), w.os = os ∧ (w.forCall tape i).Shaped C.prog ∧ i.vars = [] ∧ Input.okWide C.prog (w.forCall tape i) .any w.heap.size f i ∧
      ((s.pre enc C.prog fn conds apart (w.forCall tape i).memory i.args ∧ X (w.forCall tape i).memory i.args) ∧ sizedMet enc C.prog fn (OpenSpec.ofChange s) apart (w.forCall tape i).memory i.args) ∧ a.holds C.prog (lone (Frame.enter C.prog f i.args .normal) [] (w.forCall tape i)))
    (contract : ∀ (W : World) (base : Nat) (args : Array Value) (ds gs : List (DataW H)) (before : List MemPlace),
      (∀ (j : Nat) t v, fn.params[j]? = some t → args[j]? = some v → Value.okWide C.prog W .any base t v) →
      DataW.Whole enc C.prog fn.params.toList s.vars apart W args.toList ds gs before →
      (DataW.weightsEach C.prog (fn.params.toList ++ s.plain.varTypes C.prog) (ds ++ gs)).all (· ≤ reachBytes) = true →
      X W args → W.ShapedOpen C.prog →
      Calls C.prog f args W fun e W' => ∃ v, e = .returned v ∧ s.post enc C.prog fn apart fresh handsOn again W args v W') :
    ReturnsInHanded a C os f .any (fun w args => (s.pre enc C.prog fn conds apart w args ∧ X w args) ∧ sizedMet enc C.prog fn (OpenSpec.ofChange s) apart w args) (s.post enc C.prog fn apart fresh handsOn again) := by
  refine returnsInHanded_of_calls own started noInit witness ?_
  intro w tape i _ hsh _ hok hpre hholds
  obtain ⟨_, _, _, fn', hfn', _, _, _, _, hval⟩ := hok
  have e : fn' = fn := Option.some.inj (hfn'.symm.trans hfn)
  subst e
  obtain ⟨⟨⟨ds, gs, before, hw, hc⟩, hx⟩, hz⟩ := hpre
  have hw' := DataW.Whole.of_heap (w' := w.forCall tape i) (by rfl) hw
  refine (contract (w.forCall tape i) w.heap.size i.args ds gs before hval hw' (hz.weights hw) (hX _ _ _ (by rfl) hx) hsh).mono fun e W' ⟨v, he, hp⟩ => ?_
  subst he
  exact ChangeSpec.post_blind hp

section
variable {H : Type} {enc : TypeId × Value → H} {W : World}
theorem opens_i64 : Opens enc W 3 fun cs => ∃ z, cs = [.int .i64 z] ∧ (Lit.int .i64 z).wf = true := by
  intro fuel cs x h _
  obtain ⟨z, e, _, hw⟩ := DataW.trod_int Tryd.underlying3 h
  exact ⟨z, e, hw⟩
theorem opens_bool : Opens enc W 4 fun cs => ∃ b, cs = [.bool b] := by
  intro fuel cs x h _
  obtain ⟨b, e, _⟩ := DataW.trod_bool Tryd.underlying4 h
  exact ⟨b, e⟩
theorem opens_string : Opens enc W 9 fun cs => ∃ l : List UInt8, cs = [.string ⟨l.toArray⟩] ∧ l.length ≤ 140737488355328 := by
  intro fuel cs x h hw
  obtain ⟨s, e, hx, _⟩ := DataW.trod_string Tryd.underlying9 h
  refine ⟨s.data.toList, by rw [e, sv_of], ?_⟩
  have h1 := hw s.data.toList.length (by rw [hx]; simp [DataW.weights])
  have h2 := reachBytes_lt
  omega
theorem cells_str : Tryd.prog.cellsOf 9 = 1 := by kernel_rfl
theorem cells_i64 : Tryd.prog.cellsOf 3 = 1 := by kernel_rfl
theorem cells_bts : Tryd.prog.cellsOf 89 = 1 := by kernel_rfl
theorem cells_bool : Tryd.prog.cellsOf 4 = 1 := by kernel_rfl
/-- a text that came in -/
def InTx (v : Value) (l : List UInt8) : Prop := v = .string ⟨l.toArray⟩ ∧ l.length ≤ 140737488355328
theorem open_tx {v : Value} {d : DataW H} {p : List MemPlace} {base : Nat} (hv : Value.okWide Tryd.prog W .any base 9 v) (h : DataW.Trod enc Tryd.prog W 0 (fun _ => true) true 9 v d p)
    (hwt : ∀ m ∈ d.weights Tryd.prog 9, m ≤ reachBytes) : ∃ l, InTx v l := by
  obtain ⟨a, rfl, rfl, rfl, _⟩ := Go.ChangeMaps.open_string Tryd.underlying9 hv h
  refine ⟨a.data.toList, by rw [sv_of], ?_⟩
  have h1 := hwt a.data.toList.length (by simp [DataW.weights])
  have h2 := reachBytes_lt
  omega
/-- bytes that came in -/
def InBy (W : World) (v : Value) (l : List UInt8) : Prop := ∃ A c, v = .slice A l.length c ∧ BF AllB W A c l ∧ l.length ≤ 140737488355328
theorem open_by {base : Nat} {v : Value} {d : DataW H} {p : List MemPlace} (hv : Value.okWide Tryd.prog W .any base 89 v) (h : DataW.Trod enc Tryd.prog W 0 (fun _ => true) true 89 v d p)
    (hwt : ∀ m ∈ d.weights Tryd.prog 89, m ≤ reachBytes) : ∃ l, InBy W v l := by
  obtain ⟨a0, len0, cap0, rfl⟩ := okWide_slice Tryd.underlying89 hv
  obtain ⟨fuel, hf⟩ := h
  obtain ⟨l, ⟨A, c, e, hb⟩, hl⟩ := opens_bytes fuel _ _ hf hwt
  simp only [Value.cells, List.cons.injEq, and_true] at e
  exact ⟨l, A, c, e, hb, hl⟩
/-- numbers that came in -/
def RIn : Rdr Int where
  sz := 1
  rd F w cs z := cs = [.int .i64 z]
  len := by rintro F w cs x rfl; rfl
  keep := by rintro F F' w w' cs x rfl _ _; rfl
def InIn (W : World) (v : Value) (os : List Int) : Prop := ∃ A c, v = .slice A os.length c ∧ Rd W A os.length (os.map (.int .i64 ·)) ∧ os.length * 8 ≤ 140737488355328
theorem open_in {base : Nat} {v : Value} {d : DataW H} {p : List MemPlace} (hv : Value.okWide Tryd.prog W .any base 33 v) (h : DataW.Trod enc Tryd.prog W 0 (fun _ => true) true 33 v d p)
    (hwt : ∀ m ∈ d.weights Tryd.prog 33, m ≤ reachBytes) : ∃ l, InIn W v l := by
  obtain ⟨a0, len0, cap0, rfl⟩ := okWide_slice Tryd.underlying33 hv
  obtain ⟨fuel, hf⟩ := h
  obtain ⟨A, c, xs, e, h1, h2, _⟩ := opens_slice RIn (fun _ => True) (b := 8) (e := 3) Tryd.underlying33 (by kernel_rfl) (by decide) (by kernel_rfl) (fun fuel cs x h hw => by
    obtain ⟨z, e, _⟩ := opens_i64 fuel cs x h hw
    exact ⟨z, e, trivial⟩) fuel _ _ hf hwt
  simp only [Value.cells, List.cons.injEq, and_true] at e
  refine ⟨xs, A, c, e, ⟨by simp, fun k u hu => ?_⟩, h2⟩
  rw [List.getElem?_map, Option.map_eq_some_iff] at hu
  obtain ⟨z, hz, rfl⟩ := hu
  obtain ⟨a, cs, rfl, hb, hc, rfl⟩ := h1.at_ hz
  exact ⟨a, rfl, hb, by simpa [RIn] using hc 0 _ rfl⟩
end
end Go.Proofs.YtbppokdaehaocaaDoor
