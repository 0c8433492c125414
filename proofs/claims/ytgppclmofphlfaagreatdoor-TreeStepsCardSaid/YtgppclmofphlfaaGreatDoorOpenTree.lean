/-
  What the walks are told of scripts and nodes that came in; the wrap that keeps the world's shape and the arguments' size. Plain lemmas on the reading of arguments; no statement.
-/
import Derived.Test.YtgppclmofphlfaaGreatDoorOpens
import Derived.Test.YtgppclmofphlfaaGreatDoorMTreeA
import Derived.Test.YtgppclmofphlfaaGreatDoorPathTab
import Derived.SizedLaws
namespace Go.Proofs.YtgppclmofphlfaaGreatDoor
set_option maxRecDepth 100000
open Go.ChangeShapes Go.WideShapes Go.ChangeAt Go.RowKit Go.Deep
set_option linter.unusedVariables false

theorem returns_sized {H : Type} {enc : TypeId × Value → H} {a : Assume} {C : Checked} {os : Os} {f : FuncId} {fn : Func} {s : ChangeSpec} {conds : List PathCond} {apart fresh handsOn again : Bool} {X : World → Array Value → Prop}
    (hX : ∀ (w w' : World) (args : Array Value), w.heap = w'.heap → X w args → X w' args)
    (own : ownKnob C.prog.godebug = none) (started : os.Started) (noInit : C.prog.inits.idxOf? f = none) (hfn : C.prog.funcs[f]? = some fn)
    (witness : ∃ (w : World) (tape : Tape) (i : Input), w.os = os ∧ (w.forCall tape i).Shaped C.prog ∧ i.vars = [] ∧ Input.okWide C.prog (w.forCall tape i) .any w.heap.size f i ∧
      ((s.pre enc C.prog fn conds apart (w.forCall tape i).memory i.args ∧ X (w.forCall tape i).memory i.args) ∧ sizedMet enc C.prog fn (OpenSpec.ofChange s) apart (w.forCall tape i).memory i.args) ∧ a.holds C.prog (lone (Frame.enter C.prog f i.args .normal) [] (w.forCall tape i)))
    (contract : ∀ (W : World) (base : Nat) (args : Array Value) (ds gs : List (DataW H)) (before : List MemPlace),
      (∀ (j : Nat) t v, fn.params[j]? = some t → args[j]? = some v → Value.okWide C.prog W .any base t v) →
      DataW.Whole enc C.prog fn.params.toList s.vars apart W args.toList ds gs before →
      (DataW.weightsEach C.prog (fn.params.toList ++ s.plain.varTypes C.prog) (ds ++ gs)).all (· ≤ reachBytes) = true →
      X W args → W.ShapedOpen C.prog →
      Calls C.prog f args W fun e W' => ∃ v, e = .returned v ∧ s.post enc C.prog fn apart fresh handsOn again W args v W') :
    ReturnsInHanded a C os f .any (fun w args => (s.pre enc C.prog fn conds apart w args ∧ X w args) ∧ sizedMet enc C.prog fn (OpenSpec.ofChange s) apart w args) (s.post enc C.prog fn apart fresh handsOn again) := by
  refine returnsInHanded_of_calls own started noInit witness ?_
  intro w tape i _ hsh _ hok hpre hholds
  obtain ⟨_, _, _, fn', hfn', _, _, _, _, hval⟩ := hok
  have e : fn' = fn := Option.some.inj (hfn'.symm.trans hfn)
  subst e
  obtain ⟨⟨⟨ds, gs, before, hw, hc⟩, hx⟩, hz⟩ := hpre
  have hw' := DataW.Whole.of_heap (w' := w.forCall tape i) (by rfl) hw
  refine (contract (w.forCall tape i) w.heap.size i.args ds gs before hval hw' (hz.weights hw) (hX _ _ _ (by rfl) hx) hsh).mono fun e W' ⟨v, he, hp⟩ => ?_
  subst he
  exact ChangeSpec.post_blind hp

/-- a call of a script -/
structure To where
  what : Int
  own : Int
  born : Int
  n : Int
  path : List UInt8
  data : List UInt8
  numd : Bool
/-- its cells -/
def toC (o : To) (A : Option Addr) (c : Nat) : List Value := [.int .i64 o.what, .int .i64 o.own, .int .i64 o.born, .int .i64 o.n, .string ⟨o.path.toArray⟩, .slice A o.data.length c, .bool o.numd]
def RTo : Rdr To where
  sz := 7
  rd F w cs o := ∃ A c, cs = toC o A c ∧ BF F w A c o.data
  len := by rintro F w cs x ⟨A, c, rfl, _⟩; rfl
  keep := by rintro F F' w w' cs x ⟨A, c, rfl, h⟩ hk hf; exact ⟨A, c, rfl, h.keep hk hf⟩
structure To.big (o : To) : Prop where
  path : o.path.length ≤ 140737488355328
  data : o.data.length ≤ 140737488355328
  own : (Lit.int .i64 o.own).wf = true
  born : (Lit.int .i64 o.born).wf = true
structure Lf.big (l : Lf) : Prop where
  path : l.path.length ≤ 140737488355328
  data : l.data.length ≤ 140737488355328
  ver : (Lit.int .i64 l.ver).wf = true
  next : (Lit.int .i64 l.next).wf = true
section
variable {H : Type} {enc : TypeId × Value → H} {W : World}
theorem opens_i64 : Opens enc W 3 fun cs => ∃ z, cs = [.int .i64 z] ∧ (Lit.int .i64 z).wf = true := by
  intro fuel cs x h _
  obtain ⟨z, e, _, hw⟩ := DataW.trod_int Tryz.underlying3 h
  exact ⟨z, e, hw⟩
theorem opens_bool : Opens enc W 4 fun cs => ∃ b, cs = [.bool b] := by
  intro fuel cs x h _
  obtain ⟨b, e, _⟩ := DataW.trod_bool Tryz.underlying4 h
  exact ⟨b, e⟩
theorem opens_string : Opens enc W 9 fun cs => ∃ l : List UInt8, cs = [.string ⟨l.toArray⟩] ∧ l.length ≤ 140737488355328 := by
  intro fuel cs x h hw
  obtain ⟨s, e, hx, _⟩ := DataW.trod_string Tryz.underlying9 h
  refine ⟨s.data.toList, by rw [e, sv_of], ?_⟩
  have h1 := hw s.data.toList.length (by rw [hx]; simp [DataW.weights])
  have h2 := reachBytes_lt
  omega
theorem cells_str : Tryz.prog.cellsOf 9 = 1 := by kernel_rfl
theorem cells_i64 : Tryz.prog.cellsOf 3 = 1 := by kernel_rfl
theorem cells_bts : Tryz.prog.cellsOf 32 = 1 := by kernel_rfl
theorem cells_bool : Tryz.prog.cellsOf 4 = 1 := by kernel_rfl
theorem opens_to : Opens enc W 34 fun cs => ∃ o, RTo.rd AllB W cs o ∧ o.big := by
  intro fuel cs x h hw
  have hl : cs.length = 7 := by rw [struct_len Tryz.underlying34 h]; kernel_rfl
  obtain ⟨z0, g0, w0⟩ := opens_field Tryz.underlying34 h hw 0 rfl opens_i64
  obtain ⟨z1, g1, w1⟩ := opens_field Tryz.underlying34 h hw 1 rfl opens_i64
  obtain ⟨z2, g2, w2⟩ := opens_field Tryz.underlying34 h hw 2 rfl opens_i64
  obtain ⟨z3, g3, w3⟩ := opens_field Tryz.underlying34 h hw 3 rfl opens_i64
  obtain ⟨p, g4, hp⟩ := opens_field Tryz.underlying34 h hw 4 rfl opens_string
  obtain ⟨d, ⟨A, c, g5, hd⟩, hn⟩ := opens_field Tryz.underlying34 h hw 5 rfl opens_bytes
  obtain ⟨b, g6⟩ := opens_field Tryz.underlying34 h hw 6 rfl opens_bool
  have g0 : (cs.drop 0).take (Tryz.prog.cellsOf 3) = _ := g0
  have g1 : (cs.drop 1).take (Tryz.prog.cellsOf 3) = _ := g1
  have g2 : (cs.drop 2).take (Tryz.prog.cellsOf 3) = _ := g2
  have g3 : (cs.drop 3).take (Tryz.prog.cellsOf 3) = _ := g3
  have g4 : (cs.drop 4).take (Tryz.prog.cellsOf 9) = _ := g4
  have g5 : (cs.drop 5).take (Tryz.prog.cellsOf 32) = _ := g5
  have g6 : (cs.drop 6).take (Tryz.prog.cellsOf 4) = _ := g6
  rw [cells_i64] at g0 g1 g2 g3
  rw [cells_str] at g4
  rw [cells_bts] at g5
  rw [cells_bool] at g6
  refine ⟨⟨z0, z1, z2, z3, p, d, b⟩, ⟨A, c, ?_, hd⟩, hp, hn, w1, w2⟩
  match cs, hl with
  | [_, _, _, _, _, _, _], _ =>
    simp at g0 g1 g2 g3 g4 g5 g6
    simp [toC, g0, g1, g2, g3, g4, g5, g6]
theorem opens_lf : Opens enc W 50 fun cs => ∃ l, RLf.rd AllB W cs l ∧ l.big := by
  intro fuel cs x h hw
  have hl : cs.length = 6 := by rw [struct_len Tryz.underlying50 h]; kernel_rfl
  obtain ⟨p, g0, hp⟩ := opens_field Tryz.underlying50 h hw 0 rfl opens_string
  obtain ⟨d, ⟨A, c, g1, hd⟩, hn⟩ := opens_field Tryz.underlying50 h hw 1 rfl opens_bytes
  obtain ⟨z2, g2, w2⟩ := opens_field Tryz.underlying50 h hw 2 rfl opens_i64
  obtain ⟨z3, g3, w3⟩ := opens_field Tryz.underlying50 h hw 3 rfl opens_i64
  obtain ⟨z4, g4, w4⟩ := opens_field Tryz.underlying50 h hw 4 rfl opens_i64
  obtain ⟨z5, g5, w5⟩ := opens_field Tryz.underlying50 h hw 5 rfl opens_i64
  have g0 : (cs.drop 0).take (Tryz.prog.cellsOf 9) = _ := g0
  have g1 : (cs.drop 1).take (Tryz.prog.cellsOf 32) = _ := g1
  have g2 : (cs.drop 2).take (Tryz.prog.cellsOf 3) = _ := g2
  have g3 : (cs.drop 3).take (Tryz.prog.cellsOf 3) = _ := g3
  have g4 : (cs.drop 4).take (Tryz.prog.cellsOf 3) = _ := g4
  have g5 : (cs.drop 5).take (Tryz.prog.cellsOf 3) = _ := g5
  rw [cells_i64] at g2 g3 g4 g5
  rw [cells_str] at g0
  rw [cells_bts] at g1
  refine ⟨⟨p, d, z2, z3, z4, z5⟩, ⟨A, c, ?_, hd⟩, hp, hn, w2, w4⟩
  match cs, hl with
  | [_, _, _, _, _, _], _ =>
    simp at g0 g1 g2 g3 g4 g5
    simp [lfC, g0, g1, g2, g3, g4, g5]
/-- a script that came in -/
def InTos (W : World) (v : Value) (xs : List To) : Prop := ∃ A c, v = .slice A xs.length c ∧ RdS RTo AllB W A c xs ∧ ∀ x ∈ xs, x.big
theorem open_tos {base : Nat} {v : Value} {d : DataW H} {p : List MemPlace} (hv : Value.okWide Tryz.prog W .any base 22 v) (h : DataW.Trod enc Tryz.prog W 0 (fun _ => true) true 22 v d p)
    (hwt : ∀ m ∈ d.weights Tryz.prog 22, m ≤ reachBytes) : ∃ l, InTos W v l := by
  obtain ⟨a0, len0, cap0, rfl⟩ := okWide_slice Tryz.underlying22 hv
  obtain ⟨fuel, hf⟩ := h
  obtain ⟨A, c, xs, e, h1, _, h3⟩ := opens_slice RTo To.big (b := Tryz.prog.bytesOf 34) Tryz.underlying22 (by kernel_rfl) (by decide) rfl opens_to fuel _ _ hf hwt
  simp only [Value.cells, List.cons.injEq, and_true] at e
  exact ⟨xs, A, c, e, h1, h3⟩
/-- nodes that came in -/
def InLfs (W : World) (v : Value) (xs : List Lf) : Prop := ∃ A c, v = .slice A xs.length c ∧ RdS RLf AllB W A c xs ∧ xs.length * 72 ≤ 140737488355328 ∧ ∀ x ∈ xs, x.big
theorem open_lfs {base : Nat} {v : Value} {d : DataW H} {p : List MemPlace} (hv : Value.okWide Tryz.prog W .any base 28 v) (h : DataW.Trod enc Tryz.prog W 0 (fun _ => true) true 28 v d p)
    (hwt : ∀ m ∈ d.weights Tryz.prog 28, m ≤ reachBytes) : ∃ l, InLfs W v l := by
  obtain ⟨a0, len0, cap0, rfl⟩ := okWide_slice Tryz.underlying28 hv
  obtain ⟨fuel, hf⟩ := h
  obtain ⟨A, c, xs, e, h1, h2, h3⟩ := opens_slice RLf Lf.big (b := 72) Tryz.underlying28 (by kernel_rfl) (by decide) (by kernel_rfl) opens_lf fuel _ _ hf hwt
  simp only [Value.cells, List.cons.injEq, and_true] at e
  exact ⟨xs, A, c, e, h1, h2, h3⟩
/-- a text that came in -/
def InTx (v : Value) (l : List UInt8) : Prop := v = .string ⟨l.toArray⟩ ∧ l.length ≤ 140737488355328
theorem open_tx {v : Value} {d : DataW H} {p : List MemPlace} {base : Nat} (hv : Value.okWide Tryz.prog W .any base 9 v) (h : DataW.Trod enc Tryz.prog W 0 (fun _ => true) true 9 v d p)
    (hwt : ∀ m ∈ d.weights Tryz.prog 9, m ≤ reachBytes) : ∃ l, InTx v l := by
  obtain ⟨a, rfl, rfl, rfl, _⟩ := Go.ChangeMaps.open_string Tryz.underlying9 hv h
  refine ⟨a.data.toList, by rw [sv_of], ?_⟩
  have h1 := hwt a.data.toList.length (by simp [DataW.weights])
  have h2 := reachBytes_lt
  omega
/-- bytes that came in -/
def InBy (W : World) (v : Value) (l : List UInt8) : Prop := ∃ A c, v = .slice A l.length c ∧ BF AllB W A c l ∧ l.length ≤ 140737488355328
theorem open_by {base : Nat} {v : Value} {d : DataW H} {p : List MemPlace} (hv : Value.okWide Tryz.prog W .any base 32 v) (h : DataW.Trod enc Tryz.prog W 0 (fun _ => true) true 32 v d p)
    (hwt : ∀ m ∈ d.weights Tryz.prog 32, m ≤ reachBytes) : ∃ l, InBy W v l := by
  obtain ⟨a0, len0, cap0, rfl⟩ := okWide_slice Tryz.underlying32 hv
  obtain ⟨fuel, hf⟩ := h
  obtain ⟨l, ⟨A, c, e, hb⟩, hl⟩ := opens_bytes fuel _ _ hf hwt
  simp only [Value.cells, List.cons.injEq, and_true] at e
  exact ⟨l, A, c, e, hb, hl⟩
/-- numbers that came in -/
def RIn : Rdr Int where
  sz := 1
  rd F w cs z := cs = [.int .i64 z]
  len := by rintro F w cs x rfl; rfl
  keep := by rintro F F' w w' cs x rfl _ _; rfl
def InIn (W : World) (v : Value) (os : List Int) : Prop := ∃ A c, v = .slice A os.length c ∧ Rd W A os.length (os.map (.int .i64 ·)) ∧ os.length * 8 ≤ 140737488355328
theorem open_in {base : Nat} {v : Value} {d : DataW H} {p : List MemPlace} (hv : Value.okWide Tryz.prog W .any base 23 v) (h : DataW.Trod enc Tryz.prog W 0 (fun _ => true) true 23 v d p)
    (hwt : ∀ m ∈ d.weights Tryz.prog 23, m ≤ reachBytes) : ∃ l, InIn W v l := by
  obtain ⟨a0, len0, cap0, rfl⟩ := okWide_slice Tryz.underlying23 hv
  obtain ⟨fuel, hf⟩ := h
  obtain ⟨A, c, xs, e, h1, h2, _⟩ := opens_slice RIn (fun _ => True) (b := 8) (e := 3) Tryz.underlying23 (by kernel_rfl) (by decide) (by kernel_rfl) (fun fuel cs x h hw => by
    obtain ⟨z, e, _⟩ := opens_i64 fuel cs x h hw
    exact ⟨z, e, trivial⟩) fuel _ _ hf hwt
  simp only [Value.cells, List.cons.injEq, and_true] at e
  refine ⟨xs, A, c, e, ⟨by simp, fun k u hu => ?_⟩, h2⟩
  rw [List.getElem?_map, Option.map_eq_some_iff] at hu
  obtain ⟨z, hz, rfl⟩ := hu
  obtain ⟨a, cs, rfl, hb, hc, rfl⟩ := h1.at_ hz
  exact ⟨a, rfl, hb, by simpa [RIn] using hc 0 _ rfl⟩
end
theorem RdS.to7 {F : Nat → Prop} {w : World} {A : Option Addr} {c : Nat} {ls : List To} (h : RdS RTo F w A c ls) {k : Nat} {o : To} (hk : ls[k]? = some o) :
    ∃ x B d, A = some x ∧ x.block < w.heap.size ∧ w.cell? (x.add (k * 7)) = some (.int .i64 o.what) ∧ w.cell? ⟨(x.add (k * 7)).block, (x.add (k * 7)).off + 1, none⟩ = some (.int .i64 o.own) ∧
      w.cell? ⟨(x.add (k * 7)).block, (x.add (k * 7)).off + 2, none⟩ = some (.int .i64 o.born) ∧ w.cell? ⟨(x.add (k * 7)).block, (x.add (k * 7)).off + 3, none⟩ = some (.int .i64 o.n) ∧
      w.cell? ⟨(x.add (k * 7)).block, (x.add (k * 7)).off + 4, none⟩ = some (.string ⟨o.path.toArray⟩) ∧ w.cell? ⟨(x.add (k * 7)).block, (x.add (k * 7)).off + 5, none⟩ = some (.slice B o.data.length d) ∧
      w.cell? ⟨(x.add (k * 7)).block, (x.add (k * 7)).off + 6, none⟩ = some (.bool o.numd) ∧ BF F w B d o.data := by
  obtain ⟨x, cs, e, hb, hc, B, d, rfl, hB⟩ := h.at_ hk
  refine ⟨x, B, d, e, hb, hc 0 _ rfl, ?_, ?_, ?_, ?_, ?_, ?_, hB⟩
  · rw [← add_at x (k * 7) 1 (by omega)]; exact hc 1 _ rfl
  · rw [← add_at x (k * 7) 2 (by omega)]; exact hc 2 _ rfl
  · rw [← add_at x (k * 7) 3 (by omega)]; exact hc 3 _ rfl
  · rw [← add_at x (k * 7) 4 (by omega)]; exact hc 4 _ rfl
  · rw [← add_at x (k * 7) 5 (by omega)]; exact hc 5 _ rfl
  · rw [← add_at x (k * 7) 6 (by omega)]; exact hc 6 _ rfl
end Go.Proofs.YtgppclmofphlfaaGreatDoor
