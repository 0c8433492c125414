/-
  What the walks are told of a script of calls that came in. Plain lemmas on the reading of arguments; no statement.
-/
import Derived.Test.YtcibjdodkcfpeaaOpenL
namespace Go.Proofs.Ytcibjdodkcfpeaa
open Go.ChangeShapes Go.WideShapes Go.ChangeAt Go.RowKit Go.Deep
set_option linter.unusedVariables false

/-- a call of a script -/
structure Call where
  what : Int
  area : Int
  n : Int
  parts : List (List UInt8)
  areas : List Int

theorem open_nums_at {H : Type} {enc : TypeId × Value → H} {W : World} {a0 : Option Addr} {len0 cap0 : Nat} {d : DataW H} {p : List MemPlace}
    (h : DataW.Trod enc Try.prog W 0 (fun _ => true) true 34 (.slice a0 len0 cap0) d p) (hwt : ∀ m ∈ d.weights Try.prog 34, m ≤ reachBytes) : ∃ l, InI W (.slice a0 len0 cap0) l ∧ l.length ≤ 140737488355328 := by
  obtain ⟨fuel, hf⟩ := h
  rcases open_ints Try.underlying34 Try.underlying3 (by kernel_rfl) hf with ⟨hcs, _⟩ | ⟨x, l, c, zs, hcs, _, hl, hm, hz, hdat, hcell, hwz⟩
  · simp [Value.cells] at hcs
    obtain ⟨rfl, rfl, rfl⟩ := hcs
    exact ⟨[], ⟨_, _, _, rfl, by omega, by simp [maxLen], Rd.nil_ _ _, by simp, fun _ => rfl⟩, by simp⟩
  · simp [Value.cells] at hcs
    obtain ⟨rfl, rfl, rfl⟩ := hcs
    simp only [if_true] at hz
    refine ⟨zs.take len0, ⟨_, _, _, rfl, hl, hm, rd_of_cells (by omega) hcell, fun n hn => hwz n (List.mem_of_mem_take hn), fun h => by cases h⟩, ?_⟩
    have hd0 : d = _ := congrArg Prod.fst hdat
    subst hd0
    have hb1 : Try.prog.bytesOf 3 = 8 := by kernel_rfl
    have h7 := hwt (cap0 * 8) (by
      simp only [DataW.weights, Try.underlying34, List.mem_cons, hb1]
      left
      simp [lits]
      omega)
    have := reachBytes_lt
    rw [List.length_take]
    omega
/-- numbers that came in, no more than the form's reach -/
def InIs (w : World) (v : Value) (l : List Int) : Prop := InI w v l ∧ l.length ≤ 17592186044416
theorem open_nums_sz {H : Type} {enc : TypeId × Value → H} {W : World} {base : Nat} {v : Value} {d : DataW H} {p : List MemPlace}
    (hv : Value.okWide Try.prog W .any base 34 v) (h : DataW.Trod enc Try.prog W 0 (fun _ => true) true 34 v d p) (hwt : ∀ m ∈ d.weights Try.prog 34, m ≤ reachBytes) : ∃ l, InIs W v l := by
  obtain ⟨a0, len0, cap0, rfl⟩ := okWide_slice Try.underlying34 hv
  obtain ⟨fuel, hf⟩ := h
  rcases open_ints Try.underlying34 Try.underlying3 (by kernel_rfl) hf with ⟨hcs, _⟩ | ⟨x, l, c, zs, hcs, _, hl, hm, hz, hdat, hcell, hwz⟩
  · simp [Value.cells] at hcs
    obtain ⟨rfl, rfl, rfl⟩ := hcs
    exact ⟨[], ⟨_, _, _, rfl, by omega, by simp [maxLen], Rd.nil_ _ _, by simp, fun _ => rfl⟩, by simp⟩
  · simp [Value.cells] at hcs
    obtain ⟨rfl, rfl, rfl⟩ := hcs
    simp only [if_true] at hz
    refine ⟨zs.take len0, ⟨_, _, _, rfl, hl, hm, rd_of_cells (by omega) hcell, fun n hn => hwz n (List.mem_of_mem_take hn), fun h => by cases h⟩, ?_⟩
    have hd0 : d = _ := congrArg Prod.fst hdat
    subst hd0
    have hb1 : Try.prog.bytesOf 3 = 8 := by kernel_rfl
    have h7 := hwt (cap0 * 8) (by
      simp only [DataW.weights, Try.underlying34, List.mem_cons, hb1]
      left
      simp [lits]
      omega)
    have := reachBytes_lt
    rw [List.length_take]
    omega
/-- five cells that read as a call -/
def CallAt (w : World) (a : Addr) (o : Call) : Prop :=
  ∃ B p pc C q qc, w.cell? (a.add 0) = some (.int .i64 o.what) ∧ w.cell? (a.add 1) = some (.int .i64 o.area) ∧ w.cell? (a.add 2) = some (.int .i64 o.n) ∧ w.cell? (a.add 3) = some (.slice B p pc) ∧ w.cell? (a.add 4) = some (.slice C q qc) ∧
    (Lit.int .i64 o.what).wf = true ∧ (Lit.int .i64 o.area).wf = true ∧ (Lit.int .i64 o.n).wf = true ∧ InR w (.slice B p pc) o.parts ∧ InI w (.slice C q qc) o.areas ∧ o.areas.length ≤ 140737488355328
theorem cells_call : Try.prog.cellsOf 36 = 5 := by kernel_rfl
theorem cells_int' : Try.prog.cellsOf 3 = 1 := by kernel_rfl
theorem cells_ints : Try.prog.cellsOf 34 = 1 := by kernel_rfl
theorem cells_rows' : Try.prog.cellsOf 33 = 1 := by kernel_rfl
theorem open_call {H : Type} {enc : TypeId × Value → H} {W : World} {a : Addr} {cs : List Value} {fuel : Nat} {x : DataW H × List MemPlace} (hc : W.cells? 0 a 5 = some cs)
    (hf : DataW.trod enc Try.prog W 0 (fun _ => true) true fuel 36 cs = some x) (hwt : ∀ m ∈ x.1.weights Try.prog 36, m ≤ reachBytes) : ∃ o, CallAt W a o := by
  obtain ⟨xs, n, _, hd, hl, hlen, hx⟩ := DataW.trod_struct Try.underlying36 hf
  obtain ⟨_, _, hat⟩ := World.cells?_some hc
  match xs, hlen with
  | [y0, y1, y2, y3, y4], _ =>
    have f0 := hx 0 _ rfl
    have f1 := hx 1 _ rfl
    have f2 := hx 2 _ rfl
    have f3 := hx 3 _ rfl
    have f4 := hx 4 _ rfl
    simp only [List.getElem?_cons_zero, List.getElem?_cons_succ] at f0 f1 f2 f3 f4
    obtain ⟨z0, e0, _, w0⟩ := DataW.trod_int Try.underlying3 f0
    obtain ⟨z1, e1, _, w1⟩ := DataW.trod_int Try.underlying3 f1
    obtain ⟨z2, e2, _, w2⟩ := DataW.trod_int Try.underlying3 f2
    have e0 : (cs.drop 0).take (Try.prog.cellsOf 3) = _ := e0
    have e1 : (cs.drop 1).take (Try.prog.cellsOf 3) = _ := e1
    have e2 : (cs.drop 2).take (Try.prog.cellsOf 3) = _ := e2
    have f3 : DataW.trod enc Try.prog W 0 (fun _ => true) true n 33 ((cs.drop 3).take (Try.prog.cellsOf 33)) = _ := f3
    have f4 : DataW.trod enc Try.prog W 0 (fun _ => true) true n 34 ((cs.drop 4).take (Try.prog.cellsOf 34)) = _ := f4
    rw [cells_int'] at e0 e1 e2
    rw [cells_rows'] at f3
    rw [cells_ints] at f4
    have hdw : ∀ m, m ∈ y3.1.weights Try.prog 33 → m ≤ reachBytes := by
      intro m hm
      refine hwt m ?_
      have hd0 : x.1 = .agg [y0.1, y1.1, y2.1, y3.1, y4.1] := congrArg Prod.fst hd
      rw [hd0]
      simp only [DataW.weights, Try.underlying36]
      exact DataW.weights_mem_each (j := 3) rfl rfl m hm
    have hdw4 : ∀ m, m ∈ y4.1.weights Try.prog 34 → m ≤ reachBytes := by
      intro m hm
      refine hwt m ?_
      have hd0 : x.1 = .agg [y0.1, y1.1, y2.1, y3.1, y4.1] := congrArg Prod.fst hd
      rw [hd0]
      simp only [DataW.weights, Try.underlying36]
      exact DataW.weights_mem_each (j := 4) rfl rfl m hm
    have s3 : ∃ A n c, (cs.drop 3).take 1 = [.slice A n c] := by
      rcases DataW.trod_slice Try.underlying33 f3 with ⟨e, _⟩ | ⟨a, len, cap, _, _, _, _, e, _⟩
      · exact ⟨_, _, _, e⟩
      · exact ⟨_, _, _, e⟩
    have s4 : ∃ A n c, (cs.drop 4).take 1 = [.slice A n c] := by
      rcases DataW.trod_slice Try.underlying34 f4 with ⟨e, _⟩ | ⟨a, len, cap, _, _, _, _, e, _⟩
      · exact ⟨_, _, _, e⟩
      · exact ⟨_, _, _, e⟩
    obtain ⟨B, p, pc, e3⟩ := s3
    obtain ⟨C, q, qc, e4⟩ := s4
    have g3 : ∃ l, InR W (.slice B p pc) l := open_rows_at (enc := enc) (d := y3.1) (p := y3.2) ⟨n, by
      have q := f3
      rw [e3] at q
      simpa [Value.cells] using q⟩ hdw
    have g4 : ∃ l, InI W (.slice C q qc) l ∧ l.length ≤ 140737488355328 := open_nums_at (enc := enc) (d := y4.1) (p := y4.2) ⟨n, by
      have q := f4
      rw [e4] at q
      simpa [Value.cells] using q⟩ hdw4
    obtain ⟨parts, hp⟩ := g3
    obtain ⟨areas, ha⟩ := g4
    exact ⟨⟨z0, z1, z2, parts, areas⟩, B, p, pc, C, q, qc, (hat 0 (by decide)).trans (take_one e0), (hat 1 (by decide)).trans (take_one e1), (hat 2 (by decide)).trans (take_one e2), (hat 3 (by decide)).trans (take_one e3), (hat 4 (by decide)).trans (take_one e4), w0, w1, w2, hp, ha⟩
/-- the slice (A, n) reads as calls -/
def RdCalls (w : World) (A : Option Addr) (n : Nat) (ops : List Call) : Prop :=
  ops.length = n ∧ ∀ (k : Nat) (o : Call), ops[k]? = some o → ∃ a, A = some a ∧ a.block < w.heap.size ∧ CallAt w (a.add (k * 5)) o
/-- a script that came in -/
def InCalls (w : World) (v : Value) (ops : List Call) : Prop := ∃ A n c, v = .slice A n c ∧ n ≤ c ∧ c ≤ maxLen ∧ RdCalls w A n ops ∧ (A = none → c = 0)
theorem open_calls {H : Type} {enc : TypeId × Value → H} {W : World} {base : Nat} {v : Value} {d : DataW H} {p : List MemPlace}
    (hv : Value.okWide Try.prog W .any base 22 v) (h : DataW.Trod enc Try.prog W 0 (fun _ => true) true 22 v d p)
    (hwt : ∀ m ∈ d.weights Try.prog 22, m ≤ reachBytes) : ∃ ops, InCalls W v ops := by
  obtain ⟨a0, len0, cap0, rfl⟩ := okWide_slice Try.underlying22 hv
  obtain ⟨fuel, hf⟩ := h
  rcases open_slice Try.underlying22 hf with ⟨hcs, _⟩ | ⟨a, len, cap, m, n, D, Pl, hcs, _, hl, hm, hmm, hx, hi⟩
  · simp [Value.cells] at hcs
    obtain ⟨rfl, rfl, rfl⟩ := hcs
    exact ⟨[], _, _, _, rfl, by omega, by simp [maxLen], ⟨rfl, fun k o h => by simp at h⟩, fun _ => rfl⟩
  · simp [Value.cells] at hcs
    obtain ⟨rfl, rfl, rfl⟩ := hcs
    simp only [if_true] at hmm
    have hd0 : d = .slice ((List.range len0).map D) ((List.range (m - len0)).map fun j => D (len0 + j)) := congrArg Prod.fst hx
    subst hmm
    rw [cells_call] at hi
    have each : ∀ r, r < len0 → ∃ o, CallAt W (a.add (r * 5)) o := by
      intro r hr
      obtain ⟨cs', hc, ht⟩ := hi r (by omega)
      refine open_call hc ht fun m hm => hwt m ?_
      rw [hd0]
      simp only [DataW.weights, Try.underlying22, List.mem_cons, List.mem_append]
      exact .inr (.inl (weights_all_mem (List.mem_map.2 ⟨r, by simpa using hr, rfl⟩) m hm))
    have pick : ∀ m, m ≤ len0 → ∃ ops : List Call, ops.length = m ∧ ∀ (k : Nat) (o : Call), ops[k]? = some o → CallAt W (a.add (k * 5)) o := by
      intro m
      induction m with
      | zero => intro _; exact ⟨[], rfl, fun k l h => by simp at h⟩
      | succ m ih =>
        intro hm'
        obtain ⟨ops, h1, h2⟩ := ih (by omega)
        obtain ⟨o, ho⟩ := each m (by omega)
        refine ⟨ops ++ [o], by simp [h1], fun k o' hk => ?_⟩
        rcases Nat.lt_or_ge k ops.length with hlt | hge
        · rw [List.getElem?_append_left hlt] at hk; exact h2 k o' hk
        · rw [List.getElem?_append_right hge] at hk
          have hk0 : k = m := by
            have := (List.getElem?_eq_some_iff.1 hk).1
            simp at this; omega
          subst hk0
          simp [h1] at hk
          rw [← hk]; exact ho
    obtain ⟨ops, h1, h2⟩ := pick len0 (Nat.le_refl _)
    refine ⟨ops, _, _, _, rfl, hl, hm, ⟨h1, fun k o hk => ⟨a, rfl, ?_, h2 k o hk⟩⟩, fun h => by cases h⟩
    obtain ⟨B, p, pc, C, q, qc, c0, _⟩ := h2 k o hk
    have := cell_lt c0
    rwa [add_block, add_block] at this
end Go.Proofs.Ytcibjdodkcfpeaa
