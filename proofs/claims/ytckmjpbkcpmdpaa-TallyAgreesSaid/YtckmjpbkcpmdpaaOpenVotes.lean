/-
  What the walks are told of votes that came in. Plain lemmas on the reading of arguments; no statement.
-/
import Derived.Test.YtckmjpbkcpmdpaaMOpen
namespace Go.Proofs.Ytckmjpbkcpmdpaa
open Go.ChangeShapes Go.WideShapes Go.ChangeAt Go.RowKit Go.Deep
set_option linter.unusedVariables false
set_option maxRecDepth 100000

/-- a vote of a script -/
structure Ov where
  voter : Int
  rank : Int
  key : List UInt8
  load : List UInt8
/-- bytes that came in, no more than the form's reach -/
def InBz (w : World) (v : Value) (l : List UInt8) : Prop := InB w v l ∧ l.length ≤ 140737488355328
/-- four cells that read as a vote -/
def OvAt (w : World) (a : Addr) (o : Ov) : Prop :=
  ∃ B p pc C q qc, w.cell? (a.add 0) = some (.int .i64 o.voter) ∧ w.cell? (a.add 1) = some (.int .i64 o.rank) ∧ w.cell? (a.add 2) = some (.slice B p pc) ∧ w.cell? (a.add 3) = some (.slice C q qc) ∧
    (Lit.int .i64 o.voter).wf = true ∧ (Lit.int .i64 o.rank).wf = true ∧ InBz w (.slice B p pc) o.key ∧ InBz w (.slice C q qc) o.load
theorem cells_ov : Try.prog.cellsOf 33 = 4 := by kernel_rfl
theorem cells_int7 : Try.prog.cellsOf 3 = 1 := by kernel_rfl
theorem cells_bytes7 : Try.prog.cellsOf 31 = 1 := by kernel_rfl
theorem open_ov {H : Type} {enc : TypeId × Value → H} {W : World} {a : Addr} {cs : List Value} {fuel : Nat} {x : DataW H × List MemPlace} (hc : W.cells? 0 a 4 = some cs)
    (hf : DataW.trod enc Try.prog W 0 (fun _ => true) true fuel 33 cs = some x) (hwt : ∀ m ∈ x.1.weights Try.prog 33, m ≤ reachBytes) : ∃ o, OvAt W a o := by
  obtain ⟨xs, n, _, hd, hl, hlen, hx⟩ := DataW.trod_struct Try.underlying33 hf
  obtain ⟨_, _, hat⟩ := World.cells?_some hc
  match xs, hlen with
  | [y0, y1, y2, y3], _ =>
    have f0 := hx 0 _ rfl
    have f1 := hx 1 _ rfl
    have f2 := hx 2 _ rfl
    have f3 := hx 3 _ rfl
    simp only [List.getElem?_cons_zero, List.getElem?_cons_succ] at f0 f1 f2 f3
    obtain ⟨z0, e0, _, w0⟩ := DataW.trod_int Try.underlying3 f0
    obtain ⟨z1, e1, _, w1⟩ := DataW.trod_int Try.underlying3 f1
    have e0 : (cs.drop 0).take (Try.prog.cellsOf 3) = _ := e0
    have e1 : (cs.drop 1).take (Try.prog.cellsOf 3) = _ := e1
    have f2 : DataW.trod enc Try.prog W 0 (fun _ => true) true n 31 ((cs.drop 2).take (Try.prog.cellsOf 31)) = _ := f2
    have f3 : DataW.trod enc Try.prog W 0 (fun _ => true) true n 31 ((cs.drop 3).take (Try.prog.cellsOf 31)) = _ := f3
    rw [cells_int7] at e0 e1
    rw [cells_bytes7] at f2 f3
    have hdw : ∀ (j : Nat) (y : DataW H × List MemPlace), [y0, y1, y2, y3][j]? = some y → ([3, 3, 31, 31] : List TypeId)[j]? = some 31 → ∀ m, m ∈ y.1.weights Try.prog 31 → m ≤ reachBytes := by
      intro j y hj ht m hm
      refine hwt m ?_
      have hd0 : x.1 = .agg [y0.1, y1.1, y2.1, y3.1] := congrArg Prod.fst hd
      rw [hd0]
      simp only [DataW.weights, Try.underlying33]
      match j, hj, ht with
      | 0, hj, ht => simp at ht
      | 1, hj, ht => simp at ht
      | 2, hj, ht =>
        obtain rfl := Option.some.inj hj
        exact DataW.weights_mem_each (j := 2) rfl rfl m hm
      | 3, hj, ht =>
        obtain rfl := Option.some.inj hj
        exact DataW.weights_mem_each (j := 3) rfl rfl m hm
    have s2 : ∃ A n c, (cs.drop 2).take 1 = [.slice A n c] := by
      rcases DataW.trod_slice Try.underlying31 f2 with ⟨e, _⟩ | ⟨a, len, cap, _, _, _, _, e, _⟩
      · exact ⟨_, _, _, e⟩
      · exact ⟨_, _, _, e⟩
    have s3 : ∃ A n c, (cs.drop 3).take 1 = [.slice A n c] := by
      rcases DataW.trod_slice Try.underlying31 f3 with ⟨e, _⟩ | ⟨a, len, cap, _, _, _, _, e, _⟩
      · exact ⟨_, _, _, e⟩
      · exact ⟨_, _, _, e⟩
    obtain ⟨B, p, pc, e2⟩ := s2
    obtain ⟨C, q, qc, e3⟩ := s3
    have g2 : ∃ l, InBz W (.slice B p pc) l := open_bytes_sz_at (enc := enc) (d := y2.1) (p := y2.2) ⟨n, by
      have q := f2
      rw [e2] at q
      simpa [Value.cells] using q⟩ (hdw 2 _ rfl rfl)
    have g3 : ∃ l, InBz W (.slice C q qc) l := open_bytes_sz_at (enc := enc) (d := y3.1) (p := y3.2) ⟨n, by
      have q := f3
      rw [e3] at q
      simpa [Value.cells] using q⟩ (hdw 3 _ rfl rfl)
    obtain ⟨key, hk⟩ := g2
    obtain ⟨load, hl⟩ := g3
    exact ⟨⟨z0, z1, key, load⟩, B, p, pc, C, q, qc, (hat 0 (by decide)).trans (take_one e0), (hat 1 (by decide)).trans (take_one e1), (hat 2 (by decide)).trans (take_one e2), (hat 3 (by decide)).trans (take_one e3), w0, w1, hk, hl⟩
/-- the slice (A, n) reads as votes -/
def RdOvs (w : World) (A : Option Addr) (n : Nat) (ops : List Ov) : Prop :=
  ops.length = n ∧ ∀ (k : Nat) (o : Ov), ops[k]? = some o → ∃ a, A = some a ∧ a.block < w.heap.size ∧ OvAt w (a.add (k * 4)) o
/-- votes that came in -/
def InOvs (w : World) (v : Value) (ops : List Ov) : Prop := ∃ A n c, v = .slice A n c ∧ n ≤ c ∧ c ≤ maxLen ∧ RdOvs w A n ops ∧ (A = none → c = 0)
theorem open_ovs {H : Type} {enc : TypeId × Value → H} {W : World} {base : Nat} {v : Value} {d : DataW H} {p : List MemPlace}
    (hv : Value.okWide Try.prog W .any base 22 v) (h : DataW.Trod enc Try.prog W 0 (fun _ => true) true 22 v d p)
    (hwt : ∀ m ∈ d.weights Try.prog 22, m ≤ reachBytes) : ∃ ops, InOvs W v ops := by
  obtain ⟨a0, len0, cap0, rfl⟩ := okWide_slice Try.underlying22 hv
  obtain ⟨fuel, hf⟩ := h
  rcases open_slice Try.underlying22 hf with ⟨hcs, _⟩ | ⟨a, len, cap, m, n, D, Pl, hcs, _, hl, hm, hmm, hx, hi⟩
  · simp [Value.cells] at hcs
    obtain ⟨rfl, rfl, rfl⟩ := hcs
    exact ⟨[], _, _, _, rfl, by omega, by simp [maxLen], ⟨rfl, fun k o h => by simp at h⟩, fun _ => rfl⟩
  · simp [Value.cells] at hcs
    obtain ⟨rfl, rfl, rfl⟩ := hcs
    simp only [if_true] at hmm
    have hd0 : d = .slice ((List.range len0).map D) ((List.range (m - len0)).map fun j => D (len0 + j)) := congrArg Prod.fst hx
    subst hmm
    rw [cells_ov] at hi
    have each : ∀ r, r < len0 → ∃ o, OvAt W (a.add (r * 4)) o := by
      intro r hr
      obtain ⟨cs', hc, ht⟩ := hi r (by omega)
      refine open_ov hc ht fun m hm => hwt m ?_
      rw [hd0]
      simp only [DataW.weights, Try.underlying22, List.mem_cons, List.mem_append]
      exact .inr (.inl (weights_all_mem (List.mem_map.2 ⟨r, by simpa using hr, rfl⟩) m hm))
    have pick : ∀ m, m ≤ len0 → ∃ ops : List Ov, ops.length = m ∧ ∀ (k : Nat) (o : Ov), ops[k]? = some o → OvAt W (a.add (k * 4)) o := by
      intro m
      induction m with
      | zero => intro _; exact ⟨[], rfl, fun k l h => by simp at h⟩
      | succ m ih =>
        intro hm'
        obtain ⟨ops, h1, h2⟩ := ih (by omega)
        obtain ⟨o, ho⟩ := each m (by omega)
        refine ⟨ops ++ [o], by simp [h1], fun k o' hk => ?_⟩
        rcases Nat.lt_or_ge k ops.length with hlt | hge
        · rw [List.getElem?_append_left hlt] at hk; exact h2 k o' hk
        · rw [List.getElem?_append_right hge] at hk
          have hk0 : k = m := by
            have := (List.getElem?_eq_some_iff.1 hk).1
            simp at this; omega
          subst hk0
          simp [h1] at hk
          rw [← hk]; exact ho
    obtain ⟨ops, h1, h2⟩ := pick len0 (Nat.le_refl _)
    refine ⟨ops, _, _, _, rfl, hl, hm, ⟨h1, fun k o hk => ⟨a, rfl, ?_, h2 k o hk⟩⟩, fun h => by cases h⟩
    obtain ⟨B, p, pc, C, q, qc, c0, _⟩ := h2 k o hk
    have := cell_lt c0
    rwa [add_block, add_block] at this
end Go.Proofs.Ytckmjpbkcpmdpaa
