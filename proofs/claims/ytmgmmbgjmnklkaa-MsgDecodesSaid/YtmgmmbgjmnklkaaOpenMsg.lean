/-
  What the walks are told of messages, letters and entries that came in. Plain lemmas on the reading of arguments; no statement.
-/
import Derived.Test.YtmgmmbgjmnklkaaMOpen
import Derived.Test.YtmgmmbgjmnklkaaMsgCopy3
namespace Go.Proofs.Ytmgmmbgjmnklkaa
set_option maxRecDepth 100000
open Go.ChangeShapes Go.WideShapes Go.ChangeAt Go.RowKit Go.Deep
set_option linter.unusedVariables false

/-- every reading of cells at a type says this of them -/
def Opens {H : Type} (enc : TypeId × Value → H) (W : World) (t : TypeId) (R : List Value → Prop) : Prop :=
  ∀ (fuel : Nat) (cs : List Value) (x : DataW H × List MemPlace), DataW.trod enc Try.prog W 0 (fun _ => true) true fuel t cs = some x → (∀ m ∈ x.1.weights Try.prog t, m ≤ reachBytes) → R cs
section
variable {H : Type} {enc : TypeId × Value → H} {W : World}
theorem opens_field {t : TypeId} {fs : Array Field} (ht : Try.prog.underlying t = some (.struct fs)) {fuel : Nat} {cs : List Value} {x : DataW H × List MemPlace}
    (h : DataW.trod enc Try.prog W 0 (fun _ => true) true fuel t cs = some x) (hw : ∀ m ∈ x.1.weights Try.prog t, m ≤ reachBytes) (i : Nat) {f : Field} (hf : fs[i]? = some f) {R : List Value → Prop} (ho : Opens enc W f.type R) :
    R ((cs.drop f.offset).take (Try.prog.cellsOf f.type)) := by
  obtain ⟨xs, n, _, hd, hl, hlen, hx⟩ := DataW.trod_struct ht h
  have hi : i < xs.length := by rw [hlen]; exact (Array.getElem?_eq_some_iff.1 hf).1
  have h1 := hx i f hf
  rw [List.getElem?_eq_getElem hi] at h1
  refine ho _ _ _ h1 fun m hm => hw m ?_
  rw [hd]
  simp only [DataW.weights, ht]
  refine DataW.weights_mem_each (j := i) (t := f.type) (d := xs[i].1) ?_ ?_ m hm
  · rw [List.getElem?_map]
    simp [hf]
  · rw [List.getElem?_map, List.getElem?_eq_getElem hi]
    rfl
theorem struct_len {t : TypeId} {fs : Array Field} (ht : Try.prog.underlying t = some (.struct fs)) {fuel : Nat} {cs : List Value} {x : DataW H × List MemPlace}
    (h : DataW.trod enc Try.prog W 0 (fun _ => true) true fuel t cs = some x) : cs.length = Try.prog.cellsOf t := by
  obtain ⟨xs, n, _, hd, hl, hlen, hx⟩ := DataW.trod_struct ht h
  exact hl
theorem opens_int : Opens enc W 3 fun cs => ∃ z, cs = [.int .i64 z] ∧ I64 z := by
  intro fuel cs x h _
  obtain ⟨z, e, _, hw⟩ := DataW.trod_int Try.underlying3 h
  refine ⟨z, e, ?_⟩
  simpa [Lit.wf, IntKind.min, IntKind.max, IntKind.signed, IntKind.bits, I64] using hw
theorem opens_bytes : Opens enc W 22 fun cs => ∃ l, RB.rd AllB W cs l ∧ l.length ≤ 140737488355328 := by
  intro fuel cs x h hw
  have hs : ∃ A n c, cs = [.slice A n c] := by
    rcases DataW.trod_slice Try.underlying22 h with ⟨e, _⟩ | ⟨a, len, cap, _, _, _, _, e, _⟩
    · exact ⟨_, _, _, e⟩
    · exact ⟨_, _, _, e⟩
  obtain ⟨A, n, c, rfl⟩ := hs
  obtain ⟨l, ⟨A', n', c', e, h1, h2, h3, h4⟩, hl⟩ := open_bytes_sz_at (enc := enc) (a0 := A) (len0 := n) (cap0 := c) (d := x.1) (p := x.2) ⟨fuel, by simpa [Value.cells] using h⟩ hw
  injection e with e1 e2 e3
  subst e1 e2 e3
  have hn : l.length = n := by simpa using h3.1
  subst hn
  exact ⟨l, ⟨A, c, rfl, ⟨h1, h2, h3, h4⟩, fun _ _ _ => trivial⟩, hl⟩
theorem opens_slice {α : Type} (R : Rdr α) (P : α → Prop) {t e : TypeId} {b : Nat} (ht : Try.prog.underlying t = some (.slice e)) (hc : Try.prog.cellsOf e = R.sz) (hsz : 0 < R.sz) (hb : Try.prog.bytesOf e = b)
    (he : Opens enc W e fun cs => ∃ x, R.rd AllB W cs x ∧ P x) :
    Opens enc W t fun cs => ∃ A c xs, cs = [.slice A xs.length c] ∧ RdS R AllB W A c xs ∧ xs.length * b ≤ 140737488355328 ∧ ∀ x ∈ xs, P x := by
  intro fuel cs x h hw
  rcases open_slice ht h with ⟨rfl, _⟩ | ⟨a, len, cap, m, n, D, Pl, rfl, _, hl, hm, hmm, hx, hi⟩
  · exact ⟨none, 0, [], rfl, RdS.nil_ _ _ _, by simp, by simp⟩
  · simp only [if_true] at hmm
    subst hmm
    have hd0 : x.1 = .slice ((List.range len).map D) ((List.range (m - len)).map fun j => D (len + j)) := congrArg Prod.fst hx
    rw [hc] at hi
    have hbig : len * b ≤ 140737488355328 := by
      have := hw ((len + (m - len)) * b) (by
        rw [hd0]
        simp only [DataW.weights, ht, List.mem_cons, hb]
        left
        simp)
      have h2 := reachBytes_lt
      have h3 : len * b ≤ (len + (m - len)) * b := Nat.mul_le_mul_right _ (by omega)
      omega
    have each : ∀ r, r < len → ∃ (cs : List Value) (y : α), (∀ j u, cs[j]? = some u → W.cell? ((a.add (r * R.sz)).add j) = some u) ∧ R.rd AllB W cs y ∧ P y := by
      intro r hr
      obtain ⟨cs', hcs, htr⟩ := hi r (by omega)
      obtain ⟨_, hlen, hat⟩ := World.cells?_some hcs
      obtain ⟨y, hy, hp⟩ := he _ _ _ htr fun m' hm' => hw m' (by
        rw [hd0]
        simp only [DataW.weights, ht, List.mem_cons, List.mem_append]
        exact .inr (.inl (weights_all_mem (List.mem_map.2 ⟨r, by simpa using hr, rfl⟩) m' hm')))
      refine ⟨cs', y, fun j u hj => ?_, hy, hp⟩
      have hjl := (List.getElem?_eq_some_iff.1 hj).1
      rw [hat j (by omega)]
      exact hj
    have pick : ∀ m, m ≤ len → ∃ xs : List α, xs.length = m ∧ (∀ (k : Nat) (y : α), xs[k]? = some y → ∃ cs : List Value, (∀ j u, cs[j]? = some u → W.cell? ((a.add (k * R.sz)).add j) = some u) ∧ R.rd AllB W cs y) ∧ ∀ y ∈ xs, P y := by
      intro m
      induction m with
      | zero => intro _; exact ⟨[], rfl, fun k l h => by simp at h, by simp⟩
      | succ m ih =>
        intro hm'
        obtain ⟨xs, h1, h2, h3⟩ := ih (by omega)
        obtain ⟨cs, y, hy1, hy2, hy3⟩ := each m (by omega)
        refine ⟨xs ++ [y], by simp [h1], fun k o' hk => ?_, fun z hz => ?_⟩
        · rcases Nat.lt_or_ge k xs.length with hlt | hge
          · rw [List.getElem?_append_left hlt] at hk; exact h2 k o' hk
          · rw [List.getElem?_append_right hge] at hk
            have hk0 : k = m := by
              have := (List.getElem?_eq_some_iff.1 hk).1
              simp at this; omega
            subst hk0
            simp [h1] at hk
            subst hk
            exact ⟨cs, hy1, hy2⟩
        · rcases List.mem_append.1 hz with hz | hz
          · exact h3 z hz
          · obtain rfl := List.mem_singleton.1 hz
            exact hy3
    obtain ⟨xs, h1, h2, h3⟩ := pick len (Nat.le_refl _)
    refine ⟨some a, m, xs, by rw [h1], ⟨by omega, hm, (fun e => by cases e), fun k y hy => ?_⟩, by rw [h1]; exact hbig, h3⟩
    obtain ⟨cs, hc1, hc2⟩ := h2 k y hy
    refine ⟨a, cs, rfl, trivial, ?_, fun j u hj => by have := hc1 j u hj; rwa [add_plus] at this, hc2⟩
    have hcl := R.len hc2
    have hc0 := hc1 0 cs[0] (List.getElem?_eq_getElem (by omega))
    have := cell_lt hc0
    rwa [add_block, add_block] at this
theorem opens_rows : Opens enc W 44 fun cs => ∃ A c xs, cs = [.slice A xs.length c] ∧ RdS RB AllB W A c xs ∧ xs.length * 24 ≤ 140737488355328 ∧ ∀ x ∈ xs, x.length ≤ 140737488355328 :=
  opens_slice RB (fun l => l.length ≤ 140737488355328) (e := 22) Try.underlying44 (by kernel_rfl) (by decide) (by kernel_rfl) opens_bytes
theorem opens_id : Opens enc W 43 fun cs => ∃ a b, cs = [.int .i64 a, .int .i64 b] := by
  intro fuel cs x h _
  obtain ⟨a, e, _, _⟩ := open_id_cells h
  exact ⟨a.1, a.2, e⟩
theorem opens_letter : Opens enc W 46 fun cs => ∃ l, RLt.rd AllB W cs l ∧ l.big := by
  intro fuel cs x h hw
  have hl : cs.length = 5 := by rw [struct_len Try.underlying46 h]; kernel_rfl
  obtain ⟨a, b, g0⟩ := opens_field Try.underlying46 h hw 0 rfl opens_id
  obtain ⟨r, g1, _⟩ := opens_field Try.underlying46 h hw 1 rfl opens_int
  obtain ⟨body, ⟨A, c, g2, hb⟩, hn⟩ := opens_field Try.underlying46 h hw 2 rfl opens_bytes
  obtain ⟨B, d, tags, g3, ht, hs⟩ := opens_field Try.underlying46 h hw 3 rfl opens_rows
  have g0 : (cs.drop 0).take (Try.prog.cellsOf 43) = _ := g0
  have g1 : (cs.drop 2).take (Try.prog.cellsOf 3) = _ := g1
  have g2 : (cs.drop 3).take (Try.prog.cellsOf 22) = _ := g2
  have g3 : (cs.drop 4).take (Try.prog.cellsOf 44) = _ := g3
  rw [cells_id] at g0
  rw [cells_int] at g1
  rw [cells_bytes] at g2
  rw [cells_rows] at g3
  refine ⟨⟨a, b, r, body, tags⟩, ⟨A, c, B, d, ?_, hb, ht⟩, hn, hs⟩
  match cs, hl with
  | [_, _, _, _, _], _ =>
    simp at g0 g1 g2 g3
    simp [g0, g1, g2, g3]
theorem opens_letters : Opens enc W 25 fun cs => ∃ A c xs, cs = [.slice A xs.length c] ∧ RdS RLt AllB W A c xs ∧ ltsBig xs :=
  fun fuel cs x h hw => by
    obtain ⟨A, c, xs, e, h1, h2, h3⟩ := opens_slice RLt Lt.big (b := 72) (e := 46) Try.underlying25 (by kernel_rfl) (by decide) (by kernel_rfl) opens_letter fuel cs x h hw
    exact ⟨A, c, xs, e, h1, h2, h3⟩
theorem opens_entry : Opens enc W 24 fun cs => ∃ x, REn.rd AllB W cs x ∧ x.dig.length ≤ 140737488355328 ∧ I64 x.c ∧ I64 x.s ∧ I64 x.t := by
  intro fuel cs x h hw
  have hl : cs.length = 4 := by rw [struct_len Try.underlying24 h]; kernel_rfl
  obtain ⟨a, g0, w0⟩ := opens_field Try.underlying24 h hw 0 rfl opens_int
  obtain ⟨b, g1, w1⟩ := opens_field Try.underlying24 h hw 1 rfl opens_int
  obtain ⟨t, g2, w2⟩ := opens_field Try.underlying24 h hw 2 rfl opens_int
  obtain ⟨dig, ⟨A, c, g3, hb⟩, hn⟩ := opens_field Try.underlying24 h hw 3 rfl opens_bytes
  have g0 : (cs.drop 0).take (Try.prog.cellsOf 3) = _ := g0
  have g1 : (cs.drop 1).take (Try.prog.cellsOf 3) = _ := g1
  have g2 : (cs.drop 2).take (Try.prog.cellsOf 3) = _ := g2
  have g3 : (cs.drop 3).take (Try.prog.cellsOf 22) = _ := g3
  rw [cells_int] at g0 g1 g2
  rw [cells_bytes] at g3
  refine ⟨⟨a, b, t, dig⟩, ⟨A, c, ?_, hb⟩, hn, w0, w1, w2⟩
  match cs, hl with
  | [_, _, _, _], _ =>
    simp at g0 g1 g2 g3
    simp [g0, g1, g2, g3]
theorem cells_entry : Try.prog.cellsOf 24 = 4 := by kernel_rfl
theorem cells_letters : Try.prog.cellsOf 25 = 1 := by kernel_rfl
theorem cells_proven : Try.prog.cellsOf 26 = 1 := by kernel_rfl
theorem opens_pv : Opens enc W 62 fun cs => ∃ x, RPv.rd AllB W cs x ∧ x.big := by
  intro fuel cs x h hw
  have hl : cs.length = 7 := by rw [struct_len Try.underlying62 h]; kernel_rfl
  obtain ⟨a, g0, w0⟩ := opens_field Try.underlying62 h hw 0 rfl opens_int
  obtain ⟨b, g1, w1⟩ := opens_field Try.underlying62 h hw 1 rfl opens_int
  obtain ⟨e, ⟨A, c, g2, hb⟩, hn, _⟩ := opens_field Try.underlying62 h hw 2 rfl opens_entry
  obtain ⟨B, d, votes, g3, ht, hs⟩ := opens_field Try.underlying62 h hw 3 rfl opens_letters
  have g0 : (cs.drop 0).take (Try.prog.cellsOf 3) = _ := g0
  have g1 : (cs.drop 1).take (Try.prog.cellsOf 3) = _ := g1
  have g2 : (cs.drop 2).take (Try.prog.cellsOf 24) = _ := g2
  have g3 : (cs.drop 6).take (Try.prog.cellsOf 25) = _ := g3
  rw [cells_int] at g0 g1
  rw [cells_entry] at g2
  rw [cells_letters] at g3
  refine ⟨⟨a, b, e, votes⟩, ⟨A, c, B, d, ?_, hb, ht⟩, hn, hs⟩
  match cs, hl with
  | [_, _, _, _, _, _, _], _ =>
    simp at g0 g1 g2 g3
    simp [g0, g1, g2, g3]
theorem opens_provens : Opens enc W 26 fun cs => ∃ A c xs, cs = [.slice A xs.length c] ∧ RdS RPv AllB W A c xs ∧ pvsBig xs :=
  fun fuel cs x h hw => by
    obtain ⟨A, c, xs, e, h1, h2, h3⟩ := opens_slice RPv Pv.big (b := 88) (e := 62) Try.underlying26 (by kernel_rfl) (by decide) (by kernel_rfl) opens_pv fuel cs x h hw
    exact ⟨A, c, xs, e, h1, h2, h3⟩
/-- an entry, a letter, a message that came in -/
def InEn (w : World) (v : Value) (x : En) : Prop := ∃ A c, v = .agg #[.int .i64 x.c, .int .i64 x.s, .int .i64 x.t, .slice A x.dig.length c] ∧ BF AllB w A c x.dig ∧ x.dig.length ≤ 140737488355328 ∧ I64 x.c ∧ I64 x.s ∧ I64 x.t
def InLt (w : World) (v : Value) (x : Lt) : Prop := ∃ A c B d, v = .agg #[.int .i64 x.f1, .int .i64 x.f2, .int .i64 x.r, .slice A x.body.length c, .slice B x.tags.length d] ∧ LtR AllB w x A c B d ∧ x.big
def InMg (w : World) (v : Value) (m : Mg) : Prop := ∃ q : Mad, v = .agg #[.int .i64 m.kind, .int .i64 m.view, .int .i64 m.seq, .int .i64 m.client, .int .i64 m.stamp, .int .i64 m.e.c, .int .i64 m.e.s, .int .i64 m.e.t, .slice q.ea m.e.dig.length q.ec, .slice q.ga m.dig.length q.gc, .slice q.da m.data.length q.dc, .slice q.pa m.proof.length q.pc, .slice q.va m.proven.length q.vc] ∧ MgR AllB w m q ∧ m.wf ∧ m.big ∧ I64 m.kind
theorem open_en {base : Nat} {v : Value} {d : DataW H} {p : List MemPlace}
    (hv : Value.okWide Try.prog W .any base 24 v) (h : DataW.Trod enc Try.prog W 0 (fun _ => true) true 24 v d p)
    (hwt : ∀ m ∈ d.weights Try.prog 24, m ≤ reachBytes) : ∃ x, InEn W v x := by
  obtain ⟨cs, rfl, hc⟩ := okWide_struct Try.underlying24 hv
  obtain ⟨fuel, hf⟩ := h
  obtain ⟨x, ⟨A, c, e, hb⟩, hn, h1⟩ := opens_entry fuel _ (d, p) hf hwt
  refine ⟨x, A, c, ?_, hb, hn, h1⟩
  rw [show (Value.agg cs).cells.toList = cs.toList by simp [Value.cells]] at e
  rw [← Array.toArray_toList (xs := cs), e]
theorem open_lt {base : Nat} {v : Value} {d : DataW H} {p : List MemPlace}
    (hv : Value.okWide Try.prog W .any base 46 v) (h : DataW.Trod enc Try.prog W 0 (fun _ => true) true 46 v d p)
    (hwt : ∀ m ∈ d.weights Try.prog 46, m ≤ reachBytes) : ∃ x, InLt W v x := by
  obtain ⟨cs, rfl, hc⟩ := okWide_struct Try.underlying46 hv
  obtain ⟨fuel, hf⟩ := h
  obtain ⟨x, ⟨A, c, B, d', e, hb, ht⟩, hn⟩ := opens_letter fuel _ (d, p) hf hwt
  refine ⟨x, A, c, B, d', ?_, ⟨hb, ht⟩, hn⟩
  rw [show (Value.agg cs).cells.toList = cs.toList by simp [Value.cells]] at e
  rw [← Array.toArray_toList (xs := cs), e]
theorem open_mg {base : Nat} {v : Value} {d : DataW H} {p : List MemPlace}
    (hv : Value.okWide Try.prog W .any base 28 v) (h : DataW.Trod enc Try.prog W 0 (fun _ => true) true 28 v d p)
    (hwt : ∀ m ∈ d.weights Try.prog 28, m ≤ reachBytes) : ∃ x, InMg W v x := by
  obtain ⟨cs, rfl, hc⟩ := okWide_struct Try.underlying28 hv
  obtain ⟨fuel, hf⟩ := h
  have hl : cs.toList.length = 13 := by
    have := struct_len Try.underlying28 hf
    rw [show Try.prog.cellsOf 28 = 13 by kernel_rfl] at this
    simpa [Value.cells] using this
  have hcs : (Value.agg cs).cells.toList = cs.toList := by simp [Value.cells]
  obtain ⟨a0, g0, w0⟩ := opens_field Try.underlying28 hf hwt 0 rfl opens_int
  obtain ⟨a1, g1, w1⟩ := opens_field Try.underlying28 hf hwt 1 rfl opens_int
  obtain ⟨a2, g2, w2⟩ := opens_field Try.underlying28 hf hwt 2 rfl opens_int
  obtain ⟨a3, g3, w3⟩ := opens_field Try.underlying28 hf hwt 3 rfl opens_int
  obtain ⟨a4, g4, w4⟩ := opens_field Try.underlying28 hf hwt 4 rfl opens_int
  obtain ⟨e, ⟨A, c, g5, hb5⟩, n5, y1, y2, y3⟩ := opens_field Try.underlying28 hf hwt 5 rfl opens_entry
  obtain ⟨dig, ⟨A6, c6, g6, hb6⟩, n6⟩ := opens_field Try.underlying28 hf hwt 6 rfl opens_bytes
  obtain ⟨data, ⟨A7, c7, g7, hb7⟩, n7⟩ := opens_field Try.underlying28 hf hwt 7 rfl opens_bytes
  obtain ⟨A8, c8, proof, g8, hb8, n8⟩ := opens_field Try.underlying28 hf hwt 8 rfl opens_letters
  obtain ⟨A9, c9, proven, g9, hb9, n9⟩ := opens_field Try.underlying28 hf hwt 9 rfl opens_provens
  rw [hcs] at g0 g1 g2 g3 g4 g5 g6 g7 g8 g9
  have g0 : (cs.toList.drop 0).take (Try.prog.cellsOf 3) = _ := g0
  have g1 : (cs.toList.drop 1).take (Try.prog.cellsOf 3) = _ := g1
  have g2 : (cs.toList.drop 2).take (Try.prog.cellsOf 3) = _ := g2
  have g3 : (cs.toList.drop 3).take (Try.prog.cellsOf 3) = _ := g3
  have g4 : (cs.toList.drop 4).take (Try.prog.cellsOf 3) = _ := g4
  have g5 : (cs.toList.drop 5).take (Try.prog.cellsOf 24) = _ := g5
  have g6 : (cs.toList.drop 9).take (Try.prog.cellsOf 22) = _ := g6
  have g7 : (cs.toList.drop 10).take (Try.prog.cellsOf 22) = _ := g7
  have g8 : (cs.toList.drop 11).take (Try.prog.cellsOf 25) = _ := g8
  have g9 : (cs.toList.drop 12).take (Try.prog.cellsOf 26) = _ := g9
  rw [cells_int] at g0 g1 g2 g3 g4
  rw [cells_entry] at g5
  rw [cells_bytes] at g6 g7
  rw [cells_letters] at g8
  rw [cells_proven] at g9
  refine ⟨⟨a0, a1, a2, a3, a4, e, dig, data, proof, proven⟩, ⟨A, c, A6, c6, A7, c7, A8, c8, A9, c9⟩, ?_, ⟨hb5, hb6, hb7, hb8, hb9⟩, ⟨w1, w2, w3, w4, y1, y2, y3⟩, ⟨n5, n6, n7, n8, n9⟩, w0⟩
  rw [← Array.toArray_toList (xs := cs)]
  congr 1
  generalize cs.toList = l at *
  match l, hl with
  | [_, _, _, _, _, _, _, _, _, _, _, _, _], _ =>
    simp at g0 g1 g2 g3 g4 g5 g6 g7 g8 g9
    simp [g0, g1, g2, g3, g4, g5, g6, g7, g8, g9]
end
end Go.Proofs.Ytmgmmbgjmnklkaa
