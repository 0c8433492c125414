/-
  Readings of arguments of any nesting: structs by their fields, slices by their elements. Plain lemmas on the reading of arguments; no statement.
-/
import Derived.Test.YtfbdmemjojjgnaaMOpen
import Derived.Test.YtfbdmemjojjgnaaRdrMem
namespace Go.Proofs.Ytfbdmemjojjgnaa
set_option maxRecDepth 100000
open Go.ChangeShapes Go.WideShapes Go.ChangeAt Go.RowKit Go.Deep
set_option linter.unusedVariables false

/-- every reading of cells at a type says this of them -/
def Opens {H : Type} (enc : TypeId × Value → H) (W : World) (t : TypeId) (R : List Value → Prop) : Prop :=
  ∀ (fuel : Nat) (cs : List Value) (x : DataW H × List MemPlace), DataW.trod enc Try.prog W 0 (fun _ => true) true fuel t cs = some x → (∀ m ∈ x.1.weights Try.prog t, m ≤ reachBytes) → R cs
section
variable {H : Type} {enc : TypeId × Value → H} {W : World}
theorem opens_field {t : TypeId} {fs : Array Field} (ht : Try.prog.underlying t = some (.struct fs)) {fuel : Nat} {cs : List Value} {x : DataW H × List MemPlace}
    (h : DataW.trod enc Try.prog W 0 (fun _ => true) true fuel t cs = some x) (hw : ∀ m ∈ x.1.weights Try.prog t, m ≤ reachBytes) (i : Nat) {f : Field} (hf : fs[i]? = some f) {R : List Value → Prop} (ho : Opens enc W f.type R) :
    R ((cs.drop f.offset).take (Try.prog.cellsOf f.type)) := by
  obtain ⟨xs, n, _, hd, hl, hlen, hx⟩ := DataW.trod_struct ht h
  have hi : i < xs.length := by rw [hlen]; exact (Array.getElem?_eq_some_iff.1 hf).1
  have h1 := hx i f hf
  rw [List.getElem?_eq_getElem hi] at h1
  refine ho _ _ _ h1 fun m hm => hw m ?_
  rw [hd]
  simp only [DataW.weights, ht]
  refine DataW.weights_mem_each (j := i) (t := f.type) (d := xs[i].1) ?_ ?_ m hm
  · rw [List.getElem?_map]
    simp [hf]
  · rw [List.getElem?_map, List.getElem?_eq_getElem hi]
    rfl
theorem struct_len {t : TypeId} {fs : Array Field} (ht : Try.prog.underlying t = some (.struct fs)) {fuel : Nat} {cs : List Value} {x : DataW H × List MemPlace}
    (h : DataW.trod enc Try.prog W 0 (fun _ => true) true fuel t cs = some x) : cs.length = Try.prog.cellsOf t := by
  obtain ⟨xs, n, _, hd, hl, hlen, hx⟩ := DataW.trod_struct ht h
  exact hl
theorem opens_slice {α : Type} (R : Rdr α) (P : α → Prop) {t e : TypeId} {b : Nat} (ht : Try.prog.underlying t = some (.slice e)) (hc : Try.prog.cellsOf e = R.sz) (hsz : 0 < R.sz) (hb : Try.prog.bytesOf e = b)
    (he : Opens enc W e fun cs => ∃ x, R.rd AllB W cs x ∧ P x) :
    Opens enc W t fun cs => ∃ A c xs, cs = [.slice A xs.length c] ∧ RdS R AllB W A c xs ∧ xs.length * b ≤ 140737488355328 ∧ ∀ x ∈ xs, P x := by
  intro fuel cs x h hw
  rcases open_slice ht h with ⟨rfl, _⟩ | ⟨a, len, cap, m, n, D, Pl, rfl, _, hl, hm, hmm, hx, hi⟩
  · exact ⟨none, 0, [], rfl, RdS.nil_ _ _ _, by simp, by simp⟩
  · simp only [if_true] at hmm
    subst hmm
    have hd0 : x.1 = .slice ((List.range len).map D) ((List.range (m - len)).map fun j => D (len + j)) := congrArg Prod.fst hx
    rw [hc] at hi
    have hbig : len * b ≤ 140737488355328 := by
      have := hw ((len + (m - len)) * b) (by
        rw [hd0]
        simp only [DataW.weights, ht, List.mem_cons, hb]
        left
        simp)
      have h2 := reachBytes_lt
      have h3 : len * b ≤ (len + (m - len)) * b := Nat.mul_le_mul_right _ (by omega)
      omega
    have each : ∀ r, r < len → ∃ (cs : List Value) (y : α), (∀ j u, cs[j]? = some u → W.cell? ((a.add (r * R.sz)).add j) = some u) ∧ R.rd AllB W cs y ∧ P y := by
      intro r hr
      obtain ⟨cs', hcs, htr⟩ := hi r (by omega)
      obtain ⟨_, hlen, hat⟩ := World.cells?_some hcs
      obtain ⟨y, hy, hp⟩ := he _ _ _ htr fun m' hm' => hw m' (by
        rw [hd0]
        simp only [DataW.weights, ht, List.mem_cons, List.mem_append]
        exact .inr (.inl (weights_all_mem (List.mem_map.2 ⟨r, by simpa using hr, rfl⟩) m' hm')))
      refine ⟨cs', y, fun j u hj => ?_, hy, hp⟩
      have hjl := (List.getElem?_eq_some_iff.1 hj).1
      rw [hat j (by omega)]
      exact hj
    have pick : ∀ m, m ≤ len → ∃ xs : List α, xs.length = m ∧ (∀ (k : Nat) (y : α), xs[k]? = some y → ∃ cs : List Value, (∀ j u, cs[j]? = some u → W.cell? ((a.add (k * R.sz)).add j) = some u) ∧ R.rd AllB W cs y) ∧ ∀ y ∈ xs, P y := by
      intro m
      induction m with
      | zero => intro _; exact ⟨[], rfl, fun k l h => by simp at h, by simp⟩
      | succ m ih =>
        intro hm'
        obtain ⟨xs, h1, h2, h3⟩ := ih (by omega)
        obtain ⟨cs, y, hy1, hy2, hy3⟩ := each m (by omega)
        refine ⟨xs ++ [y], by simp [h1], fun k o' hk => ?_, fun z hz => ?_⟩
        · rcases Nat.lt_or_ge k xs.length with hlt | hge
          · rw [List.getElem?_append_left hlt] at hk; exact h2 k o' hk
          · rw [List.getElem?_append_right hge] at hk
            have hk0 : k = m := by
              have := (List.getElem?_eq_some_iff.1 hk).1
              simp at this; omega
            subst hk0
            simp [h1] at hk
            subst hk
            exact ⟨cs, hy1, hy2⟩
        · rcases List.mem_append.1 hz with hz | hz
          · exact h3 z hz
          · obtain rfl := List.mem_singleton.1 hz
            exact hy3
    obtain ⟨xs, h1, h2, h3⟩ := pick len (Nat.le_refl _)
    refine ⟨some a, m, xs, by rw [h1], ⟨by omega, hm, (fun e => by cases e), fun k y hy => ?_⟩, by rw [h1]; exact hbig, h3⟩
    obtain ⟨cs, hc1, hc2⟩ := h2 k y hy
    refine ⟨a, cs, rfl, trivial, ?_, fun j u hj => by have := hc1 j u hj; rwa [add_plus] at this, hc2⟩
    have hcl := R.len hc2
    have hc0 := hc1 0 cs[0] (List.getElem?_eq_getElem (by omega))
    have := cell_lt hc0
    rwa [add_block, add_block] at this
end
end Go.Proofs.Ytfbdmemjojjgnaa
