/-
  The reference's table in a variable beside the program's memory. Plain lemmas; no statement.
-/
import Derived.Test.YtbppokdaehaocaaDoorWatchScript
import Derived.Test.YtbppokdaehaocaaDoorWatchRef5
namespace Go.Proofs.YtbppokdaehaocaaDoor
set_option maxRecDepth 100000
open Go.RowKit
set_option linter.unusedVariables false

/-- the reference's table T in the variable at gm, apart from the blocks of G -/
def RefW (G : Nat → Prop) (gm : Nat) (T : List Wt) (w : World) : Prop :=
  ∃ A c, Bk w gm 29 [.slice A T.length c] ∧ RdS RWt (fun b => ¬ G b ∧ b ≠ gm) w A c T ∧ ¬ G gm
section
variable {G G' : Nat → Prop} {gm : Nat} {T T' : List Wt} {w w' : World}
theorem RefW.below (h : RefW G gm T w) (hb : Below w.heap.size w w') : RefW G gm T w' := by
  obtain ⟨A, c, h1, h2, h3⟩ := h
  exact ⟨A, c, h1.kept hb, h2.below hb, h3⟩
theorem RefW.lt (h : RefW G gm T w) : gm < w.heap.size := by
  obtain ⟨A, c, h1, _⟩ := h
  exact h1.lt
theorem RefW.did (h : RefW G gm T w) (hc : Chg G w w') (hG : ∀ k, G' k → G k ∨ w.heap.size ≤ k) : RefW G' gm T w' := by
  obtain ⟨A, c, h1, h2, h3⟩ := h
  refine ⟨A, c, hc.bk h1 h3, h2.keep ⟨hc.size, fun b hb hl => hc.block b hl hb.1⟩ fun b hb hl => ⟨fun q => (hG b q).elim hb.1 fun q => by omega, hb.2⟩, fun q => (hG gm q).elim h3 fun q => ?_⟩
  have := h1.lt
  omega
theorem RefW.put {A' : Option Addr} {c' : Nat} (h : RefW G gm T w) (hb : Below w.heap.size w w') (hG : ∀ k, G k → k < w.heap.size) (hr : RdS RWt (fun b => (¬ G b ∧ b ≠ gm) ∨ w.heap.size ≤ b) w' A' c' T') :
    RefW G gm T' (w'.setCell ⟨gm, 0, none⟩ (.slice A' T'.length c')) := by
  obtain ⟨A, c, h1, h2, h3⟩ := h
  have hlt := h1.lt
  have g1 := grown_set (grown_refl w' (some gm)) 0 (.slice A' T'.length c')
  refine ⟨A', c', (h1.kept hb).set 0 _, ?_, h3⟩
  have h4 := hr.keep (F' := fun b => ¬ G b ∧ b ≠ gm) ⟨Nat.le_refl _, fun _ _ _ => rfl⟩ fun b q _ => q.elim id fun q => ⟨fun hg => by have := hG b hg; omega, by omega⟩
  exact h4.keep (Kp.of_grown g1 fun b hb e => hb.2 (Option.some.inj e)) fun b hb _ => hb
theorem RefW.new (hG : ∀ k, G k → k < w.heap.size) : RefW G w.heap.size [] (w.alloc (.cells #[.slice none 0 0] 29)) :=
  ⟨none, 0, Bk.new w 29 [.slice none 0 0], RdS.nil_ _ _ _, fun h => by have := hG _ h; omega⟩
end
theorem RefW.notin {G : Nat → Prop} {gm : Nat} {T : List Wt} {w : World} (h : RefW G gm T w) : ¬ G gm := h.choose_spec.choose_spec.2.2
/-- a store into the reference's variable leaves the program's table -/
theorem WOn.set_far {F : Nat → Prop} {w0 w : World} {g gm : Nat} {t : List Wt} {v : Value} (h : WOn F w0 g t w) (hn : ¬ F gm) (hg : w0.heap.size ≤ gm) : WOn F w0 g t (w.setCell ⟨gm, 0, none⟩ v) := by
  have g1 := grown_set (grown_refl w (some gm)) 0 v
  have hc : Chg (fun b => b = gm) w (w.setCell ⟨gm, 0, none⟩ v) := (Chg.refl _ _).grown g1 fun b hb => .inl (Option.some.inj hb).symm
  exact h.other hc (fun k hk e => hn (e ▸ hk)) (h.be.grown g1 h.be.size fun b hb => by have := Option.some.inj hb; omega)
/-- the cells of the watch of a script's call -/
def Op3 (a : Addr) (k : Nat) (x : Wt) (W : World) : Prop :=
  W.cell? ⟨(a.add (k * 6)).block, (a.add (k * 6)).off + 1, none⟩ = some (.int .i64 x.client) ∧ W.cell? ⟨(a.add (k * 6)).block, (a.add (k * 6)).off + 2, none⟩ = some (.int .i64 x.kind) ∧ W.cell? ⟨(a.add (k * 6)).block, (a.add (k * 6)).off + 3, none⟩ = some (.string ⟨x.path.toArray⟩)
theorem wtc_set : ∀ (l : List Wt) (i : Nat) (x : Wt) (z : Int), l[i]? = some x → (wtc l).set (i * 3) (.int .i64 z) = wtc (l.set i { x with client := z })
  | [], i, x, z, h => by simp at h
  | y :: r, 0, x, z, h => by obtain rfl := Option.some.inj h; rfl
  | y :: r, i + 1, x, z, h => by
    rw [show (i + 1) * 3 = i * 3 + 1 + 1 + 1 by omega]
    simp only [wtc, List.set_cons_succ]
    rw [wtc_set r i x z h]
/-- a client's number written into a row -/
theorem OwnW.set77 {w : World} {base n c : Nat} {A : Option Addr} {l : List Wt} {i : Nat} {x : Wt} (h : OwnW w base A n c l) (hx : l[i]? = some x) (z : Int) :
    ∃ g, A = some ⟨g, 0, none⟩ ∧ base ≤ g ∧ w.cell? ⟨g, i * 3, none⟩ = some (.int .i64 x.client) ∧ w.frozen? ⟨g, i * 3, none⟩ = false ∧ OwnW (w.setCell ⟨g, i * 3, none⟩ (.int .i64 z)) base A n c (l.set i { x with client := z }) := by
  have hl := h.len
  have hi := (List.getElem?_eq_some_iff.1 hx).1
  obtain ⟨g, rfl, hb, hnc, hcm, rest, hk, hkl⟩ := ownW_at h (by omega)
  have hc := hk.cell (i * 3)
  rw [List.getElem?_append_left (by rw [wtc_len]; omega), (wtc_at l i x hx).1] at hc
  refine ⟨g, rfl, hb, hc, hk.frozen _, ?_⟩
  have hs := hk.set (i * 3) (.int .i64 z)
  rw [List.set_append_left _ _ (by rw [wtc_len]; omega), wtc_set l i x z hx] at hs
  refine ownW_back hs ?_ hb (by rw [List.length_set]; exact hl) hnc hcm
  rw [List.length_append, wtc_len] at hkl ⊢
  rw [List.length_set]
  exact hkl
end Go.Proofs.YtbppokdaehaocaaDoor
