/-
  Nodes in a row of the call's own that is written. Plain lemmas; no statement.
-/
import Derived.Test.YtgppclmofphlfaaGreatDoorTreeScript
namespace Go.Proofs.YtgppclmofphlfaaGreatDoor
set_option maxRecDepth 100000
open Go.RowKit
set_option linter.unusedVariables false

/-- nodes in a row whose block is known: they can be written -/
def NRows (G : Nat → Prop) (w : World) (g c : Nat) (xs : List Lf) : Prop :=
  ∃ L : List Value, Bk w g 50 L ∧ L.length = c * 6 ∧ xs.length ≤ c ∧ c ≤ maxLen ∧ ∀ (k : Nat) (x : Lf), xs[k]? = some x → ∃ A d, (∀ (j : Nat) (u : Value), (lfC x A d)[j]? = some u → L[k * 6 + j]? = some u) ∧ BF (fun b => G b ∧ b ≠ g) w A d x.data
theorem NRows.of_own {G : Nat → Prop} {base n c : Nat} {w : World} {A : Option Addr} {xs : List Lf} (h : OwnS RLf 50 G base w A n c xs) (h0 : 0 < n) : ∃ g, A = some ⟨g, 0, none⟩ ∧ base ≤ g ∧ g < w.heap.size ∧ NRows G w g c xs := by
  obtain ⟨h1, css, h2, ⟨h3, h4⟩, h5⟩ := h
  rcases h4 with ⟨_, e⟩ | ⟨g, cap, cur, e, hb, hg, hnc, hcm, hcs, hct⟩
  · omega
  · injection e with e1 e2 e3
    subst e1; subst e3
    have hrd := fun (k : Nat) (x : Lf) (cs : List Value) (hx : xs[k]? = some x) (hc : css[k]? = some cs) => h5 k x cs hx hc
    refine ⟨g, rfl, hb, (Array.getElem?_eq_some_iff.1 hg).1, cur.toList, by rw [Bk]; simpa using hg, by simpa [RLf] using hcs, by omega, hcm, fun k x hx => ?_⟩
    have hk : k < css.length := by have := (List.getElem?_eq_some_iff.1 hx).1; omega
    obtain ⟨A', d, hcs', hbf⟩ := hrd k x _ hx (List.getElem?_eq_getElem hk)
    refine ⟨A', d, fun j u hu => ?_, hbf.keep ⟨Nat.le_refl _, fun _ _ _ => rfl⟩ fun b hb _ => ⟨hb.1, fun e => hb.2 (by rw [e]; rfl)⟩⟩
    have hlen : ∀ cs ∈ css, cs.length = 6 := fun cs hm => by
      obtain ⟨i, hi, rfl⟩ := List.getElem_of_mem hm
      obtain ⟨_, _, e2, _⟩ := hrd i _ _ (List.getElem?_eq_getElem (by omega)) (List.getElem?_eq_getElem hi)
      rw [e2]; rfl
    have hf := flat_at hlen (List.getElem?_eq_getElem hk) (show (css[k])[j]? = some u by rw [hcs']; exact hu)
    have hf2 : (cur.toList.take (n * RLf.sz))[k * 6 + j]? = some u := by rw [hct]; exact hf
    rw [List.getElem?_take] at hf2
    split at hf2
    · exact hf2
    · cases hf2
section
variable {G : Nat → Prop} {w w' : World} {g c : Nat} {xs : List Lf}
theorem NRows.at_ (h : NRows G w g c xs) {k : Nat} {x : Lf} (hx : xs[k]? = some x) : ∃ A d, w.cell? ⟨g, k * 6, none⟩ = some (.string ⟨x.path.toArray⟩) ∧ w.cell? ⟨g, k * 6 + 4, none⟩ = some (.int .i64 x.next) ∧ BF (fun b => G b ∧ b ≠ g) w A d x.data := by
  obtain ⟨L, h1, _, _, _, h4⟩ := h
  obtain ⟨A, d, h5, h6⟩ := h4 k x hx
  exact ⟨A, d, by rw [h1.cell]; exact h5 0 _ rfl, by rw [h1.cell]; exact h5 4 _ rfl, h6⟩
theorem NRows.bk (h : NRows G w g c xs) {k : Nat} {x : Lf} (hx : xs[k]? = some x) : ∃ L, Bk w g 50 L ∧ k * 6 + 4 < L.length := by
  obtain ⟨L, h1, hl, hc, _, _⟩ := h
  have := (List.getElem?_eq_some_iff.1 hx).1
  exact ⟨L, h1, by omega⟩
theorem NRows.set (h : NRows G w g c xs) {k : Nat} {x : Lf} (hx : xs[k]? = some x) (z : Int) (hg : w.grownBy w' (some g)) {L : List Value} (hL : Bk w g 50 L) (hb : Bk w' g 50 (L.set (k * 6 + 4) (.int .i64 z))) : NRows G w' g c (xs.set k { x with next := z }) := by
  obtain ⟨L0, h1, hl, hc, hm, h4⟩ := h
  have e : L0 = L := by
    have q : w.heap[g]? = _ := h1
    have q2 : w.heap[g]? = _ := hL
    rw [q] at q2
    injection q2 with q2
    injection q2 with q2
    simpa using q2
  subst e
  refine ⟨_, hb, by rw [List.length_set]; exact hl, by rw [List.length_set]; exact hc, hm, fun i y hy => ?_⟩
  by_cases hik : i = k
  · subst hik
    have hlt := (List.getElem?_eq_some_iff.1 hx).1
    rw [List.getElem?_set_self hlt] at hy
    obtain rfl := Option.some.inj hy
    obtain ⟨A, d, h5, h6⟩ := h4 i x hx
    refine ⟨A, d, fun j u hu => ?_, bf_set h6 hg fun b hb => hb.2⟩
    by_cases hj : j = 4
    · subst hj
      have hu' : some (Value.int .i64 z) = some u := hu
      obtain rfl := Option.some.inj hu'
      rw [List.getElem?_set_self (by omega)]
    · rw [List.getElem?_set_ne (by omega)]
      refine h5 j u ?_
      match j, hj with
      | 0, _ => exact hu
      | 1, _ => exact hu
      | 2, _ => exact hu
      | 3, _ => exact hu
      | 5, _ => exact hu
      | j + 6, _ => exact hu
  · rw [List.getElem?_set_ne (fun e => hik e.symm)] at hy
    obtain ⟨A, d, h5, h6⟩ := h4 i y hy
    refine ⟨A, d, fun j u hu => ?_, bf_set h6 hg fun b hb => hb.2⟩
    have hj6 : j < 6 := by have := (List.getElem?_eq_some_iff.1 hu).1; simpa [lfC] using this
    rw [List.getElem?_set_ne (by omega)]
    exact h5 j u hu
theorem NRows.below (h : NRows G w g c xs) (hb : Below w.heap.size w w') : NRows G w' g c xs := by
  obtain ⟨L, h1, hl, hc, hm, h4⟩ := h
  refine ⟨L, h1.kept hb, hl, hc, hm, fun k x hx => ?_⟩
  obtain ⟨A, d, h5, h6⟩ := h4 k x hx
  exact ⟨A, d, h5, h6.below hb⟩
theorem NRows.rds (h : NRows G w g c xs) (hG : G g) : RdS RLf G w (some ⟨g, 0, none⟩) c xs := by
  obtain ⟨L, h1, hl, hc, hm, h4⟩ := h
  refine ⟨hc, hm, (fun e => nomatch e), fun k x hx => ?_⟩
  obtain ⟨A, d, h5, h6⟩ := h4 k x hx
  refine ⟨⟨g, 0, none⟩, lfC x A d, rfl, hG, h1.lt, fun j u hu => ?_, A, d, rfl, h6.keep ⟨Nat.le_refl _, fun _ _ _ => rfl⟩ fun b hb _ => hb.1⟩
  rw [at_add0]
  show w.cell? ⟨g, k * RLf.sz + j, none⟩ = some u
  rw [h1.cell]
  exact h5 j u hu
end
/-- rows between s and e hold these nodes, and the tree's blocks leave them alone -/
def Kpt (A : Option Addr) (c : Nat) (t : List Lf) (s e : Nat) (F : Nat → Prop) (w : World) : Prop := RdS RLf (In s e) w A c t ∧ Gap F s e ∧ e ≤ w.heap.size
section
variable {A : Option Addr} {c s e : Nat} {t : List Lf} {F F' : Nat → Prop} {w w' : World}
theorem Kpt.below (h : Kpt A c t s e F w) (hb : Below w.heap.size w w') : Kpt A c t s e F w' := ⟨h.1.below hb, h.2.1, Nat.le_trans h.2.2 hb.size⟩
theorem Kpt.did (h : Kpt A c t s e F w) (hF : ∀ k, F' k → F k ∨ w.heap.size ≤ k) (hc : Chg F w w') : Kpt A c t s e F' w' := ⟨h.1.chg hc h.2.1, h.2.1.did hF h.2.2, Nat.le_trans h.2.2 hc.size⟩
end
end Go.Proofs.YtgppclmofphlfaaGreatDoor
