/-
  How values lie in memory: what reads as what, within a set of blocks; rows of a call's own whose elements read so. Plain lemmas; no statement.
-/
import Derived.Test.YtfbdmemjojjgnaaMRows
namespace Go.Proofs.Ytfbdmemjojjgnaa
set_option maxRecDepth 100000
open Go.RowKit
set_option linter.unusedVariables false


/-- the blocks of F are as they were -/
structure Kp (F : Nat → Prop) (w w' : World) : Prop where
  size : w.heap.size ≤ w'.heap.size
  blk : ∀ b, F b → b < w.heap.size → w'.heap[b]? = w.heap[b]?
theorem Kp.of_below {F : Nat → Prop} {w w' : World} (h : Below w.heap.size w w') : Kp F w w' := ⟨h.size, fun b _ hb => h.block b hb⟩
theorem Kp.of_grown {F : Nat → Prop} {w w' : World} {r : Option Nat} (h : w.grownBy w' r) (hF : ∀ b, F b → some b ≠ r) : Kp F w w' := ⟨h.size, fun b hb hl => h.block b hl (hF b hb)⟩
def AllB : Nat → Prop := fun _ => True
def From (B : Nat) : Nat → Prop := fun b => B ≤ b
/-- bytes that read so, in blocks of F -/
def BF (F : Nat → Prop) (w : World) (A : Option Addr) (c : Nat) (l : List UInt8) : Prop := Sl w A l.length c l ∧ ∀ a, A = some a → l ≠ [] → F a.block
theorem Rd.keepF {F : Nat → Prop} {w w' : World} {A : Option Addr} {n : Nat} {xs : List Value} (h : Rd w A n xs) (hF : ∀ a, A = some a → xs ≠ [] → F a.block) (hk : Kp F w w') : Rd w' A n xs :=
  ⟨h.1, fun k u hu => by
    obtain ⟨a, e, hb, hc⟩ := h.2 k u hu
    have hne : xs ≠ [] := by rintro rfl; simp at hu
    refine ⟨a, e, Nat.lt_of_lt_of_le hb hk.size, ?_⟩
    rw [World.cell?_of_block (w := w) (hk.blk _ (by rw [add_block]; exact hF a e hne) (by rw [add_block]; exact hb))]
    exact hc⟩
theorem Rd.blk_lt {w : World} {A : Option Addr} {n : Nat} {xs : List Value} (h : Rd w A n xs) (hne : xs ≠ []) : ∀ a, A = some a → a.block < w.heap.size := by
  intro a ha
  cases xs with
  | nil => exact absurd rfl hne
  | cons u r =>
    obtain ⟨a', e, hb, _⟩ := h.2 0 u rfl
    rw [ha] at e
    injection e with e
    rw [e]
    exact hb
theorem BF.keep {F F' : Nat → Prop} {w w' : World} {A : Option Addr} {c : Nat} {l : List UInt8} (h : BF F w A c l) (hk : Kp F w w') (hf : ∀ b, F b → b < w.heap.size → F' b) : BF F' w' A c l := by
  obtain ⟨⟨h1, h2, h3, h4⟩, h5⟩ := h
  refine ⟨⟨h1, h2, h3.keepF (fun a e hne => h5 a e (by rintro rfl; exact hne rfl)) hk, h4⟩, fun a e hne => hf _ (h5 a e hne) ?_⟩
  exact h3.blk_lt (by simpa using hne) a e
theorem BF.sl {F : Nat → Prop} {w : World} {A : Option Addr} {c : Nat} {l : List UInt8} (h : BF F w A c l) : Sl w A l.length c l := h.1
theorem BF.rd {F : Nat → Prop} {w : World} {A : Option Addr} {c : Nat} {l : List UInt8} (h : BF F w A c l) : Rd w A l.length (l.map bv) := h.1.rd
theorem BF.below {F : Nat → Prop} {w w' : World} {A : Option Addr} {c : Nat} {l : List UInt8} (h : BF F w A c l) (hb : Below w.heap.size w w') : BF F w' A c l := h.keep (Kp.of_below hb) fun _ h _ => h
theorem BF.all {F : Nat → Prop} {w : World} {A : Option Addr} {c : Nat} {l : List UInt8} (h : BF F w A c l) : BF AllB w A c l := ⟨h.1, fun _ _ _ => trivial⟩
theorem BF.of_sl {w : World} {A : Option Addr} {n c : Nat} {l : List UInt8} (h : Sl w A n c l) : BF AllB w A c l := by
  have := h.len
  subst this
  exact ⟨h, fun _ _ _ => trivial⟩
theorem BF.nil_ (F : Nat → Prop) (w : World) : BF F w none 0 [] := ⟨Sl.nil_ w, fun a e => by cases e⟩
theorem BF.own {w : World} {base : Nat} {A : Option Addr} {n c : Nat} {l : List UInt8} (h : OwnB w base A n c l) : BF (From base) w A c l := by
  have hl := h.len
  subst hl
  refine ⟨Sl.own h, fun a e _ => ?_⟩
  subst e
  exact h.block _ rfl
/-- how a value's cells read -/
structure Rdr (α : Type) where
  sz : Nat
  rd : (Nat → Prop) → World → List Value → α → Prop
  len : ∀ {F : Nat → Prop} {w : World} {cs : List Value} {x : α}, rd F w cs x → cs.length = sz
  keep : ∀ {F F' : Nat → Prop} {w w' : World} {cs : List Value} {x : α}, rd F w cs x → Kp F w w' → (∀ b, F b → b < w.heap.size → F' b) → rd F' w' cs x
/-- the slice (A, n, c) reads as these, in blocks of F -/
def RdS {α : Type} (R : Rdr α) (F : Nat → Prop) (w : World) (A : Option Addr) (c : Nat) (xs : List α) : Prop :=
  xs.length ≤ c ∧ c ≤ maxLen ∧ (A = none → c = 0) ∧ ∀ k x, xs[k]? = some x → ∃ a cs, A = some a ∧ F a.block ∧ a.block < w.heap.size ∧ (∀ j u, cs[j]? = some u → w.cell? (a.add (k * R.sz + j)) = some u) ∧ R.rd F w cs x
section
variable {α : Type} {R : Rdr α} {F F' : Nat → Prop} {w w' : World} {A : Option Addr} {c : Nat} {xs : List α}
theorem RdS.keep (h : RdS R F w A c xs) (hk : Kp F w w') (hf : ∀ b, F b → b < w.heap.size → F' b) : RdS R F' w' A c xs := by
  refine ⟨h.1, h.2.1, h.2.2.1, fun k x hx => ?_⟩
  obtain ⟨a, cs, e, hF, hb, hc, hr⟩ := h.2.2.2 k x hx
  refine ⟨a, cs, e, hf _ hF hb, Nat.lt_of_lt_of_le hb hk.size, fun j u hu => ?_, R.keep hr hk hf⟩
  rw [World.cell?_of_block (w := w) (hk.blk _ (by rw [add_block]; exact hF) (by rw [add_block]; exact hb))]
  exact hc j u hu
theorem RdS.below (h : RdS R F w A c xs) (hb : Below w.heap.size w w') : RdS R F w' A c xs := h.keep (Kp.of_below hb) fun _ h _ => h
theorem RdS.all (h : RdS R F w A c xs) : RdS R AllB w A c xs := h.keep ⟨Nat.le_refl _, fun _ _ _ => rfl⟩ fun _ _ _ => trivial
theorem RdS.nil_ (R : Rdr α) (F : Nat → Prop) (w : World) : RdS R F w none 0 [] := ⟨Nat.le_refl _, by simp [maxLen], fun _ => rfl, fun k x h => by simp at h⟩
/-- element k: where it lies -/
theorem RdS.at_ (h : RdS R F w A c xs) {k : Nat} {x : α} (hx : xs[k]? = some x) : ∃ a cs, A = some a ∧ a.block < w.heap.size ∧ (∀ j u, cs[j]? = some u → w.cell? (a.add (k * R.sz + j)) = some u) ∧ R.rd F w cs x := by
  obtain ⟨a, cs, e, _, hb, hc, hr⟩ := h.2.2.2 k x hx
  exact ⟨a, cs, e, hb, hc, hr⟩
end
theorem Rdr.below {α : Type} (R : Rdr α) {F : Nat → Prop} {w w' : World} {cs : List Value} {x : α} (h : R.rd F w cs x) (hb : Below w.heap.size w w') : R.rd F w' cs x := R.keep h (Kp.of_below hb) fun _ h _ => h
theorem Rdr.all {α : Type} (R : Rdr α) {F : Nat → Prop} {w : World} {cs : List Value} {x : α} (h : R.rd F w cs x) : R.rd AllB w cs x := R.keep h ⟨Nat.le_refl _, fun _ _ _ => rfl⟩ fun _ _ _ => trivial
/-- bytes -/
def RB : Rdr (List UInt8) where
  sz := 1
  rd F w cs l := ∃ A c, cs = [.slice A l.length c] ∧ BF F w A c l
  len := by rintro F w cs x ⟨A, c, rfl, _⟩; rfl
  keep := by rintro F F' w w' cs x ⟨A, c, rfl, h⟩ hk hf; exact ⟨A, c, rfl, h.keep hk hf⟩
/-- the cells of an element of a row of letters, of proven things, of slices -/
theorem RdS.b1 {F : Nat → Prop} {w : World} {A : Option Addr} {c : Nat} {ls : List (List UInt8)} (h : RdS RB F w A c ls) {k : Nat} {l : List UInt8} (hk : ls[k]? = some l) :
    ∃ x B d, A = some x ∧ x.block < w.heap.size ∧ w.cell? (x.add k) = some (.slice B l.length d) ∧ BF F w B d l := by
  obtain ⟨x, cs, e, hb, hc, B, d, rfl, hB⟩ := h.at_ hk
  exact ⟨x, B, d, e, hb, by simpa [RB] using hc 0 _ rfl, hB⟩
theorem add_at (x : Addr) (k j : Nat) (hj : 0 < j) : x.add (k + j) = ⟨(x.add k).block, (x.add k).off + j, none⟩ := by
  rw [← add_plus]
  obtain ⟨j, rfl⟩ : ∃ i, j = i + 1 := ⟨j - 1, by omega⟩
  simp [Addr.add]
/-- a slice of slices of bytes, in the elder word -/
theorem RdS.rows {F : Nat → Prop} {w : World} {A : Option Addr} {c : Nat} {ls : List (List UInt8)} (h : RdS RB F w A c ls) : RdRows w A ls.length ls := by
  have hx : ∀ k l, ls[k]? = some l → ∃ a B d, A = some a ∧ a.block < w.heap.size ∧ w.cell? (a.add k) = some (.slice B l.length d) ∧ Sl w B l.length d l := by
    intro k l hl
    obtain ⟨a, cs, e, _, hb, hc, B, d, rfl, hB⟩ := h.2.2.2 k l hl
    exact ⟨a, B, d, e, hb, by simpa [RB] using hc 0 _ rfl, hB.1⟩
  clear h
  have hex : ∃ us : List Value, us.length = ls.length ∧ ∀ k u l, us[k]? = some u → ls[k]? = some l → (∃ a, A = some a ∧ a.block < w.heap.size ∧ w.cell? (a.add k) = some u) ∧ RowV w u l := by
    refine ⟨(List.range ls.length).map fun k => match A with | some a => (w.cell? (a.add k)).getD undef | none => undef, by simp, fun k u l hu hl => ?_⟩
    obtain ⟨a, B, d, rfl, hb, hc, hs⟩ := hx k l hl
    rw [List.getElem?_map] at hu
    obtain ⟨k', hk', rfl⟩ := Option.map_eq_some_iff.1 hu
    rw [List.getElem?_range (List.getElem?_eq_some_iff.1 hl).1] at hk'
    injection hk' with hk'
    subst hk'
    simp only [hc, Option.getD_some]
    exact ⟨⟨a, rfl, hb, hc⟩, hs.row⟩
  obtain ⟨us, hl, hus⟩ := hex
  refine ⟨rfl, us, ⟨hl, fun k u hu => ?_⟩, fun k u l hu hl => (hus k u l hu hl).2⟩
  have hk : k < ls.length := by rw [← hl]; exact (List.getElem?_eq_some_iff.1 hu).1
  exact (hus k u _ hu (List.getElem?_eq_getElem hk)).1
/-- a row of the call's own, from block base on, whose elements read so, in blocks of G that aren't the row's -/
def OwnS {α : Type} (R : Rdr α) (ty : TypeId) (G : Nat → Prop) (base : Nat) (w : World) (A : Option Addr) (n c : Nat) (xs : List α) : Prop :=
  xs.length = n ∧ ∃ css : List (List Value), css.length = n ∧ w.ownsRow base ty R.sz (.slice A n c) n css.flatten ∧
    ∀ (k : Nat) (x : α) (cs : List Value), xs[k]? = some x → css[k]? = some cs → R.rd (fun b => G b ∧ some b ≠ (Value.slice A n c).ownBlock) w cs x
theorem flat_at {α : Type} {sz : Nat} : ∀ {css : List (List α)} (h : ∀ cs ∈ css, cs.length = sz) {k j : Nat} {cs : List α} {u : α}, css[k]? = some cs → cs[j]? = some u → css.flatten[k * sz + j]? = some u
  | [], _, k, j, cs, u, hk, _ => by simp at hk
  | c0 :: r, h, 0, j, cs, u, hk, hj => by
    obtain rfl := Option.some.inj hk
    have := (List.getElem?_eq_some_iff.1 hj).1
    rw [List.flatten_cons, Nat.zero_mul, Nat.zero_add, List.getElem?_append_left this]
    exact hj
  | c0 :: r, h, k + 1, j, cs, u, hk, hj => by
    have hl : c0.length = sz := h c0 (List.mem_cons_self ..)
    have e : (k + 1) * sz + j = c0.length + (k * sz + j) := by rw [hl, Nat.add_mul]; omega
    rw [List.flatten_cons, e, List.getElem?_append_right (by omega), Nat.add_sub_cancel_left]
    exact flat_at (fun cs hc => h cs (List.mem_cons_of_mem _ hc)) (by simpa using hk) hj
section
variable {α : Type} {R : Rdr α} {ty : TypeId} {G : Nat → Prop} {base : Nat} {w w' : World} {A : Option Addr} {n c : Nat} {xs : List α}
theorem OwnS.len (h : OwnS R ty G base w A n c xs) : xs.length = n := h.1
theorem OwnS.nil_ (R : Rdr α) (ty : TypeId) (G : Nat → Prop) (base : Nat) (w : World) : OwnS R ty G base w none 0 0 [] := ⟨rfl, [], rfl, World.ownsRow_nil w base ty R.sz, fun k x cs h => by simp at h⟩
theorem OwnS.empty (R : Rdr α) (ty : TypeId) (G : Nat → Prop) (w : World) : OwnS R ty G w.heap.size (w.alloc (.cells #[] ty)) (some ⟨w.heap.size, 0, none⟩) 0 0 [] :=
  ⟨rfl, [], rfl, World.ownsRow_made (base := w.heap.size) (e := ty) (size := R.sz) w #[] 0 (Nat.le_refl _) (by simp [maxLen]) (by simp), fun k x cs h => by simp at h⟩
theorem OwnS.below (h : OwnS R ty G base w A n c xs) (hb : Below w.heap.size w w') : OwnS R ty G base w' A n c xs := by
  obtain ⟨h1, css, h2, h3, h4⟩ := h
  exact ⟨h1, css, h2, World.ownsRow.kept h3 (grown_of_below hb none) (by cases (Value.slice A n c).ownBlock <;> simp), fun k x cs hx hc => R.below (h4 k x cs hx hc) hb⟩
theorem OwnS.block (h : OwnS R ty G base w A n c xs) : ∀ g, (Value.slice A n c).ownBlock = some g → base ≤ g := by
  obtain ⟨_, css, _, h3, _⟩ := h
  exact fun g hg => (World.ownsRow.lt h3 g hg).1
theorem OwnS.block_lt (h : OwnS R ty G base w A n c xs) : ∀ g, (Value.slice A n c).ownBlock = some g → g < w.heap.size := by
  obtain ⟨_, css, _, h3, _⟩ := h
  exact fun g hg => (World.ownsRow.lt h3 g hg).2
theorem OwnS.cap (h : OwnS R ty G base w A n c xs) : n ≤ c ∧ c ≤ maxLen ∧ (A = none → c = 0) := by
  obtain ⟨_, css, _, ho, _⟩ := h
  rcases ho.2 with ⟨e1, e2⟩ | ⟨g, cap, cur, e1, _, _, hnc, hcm, _⟩
  · injection e1 with e3 _ e5
    subst e3 e5
    exact ⟨by omega, by simp [maxLen], fun _ => rfl⟩
  · injection e1 with e3 _ e5
    subst e3 e5
    exact ⟨hnc, hcm, fun e => by cases e⟩
theorem OwnS.rds (h : OwnS R ty G base w A n c xs) (hG : ∀ b, base ≤ b → G b) : RdS R G w A c xs := by
  obtain ⟨hn, hc1, hc2⟩ := (⟨h.1, h.cap.2.1, h.cap.2.2⟩ : xs.length = n ∧ c ≤ maxLen ∧ (A = none → c = 0))
  have hle := h.cap.1
  obtain ⟨_, css, hcl, ho, hin⟩ := h
  refine ⟨by omega, hc1, hc2, fun k x hx => ?_⟩
  have hk : k < n := by rw [← hn]; exact (List.getElem?_eq_some_iff.1 hx).1
  have hu := List.getElem?_eq_getElem (show k < css.length by omega)
  obtain ⟨g, cap, hv, hg, hlt⟩ := World.ownsRow.form ho (by omega)
  injection hv with hA _ _
  subst hA
  refine ⟨_, css[k], rfl, hG _ hg, hlt, fun j u hj => ?_, R.keep (hin k x _ hx hu) ⟨Nat.le_refl _, fun _ _ _ => rfl⟩ fun b hb _ => hb.1⟩
  refine World.ownsRow.cells ho (g := g) rfl _ u (flat_at (sz := R.sz) (fun cs hcs => ?_) hu hj)
  obtain ⟨i, hi, e⟩ := List.getElem_of_mem hcs
  have := hin i (xs[i]'(by omega)) cs (List.getElem?_eq_getElem (by omega)) (by rw [List.getElem?_eq_getElem hi, e])
  exact R.len this
/-- one more element behind the others -/
theorem OwnS.push {F : Nat → Prop} {cs : List Value} {x : α} {A' : Option Addr} {c' : Nat} (h1 : xs.length = n) {css : List (List Value)} (h2 : css.length = n)
    (h3 : ∀ (k : Nat) (x : α) (cs : List Value), xs[k]? = some x → css[k]? = some cs → R.rd (fun b => G b ∧ some b ≠ (Value.slice A n c).ownBlock) w cs x)
    (hx : R.rd F w cs x) (hF : ∀ b, F b → b < w.heap.size → G b ∧ some b ≠ (Value.slice A n c).ownBlock) (hg : w.grownBy w' (Value.slice A n c).ownBlock)
    (ho : w'.ownsRow base ty R.sz (.slice A' (n + 1) c') (n + 1) (css.flatten ++ cs)) (hr : (Value.slice A' (n + 1) c').ownBlock = (Value.slice A n c).ownBlock ∨ (Value.slice A' (n + 1) c').ownBlock = some w.heap.size) :
    OwnS R ty G base w' A' (n + 1) c' (xs ++ [x]) := by
  have hkeep : ∀ b, (G b ∧ some b ≠ (Value.slice A n c).ownBlock) → b < w.heap.size → G b ∧ some b ≠ (Value.slice A' (n + 1) c').ownBlock := by
    rintro b ⟨hb1, hb2⟩ hl
    refine ⟨hb1, ?_⟩
    rcases hr with e | e
    · rw [e]; exact hb2
    · rw [e]; intro q; injection q with q; omega
  have hK : Kp (fun b => G b ∧ some b ≠ (Value.slice A n c).ownBlock) w w' := Kp.of_grown hg fun b hb => hb.2
  refine ⟨by simp [h1], css ++ [cs], by simp [h2], by simpa using ho, fun k y ds hy hd => ?_⟩
  rcases Nat.lt_or_ge k n with hk | hk
  · rw [List.getElem?_append_left (by omega)] at hy hd
    exact R.keep (h3 k y ds hy hd) hK hkeep
  · rw [List.getElem?_append_right (by omega)] at hy hd
    have hk0 : k = n := by
      have := (List.getElem?_eq_some_iff.1 hy).1
      simp at this; omega
    subst hk0
    simp only [h1, h2, Nat.sub_self, List.getElem?_cons_zero, Option.some.injEq] at hy hd
    subst hy hd
    exact R.keep (R.keep hx ⟨Nat.le_refl _, fun _ _ _ => rfl⟩ hF) hK hkeep
end
/-- a new row: all else is as it was -/
def FreshS {α : Type} (R : Rdr α) (xs : List α) (w : World) (e : Ending) (w' : World) : Prop :=
  ∃ A c, e = .returned (.slice A xs.length c) ∧ RdS R (From w.heap.size) w' A c xs ∧ Below w.heap.size w w'
end Go.Proofs.Ytfbdmemjojjgnaa
