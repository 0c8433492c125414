/-
  Rows of bytes that lie apart from a set of blocks, and rows that a call puts together out of such and of its own. Plain lemmas; no statement.
-/
import Derived.Test.YtmiejaohkgemnaaDoorMDisks
namespace Go.Proofs.YtmiejaohkgemnaaDoor
open Go.RowKit
set_option linter.unusedVariables false
set_option maxRecDepth 100000

/-- the value u reads as l, and none of its bytes lies in a block of F -/
def RowOff (w : World) (F : Nat → Prop) (u : Value) (l : List UInt8) : Prop :=
  ∃ A c, u = .slice A l.length c ∧ Sl w A l.length c l ∧ ∀ a, A = some a → 0 < l.length → ¬ F a.block
/-- the slice (B, q) reads as ls, and nothing of it lies in a block of F -/
def RowsOff (w : World) (F : Nat → Prop) (B : Option Addr) (q : Nat) (ls : List (List UInt8)) : Prop :=
  ls.length = q ∧ ∃ us : List Value, Rd w B q us ∧ (∀ a, B = some a → 0 < q → ¬ F a.block) ∧ ∀ (k : Nat) (u : Value) (l : List UInt8), us[k]? = some u → ls[k]? = some l → RowOff w F u l
section
variable {w w' : World} {F G : Nat → Prop} {u : Value} {l : List UInt8} {B : Option Addr} {q : Nat} {ls : List (List UInt8)}
theorem RowOff.chg (h : RowOff w F u l) (hc : Chg F w w') : RowOff w' F u l := by
  obtain ⟨A, c, e, ⟨h1, h2, h3, h4⟩, hA⟩ := h
  exact ⟨A, c, e, ⟨h1, h2, hc.rd h3 (fun a e hl => hA a e hl), h4⟩, hA⟩
theorem RowsOff.chg (h : RowsOff w F B q ls) (hc : Chg F w w') : RowsOff w' F B q ls := by
  obtain ⟨h1, us, h2, h3, h4⟩ := h
  exact ⟨h1, us, hc.rd h2 h3, h3, fun k u l hu hl => (h4 k u l hu hl).chg hc⟩
theorem RowsOff.below (h : RowsOff w F B q ls) (hb : Below w.heap.size w w') : RowsOff w' F B q ls := h.chg (Chg.of_below F hb)
theorem RowsOff.rd (h : RowsOff w F B q ls) : RdRows w B q ls := by
  obtain ⟨h1, us, h2, h3, h4⟩ := h
  refine ⟨h1, us, h2, fun k u l hu hl => ?_⟩
  obtain ⟨A, c, rfl, hs, _⟩ := h4 k u l hu hl
  exact hs.row
theorem RowsOff.rds (h : RowsOff w F B q ls) : ∀ w', Chg F w w' → RdRows w' B q ls := fun w' hc => (h.chg hc).rd
theorem RowsOff.less (h : RowsOff w F B q ls) (hG : ∀ i, G i → F i ∨ w.heap.size ≤ i) : RowsOff w G B q ls := by
  obtain ⟨h1, us, h2, h3, h4⟩ := h
  refine ⟨h1, us, h2, fun a e hq hg => ?_, fun k u l hu hl => ?_⟩
  · obtain ⟨a', e', hb, _⟩ := h2.at_ (k := 0) hq
    rw [e] at e'
    injection e' with e'
    subst e'
    exact (hG _ hg).elim (h3 a e hq) (by omega)
  · obtain ⟨A, c, e, hs, hA⟩ := h4 k u l hu hl
    refine ⟨A, c, e, hs, fun a e hq hg => ?_⟩
    obtain ⟨a', e', hb, _⟩ := hs.rd.at_ (k := 0) hq
    rw [e] at e'
    injection e' with e'
    subst e'
    exact (hG _ hg).elim (hA a e hq) (by omega)
theorem RowsOff.nil_ (w : World) (F : Nat → Prop) (B : Option Addr) : RowsOff w F B 0 [] := ⟨rfl, [], Rd.nil_ _ _, fun a e h => by omega, fun k u l h => by simp at h⟩
/-- row k: where it lies -/
theorem RowsOff.at_ (h : RowsOff w F B q ls) {k : Nat} (hk : k < q) : ∃ x u, B = some x ∧ x.block < w.heap.size ∧ w.cell? (x.add k) = some u ∧ RowOff w F u (ls.getD k []) := by
  obtain ⟨h1, us, h2, h3, h4⟩ := h
  obtain ⟨x, e, hb, hc⟩ := h2.at_ hk
  have hus := h2.1
  refine ⟨x, us.getD k undef, e, hb, hc, h4 k _ _ (by rw [List.getD_eq_getElem?_getD, List.getElem?_eq_getElem (by omega)]; simp) (by rw [List.getD_eq_getElem?_getD, List.getElem?_eq_getElem (by omega)]; simp)⟩
theorem OwnRs.off' {base n c : Nat} {A : Option Addr} (h : OwnRs w base A n c ls) (hF : ∀ i, F i → i < base) : RowsOff w F A n ls := by
  have no : ∀ {i : Nat}, base ≤ i → ¬ F i := fun hi hf => by have := hF _ hf; omega
  obtain ⟨h1, us, h2, h3⟩ := h
  refine ⟨h1, us, Rd.own h2, fun a e _ => no (World.ownsRow.lt h2 a.block (by rw [e]; rfl)).1, fun k u l hu hl => ?_⟩
  obtain ⟨A', c', e, ho⟩ := h3 k u l hu hl
  exact ⟨A', c', e, Sl.own ho, fun a e _ => no (own_block_at ho a e)⟩
end
/-- a row that is put among others: one that was there ahead, or one of the call's own -/
def RowK (B0 : Nat) (F : Nat → Prop) (w : World) (u : Value) (l : List UInt8) : Prop :=
  ∃ A c, u = .slice A l.length c ∧ ((Sl w A l.length c l ∧ ∀ a, A = some a → 0 < l.length → ¬ F a.block ∧ a.block < B0) ∨ OwnB w B0 A l.length c l)
section
variable {B0 : Nat} {w w' : World} {F : Nat → Prop} {u : Value} {l : List UInt8}
theorem RowOff.k (h : RowOff w F u l) (hs : w.heap.size = B0) : RowK B0 F w u l := by
  obtain ⟨A, c, e, hsl, hA⟩ := h
  refine ⟨A, c, e, .inl ⟨hsl, fun a e hl => ⟨hA a e hl, ?_⟩⟩⟩
  obtain ⟨a', e', hb, _⟩ := hsl.rd.at_ (k := 0) hl
  rw [e] at e'
  injection e' with e'
  subst e'
  omega
theorem RowK.below (h : RowK B0 F w u l) (hb : Below w.heap.size w w') : RowK B0 F w' u l := by
  obtain ⟨A, c, e, ⟨hs, hA⟩ | ho⟩ := h
  · exact ⟨A, c, e, .inl ⟨hs.below hb, hA⟩⟩
  · exact ⟨A, c, e, .inr (ho.below hb)⟩
theorem RowK.off (h : RowK B0 F w u l) (hF : ∀ i, F i → i < B0) : RowOff w F u l := by
  obtain ⟨A, c, e, ⟨hs, hA⟩ | ho⟩ := h
  · exact ⟨A, c, e, hs, fun a e hl => (hA a e hl).1⟩
  · exact ⟨A, c, e, Sl.own ho, fun a e _ hf => by have := hF _ hf; have := own_block_at ho a e; omega⟩
theorem RowK.grown {n c : Nat} {A : Option Addr} {us : List Value} (h : RowK B0 F w u l) (ho : w.ownsRow B0 32 1 (.slice A n c) n us) (hg : w.grownBy w' (Value.slice A n c).ownBlock) : RowK B0 F w' u l := by
  obtain ⟨A', c', e, ⟨hs, hA⟩ | hO⟩ := h
  · refine ⟨A', c', e, .inl ⟨⟨hs.1, hs.2.1, ?_, hs.2.2.2⟩, hA⟩⟩
    rcases Nat.eq_zero_or_pos l.length with hl | hl
    · have : l = [] := List.eq_nil_of_length_eq_zero hl
      subst this
      exact Rd.nil_ _ _
    · refine hs.rd.grown hg (fun a e q => ?_)
      have h1 := (hA a e hl).2
      have h2 := (World.ownsRow.lt ho a.block q).1
      omega
  · exact ⟨A', c', e, .inr (World.ownsRow.kept hO hg (rows_apart hO ho (by decide)))⟩
end
/-- rows that a call has put together so far -/
def Parts (B0 : Nat) (F : Nat → Prop) (w : World) (A : Option Addr) (n c : Nat) (us : List Value) (ls : List (List UInt8)) : Prop :=
  w.ownsRow B0 32 1 (.slice A n c) n us ∧ ls.length = n ∧ ∀ (k : Nat) (u : Value) (l : List UInt8), us[k]? = some u → ls[k]? = some l → RowK B0 F w u l
section
variable {B0 : Nat} {w w' : World} {F : Nat → Prop} {A A' : Option Addr} {n c c' : Nat} {us vs : List Value} {ls xs : List (List UInt8)}
theorem Parts.below (h : Parts B0 F w A n c us ls) (hb : Below w.heap.size w w') : Parts B0 F w' A n c us ls :=
  ⟨World.ownsRow.kept h.1 (grown_of_below hb none) (by cases (Value.slice A n c).ownBlock <;> simp), h.2.1, fun k u l hu hl => (h.2.2 k u l hu hl).below hb⟩
theorem Parts.nil_ (B0 : Nat) (F : Nat → Prop) (w : World) : Parts B0 F w none 0 0 [] [] := ⟨World.ownsRow_nil w B0 _ 1, rfl, fun k u l h => by simp at h⟩
theorem Parts.rows (h : Parts B0 F w A n c us ls) (hF : ∀ i, F i → i < B0) : RowsOff w F A n ls :=
  ⟨h.2.1, us, Rd.own h.1, fun a e _ hf => by have := hF _ hf; have := (World.ownsRow.lt h.1 a.block (by rw [e]; rfl)).1; omega, fun k u l hu hl => (h.2.2 k u l hu hl).off hF⟩
theorem Parts.block (h : Parts B0 F w A n c us ls) : ∀ g, (Value.slice A n c).ownBlock = some g → B0 ≤ g := fun g hg => (World.ownsRow.lt h.1 g hg).1
/-- some more behind -/
theorem Parts.push {m : Nat} (h : Parts B0 F w A n c us ls) (hm : xs.length = m) (hv : vs.length = m) (hk : ∀ (k : Nat) (u : Value) (l : List UInt8), vs[k]? = some u → xs[k]? = some l → RowK B0 F w u l)
    (hg : w.grownBy w' (Value.slice A n c).ownBlock) (ho : w'.ownsRow B0 32 1 (.slice A' (n + m) c') (n + m) (us ++ vs)) : Parts B0 F w' A' (n + m) c' (us ++ vs) (ls ++ xs) := by
  obtain ⟨h1, h2, h3⟩ := h
  have hus : us.length = n := by simpa using h1.1
  refine ⟨ho, by simp [h2, hm], fun k u l hu hl => ?_⟩
  rcases Nat.lt_or_ge k n with hk' | hk'
  · rw [List.getElem?_append_left (by omega)] at hu hl
    exact (h3 k u l hu hl).grown h1 hg
  · rw [List.getElem?_append_right (by omega)] at hu hl
    rw [hus] at hu
    rw [h2] at hl
    exact (hk _ u l hu hl).grown h1 hg
end
end Go.Proofs.YtmiejaohkgemnaaDoor
