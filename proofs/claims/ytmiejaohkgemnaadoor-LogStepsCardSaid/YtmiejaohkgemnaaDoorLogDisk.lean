/-
  A log on a disk, as plain values: what each call makes of it. Plain definitions and lemmas; nothing of the program.
-/
import Derived.Test.YtmiejaohkgemnaaDoorLogDev3
import Derived.Test.YtmiejaohkgemnaaDoorMDisks
namespace Go.Proofs.YtmiejaohkgemnaaDoor
open Go.RowKit
set_option linter.unusedVariables false
set_option maxRecDepth 100000

theorem PD.append_flat (P : PD) (a : Int) (parts : List (List UInt8)) : P.append a parts = P.append a [parts.flatten] := by unfold PD.append; simp
namespace Lg
/-- is one of these too long? -/
def longs (ls : List (List UInt8)) : Bool := ls.any fun l => decide (65536 < l.length)
theorem longs_false {ls : List (List UInt8)} (h : longs ls = false) : ∀ l ∈ ls, l.length ≤ 65536 := by
  intro l hl
  unfold longs at h
  rw [List.any_eq_false] at h
  have := h l hl
  simpa using this
theorem longs_of {ls : List (List UInt8)} (h : ∀ l ∈ ls, l.length ≤ 65536) : longs ls = false := by
  unfold longs
  rw [List.any_eq_false]
  intro l hl
  have := h l hl
  simp; omega
/-- a log -/
structure PL where
  D : PD
  a : Int
  gen : Nat
  n : Nat
  list : List (List UInt8)
/-- an area is laid anew -/
def lay (D : PD) (a : Int) (gen : Nat) (ls : List (List UInt8)) : PD × Int :=
  if (D.trim a 0).2 ≠ 0 then D.trim a 0
  else if ((D.trim a 0).1.append a [whole gen ls.length ls]).2 ≠ 0 then (D.trim a 0).1.append a [whole gen ls.length ls]
  else ((D.trim a 0).1.append a [whole gen ls.length ls]).1.sync [a]
/-- of the areas that count the one of the greater generation -/
def upd (st : Option (Int × Ar)) (k : Int) (x : Option Ar) : Option (Int × Ar) :=
  match x with
  | none => st
  | some x => match st with
    | none => some (k, x)
    | some (b, y) => if y.gen < x.gen then some (k, x) else some (b, y)
def best (D : PD) : Option (Int × Ar) := upd (upd none 0 (good D.d0)) 1 (good D.d1)
def opn (D : PD) : PL × Int :=
  match best D with
  | none => (⟨(lay D 0 1 []).1, 0, 1, 0, []⟩, (lay D 0 1 []).2)
  | some (a, x) => if x.rest.length = 0 then (⟨D, a, x.gen, x.laid, x.list⟩, 0)
    else (⟨(D.trim a (((D.data a).length - x.rest.length : Nat) : Int)).1, a, x.gen, x.laid, x.list⟩, (D.trim a (((D.data a).length - x.rest.length : Nat) : Int)).2)
namespace PL
def add (L : PL) (ls : List (List UInt8)) : PL × Int :=
  if longs ls then (L, 13) else if ls.length = 0 then (L, 0)
  else if (L.D.append L.a [frames L.gen (L.list.length + 1) ls]).2 = 0 then (⟨(L.D.append L.a [frames L.gen (L.list.length + 1) ls]).1, L.a, L.gen, L.n, L.list ++ ls⟩, 0)
  else (⟨(L.D.append L.a [frames L.gen (L.list.length + 1) ls]).1, L.a, L.gen, L.n, L.list⟩, (L.D.append L.a [frames L.gen (L.list.length + 1) ls]).2)
def sync (L : PL) : PL × Int := (⟨(L.D.sync [L.a]).1, L.a, L.gen, L.n, L.list⟩, (L.D.sync [L.a]).2)
def lay (L : PL) (ls : List (List UInt8)) : PL × Int :=
  if longs ls then (L, 13)
  else if (Lg.lay L.D (1 - L.a) (L.gen + 1) ls).2 = 0 then (⟨(Lg.lay L.D (1 - L.a) (L.gen + 1) ls).1, 1 - L.a, L.gen + 1, ls.length, ls⟩, 0)
  else (⟨(Lg.lay L.D (1 - L.a) (L.gen + 1) ls).1, L.a, L.gen, L.n, L.list⟩, (Lg.lay L.D (1 - L.a) (L.gen + 1) ls).2)
end PL
theorem good_some {b : List UInt8} {x : Ar} (h : good b = some x) : area b = some x ∧ 1 ≤ x.gen ∧ x.laid ≤ x.list.length := by
  unfold good at h
  cases ha : area b with
  | none => rw [ha] at h; cases h
  | some y =>
    rw [ha] at h
    simp only [Option.bind_some] at h
    split at h
    · rename_i hc
      injection h with h
      subst h
      exact ⟨rfl, hc⟩
    · cases h
open Pk in
theorem nums_ints : ∀ (f : Nat) (p : List UInt8), p.length < f → (intsF f p).1 = 0 → numsN (intsF f p).2 = p := by
  intro f
  induction f with
  | zero => intro p h; omega
  | succ f ih =>
    intro p hp h
    rw [intsF] at h ⊢
    by_cases h1 : p = []
    · subst h1; simp [numsN]
    · rw [if_neg h1] at h ⊢
      by_cases h2 : (rdN p).2.2 = 0
      · rw [if_neg (by omega)] at h ⊢
        have hc := rdN_count h2
        have hr : (restN p).length < f := by unfold restN; rw [if_pos h2, List.length_drop]; omega
        by_cases h3 : (intsF f (restN p)).1 = 0
        · rw [if_neg (by omega)]
          have := ih (restN p) hr h3
          simp only [numsN, Int.toNat_natCast, this]
          exact encN_rdN h2
        · rw [if_pos h3] at h; exact absurd h h3
      · rw [if_pos h2] at h; exact absurd h h2
open Pk in
theorem ints_headB {g n : Nat} (hg : g < 4611686018427387904) (hn : n < 4611686018427387904) : intsN (headB g n) = (0, [(g : Int), (n : Int)]) := by
  have e1 := encN_pos g
  have e2 := encN_pos n
  have h1 := rdN_enc hg (encN n)
  have h2 := rdN_enc hn []
  have r1 := restN_enc hg (encN n)
  have r2 := restN_enc hn []
  rw [List.append_nil] at h2 r2
  unfold intsN headB
  obtain ⟨f, hf⟩ : ∃ f, (encN g ++ encN n).length + 1 = f + 3 := ⟨(encN g ++ encN n).length - 2, by simp; omega⟩
  have ne2 : encN n ≠ [] := fun q => by have := encN_pos n; rw [congrArg List.length q] at this; exact absurd this (by simp)
  have ne1 : encN g ++ encN n ≠ [] := fun q => by have := congrArg List.length q; rw [List.length_append] at this; simp only [List.length_nil] at this; omega
  have i0 : intsF (f + 1) ([] : List UInt8) = (0, []) := by rw [intsF, if_pos rfl]
  have i1 : intsF (f + 2) (encN n) = (0, [(n : Int)]) := by rw [intsF, if_neg ne2, h2, r2, i0]; simp
  rw [hf, intsF, if_neg ne1, h1, r1, i1]
  simp
/-- what an area's frames tell is what its bytes are -/
theorem area_spec {b : List UInt8} {x : Ar} (h : area b = some x) : b = whole x.gen x.laid x.list ++ x.rest ∧ (∀ l ∈ x.list, l.length ≤ 65536) ∧ x.gen < 4611686018427387904 ∧ x.laid < 4611686018427387904 := by
  cases hc : cut b with
  | none => rw [area_none hc] at h; cases h
  | some q =>
    obtain ⟨s, p, r⟩ := q
    by_cases hi : (intsN p).1 = 0 ∧ (intsN p).2.length = 2
    · obtain ⟨g, n, hgn, hg, hn⟩ := ints_two p hi.1 hi.2
      rw [area_two hc hgn] at h
      split at h
      · rename_i hs
        injection h with h
        subst h
        obtain ⟨c1, c2, c3⟩ := cut_some hc
        obtain ⟨r1, r2⟩ := recs_spec g r.length 1 r
        have hp : p = headB g n := by
          have := nums_ints (p.length + 1) p (by omega) hi.1
          rw [show intsF (p.length + 1) p = intsN p from rfl, hgn] at this
          rw [← this]
          simp [numsN, headB]
        refine ⟨?_, r2, hg, hn⟩
        show b = whole g n _ ++ _
        unfold whole
        rw [List.append_assoc, ← r1, c1, hs, ← hp]
        simp [frame]
      · cases h
    · rw [area_bad hc (by omega)] at h; cases h
/-- an area, read back; behind it what is no frame -/
theorem area_whole {g n : Nat} {ls : List (List UInt8)} {t : List UInt8} (hg : g < 4611686018427387904) (hn : n < 4611686018427387904) (hl : ∀ l ∈ ls, l.length ≤ 65536) (ht : cut t = none) :
    area (whole g n ls ++ t) = some ⟨g, n, ls, t⟩ := by
  have hh := headB_le hg hn
  have hc := cut_frame g 0 (headB g n) (frames g 1 ls ++ t) (by omega)
  unfold whole
  rw [List.append_assoc, area_two hc (ints_headB hg hn), if_pos rfl, recs_frames g ls _ 1 t hl (Nat.le_refl _) ht]
theorem cut_nil : cut [] = none := rfl
theorem good_whole {g n : Nat} {ls : List (List UInt8)} {t : List UInt8} (h1 : 1 ≤ g) (hg : g < 4611686018427387904) (hn : n ≤ ls.length) (hn' : n < 4611686018427387904) (hl : ∀ l ∈ ls, l.length ≤ 65536) (ht : cut t = none) :
    good (whole g n ls ++ t) = some ⟨g, n, ls, t⟩ := by
  unfold good
  rw [area_whole hg hn' hl ht]
  simp only [Option.bind_some]
  rw [if_pos ⟨h1, hn⟩]
end Lg
end Go.Proofs.YtmiejaohkgemnaaDoor
