import Derived.Test.YtfdmnnbcnaofgaaDoorMacBlock
import Derived.Test.YtfdmnnbcnaofgaaDoorRows1
namespace Go.Proofs.YtfdmnnbcnaofgaaDoor
open Go.RowKit
open Sh
set_option linter.unusedVariables false

/-- a slice of bytes that may stand in a row -/
def Sl (w : World) (A : Option Addr) (n c : Nat) (l : List UInt8) : Prop := n ≤ c ∧ c ≤ maxLen ∧ Rd w A n (l.map bv) ∧ (A = none → c = 0)
theorem Sl.len {w : World} {A : Option Addr} {n c : Nat} {l : List UInt8} (h : Sl w A n c l) : l.length = n := by simpa using h.2.2.1.1
theorem Sl.rd {w : World} {A : Option Addr} {n c : Nat} {l : List UInt8} (h : Sl w A n c l) : Rd w A n (l.map bv) := h.2.2.1
theorem Sl.below {w w' : World} {A : Option Addr} {n c : Nat} {l : List UInt8} (h : Sl w A n c l) (hb : Below w.heap.size w w') : Sl w' A n c l := ⟨h.1, h.2.1, h.2.2.1.below hb, h.2.2.2⟩
theorem Sl.alloc {w : World} {A : Option Addr} {n c : Nat} {l : List UInt8} (h : Sl w A n c l) (o : Obj) : Sl (w.alloc o) A n c l := ⟨h.1, h.2.1, h.2.2.1.alloc o, h.2.2.2⟩
theorem Sl.nil_ (w : World) : Sl w none 0 0 [] := ⟨Nat.le_refl _, by simp [maxLen], Rd.nil_ _ _, fun _ => rfl⟩
theorem Sl.own {w : World} {base : Nat} {A : Option Addr} {n c : Nat} {l : List UInt8} (h : OwnB w base A n c l) : Sl w A n c l :=
  ⟨(own_cap h).1, (own_cap h).2, h.rd, fun e => by subst e; exact own_none h⟩
theorem Sl.row {w : World} {A : Option Addr} {n c : Nat} {l : List UInt8} (h : Sl w A n c l) : RowV w (.slice A n c) l := by
  have hl := h.len
  subst hl
  exact ⟨A, c, rfl, h.1, h.2.1, h.2.2.1, h.2.2.2⟩
theorem Sl.of_in {w : World} {A : Option Addr} {n c : Nat} {l : List UInt8} (h : InB w (.slice A n c) l) : Sl w A n c l := by
  obtain ⟨A', n', c', e, h1, h2, h3, h4⟩ := h
  injection e with e1 e2 e3
  subst e1 e2 e3
  exact ⟨h1, h2, h3, h4⟩
/-- rows that a call builds in place -/
theorem rows_one (W : World) (B : Option Addr) (n c : Nat) (l : List UInt8) (h : Sl W B n c l) : RdRows (W.alloc (.cells #[.slice B n c] 22)) (some ⟨W.heap.size, 0, none⟩) 1 [l] := by
  refine ⟨rfl, [.slice B n c], Rd.new W [_] _, fun k u x hu hx => ?_⟩
  match k, hu, hx with
  | 0, hu, hx =>
    simp only [List.getElem?_cons_zero, Option.some.injEq] at hu hx
    subst hu hx
    exact (h.alloc _).row
theorem rows_two (W : World) (B B' : Option Addr) (n c n' c' : Nat) (l l' : List UInt8) (h : Sl W B n c l) (h' : Sl W B' n' c' l') : RdRows (W.alloc (.cells #[.slice B n c, .slice B' n' c'] 22)) (some ⟨W.heap.size, 0, none⟩) 2 [l, l'] := by
  refine ⟨rfl, [.slice B n c, .slice B' n' c'], Rd.new W [_, _] _, fun k u x hu hx => ?_⟩
  match k, hu, hx with
  | 0, hu, hx =>
    simp only [List.getElem?_cons_zero, Option.some.injEq] at hu hx
    subst hu hx
    exact (h.alloc _).row
  | 1, hu, hx =>
    simp only [List.getElem?_cons_succ, List.getElem?_cons_zero, Option.some.injEq] at hu hx
    subst hu hx
    exact (h'.alloc _).row
theorem Tab.alloc {w : World} (h : Tab w) (o : Obj) : Tab (w.alloc o) := h.below ((Below.refl _ _).alloc (Nat.le_refl _) o) h.1
theorem Tab.kept {w w' : World} (h : Tab w) (hb : Below w.heap.size w w') : Tab w' := h.below hb h.1
theorem below_next {B : Nat} {a b c : World} (h : Below B a b) (k : Below b.heap.size b c) (hB : B ≤ b.heap.size) : Below B a c := h.trans (k.mono hB)
theorem sum_one (W : World) (B : Option Addr) (n c : Nat) (l : List UInt8) (h : Sl W B n c l) (hT : Tab W) (hn : n ≤ 1099511627000) :
    Calls Tryd.prog 30 #[.slice (some ⟨W.heap.size, 0, none⟩) 1 1] (W.alloc (.cells #[.slice B n c] 22)) (Fresh1 (sum l) (W.alloc (.cells #[.slice B n c] 22))) := by
  have := sum_any _ 1 1 [l] _ (rows_one W B n c l h) (hT.alloc _) (by simp only [total, h.len]; omega)
  simpa using this
theorem sum_two (W : World) (B B' : Option Addr) (n c n' c' : Nat) (l l' : List UInt8) (h : Sl W B n c l) (h' : Sl W B' n' c' l') (hT : Tab W) (hn : n ≤ 109951162700) (hn' : n' ≤ 109951162700) :
    Calls Tryd.prog 30 #[.slice (some ⟨W.heap.size, 0, none⟩) 2 2] (W.alloc (.cells #[.slice B n c, .slice B' n' c'] 22)) (Fresh1 (sum (l ++ l')) (W.alloc (.cells #[.slice B n c, .slice B' n' c'] 22))) := by
  have := sum_any _ 2 2 [l, l'] _ (rows_two W B B' n c n' c' l l' h h') (hT.alloc _) (by simp only [total, h.len, h'.len]; omega)
  simpa using this

set_option maxHeartbeats 800000 in
theorem hmac_any (A B : Option Addr) (n c m d : Nat) (key b : List UInt8) (w : World) (h : Sl w A n c key) (h' : Sl w B m d b) (hT : Tab w) (hn : n ≤ 68719476736) (hm : m ≤ 68719476736) :
    Calls Tryd.prog 13 #[.slice A n c, .slice B m d] w (Fresh1 (hmac key b) w) := by
  have HB := Lib.hid h'
  have HT := Lib.hid hT
  have H92 := Lib.hid (show ∀ A n c key W, Rd W A n (key.map bv) → n ≤ 64 → Calls Tryd.prog 31 #[.slice A n c, .int .u8 92] W (Fresh1 (over 92 key 64) W) from fun A n c key W h hn => block_any A n c key 92 W h hn)
  have H54 := Lib.hid (show ∀ A n c key W, Rd W A n (key.map bv) → n ≤ 64 → Calls Tryd.prog 31 #[.slice A n c, .int .u8 54] W (Fresh1 (over 54 key 64) W) from fun A n c key W h hn => block_any A n c key 54 W h hn)
  have HS1 := Lib.hid (fun W B n c l h hT hn => sum_one W B n c l h hT hn)
  have HS2 := Lib.hid (fun W B B' n c n' c' l l' h h' hT hn hn' => sum_two W B B' n c n' c' l l' h h' hT hn hn')
  have HX := Lib.hid h.len
  have HK := Lib.hid (show hmac key b = sum (over 92 (hkey key) 64 ++ sum (over 54 (hkey key) 64 ++ b)) from rfl)
  clear h' hT
  rcases Nat.lt_or_ge 64 n with hl | hl
  · have HSUM := Lib.hid (HS1.out w A n c key h HT.out (by omega))
    have HHK := Lib.hid (show hkey key = sum key by unfold hkey; rw [if_pos (by rw [HX.out]; exact hl)])
    clear h
    go_enter Tryd.func13, Tryd.ntmps13
    go_wp2_with fail
    refine HSUM.out.mono ?_
    rintro e w1 ⟨A1, n1, c1, rfl, ho1, hb1⟩
    have hn1 : n1 = 32 := by rw [← ho1.len, sum_len]
    subst hn1
    have HO1 := Lib.hid (show Sl w1 A1 32 c1 (hkey key) by rw [HHK.out]; exact Sl.own ho1)
    have HB1 := Lib.hid (below_next ((Below.refl w.heap.size w).alloc (Nat.le_refl _) (.cells #[.slice A n c] 22)) hb1 (by simp))
    clear ho1 hb1
    go_wp2_with fail
    refine (H92.out A1 32 c1 (hkey key) w1 HO1.out.rd (by omega)).mono ?_
    rintro e w2 ⟨A2, n2, c2, rfl, ho2, hb2⟩
    have hn2 : n2 = 64 := by rw [← ho2.len, over_len]
    subst hn2
    have HO2 := Lib.hid (Sl.own ho2)
    have HB2 := Lib.hid hb2
    clear ho2 hb2
    go_wp2_with fail
    refine (H54.out A1 32 c1 (hkey key) w2 (HO1.out.below HB2.out).rd (by omega)).mono ?_
    rintro e w3 ⟨A3, n3, c3, rfl, ho3, hb3⟩
    have hn3 : n3 = 64 := by rw [← ho3.len, over_len]
    subst hn3
    have HO3 := Lib.hid (Sl.own ho3)
    have b12 := below_next HB1.out HB2.out HB1.out.size
    have b13 := below_next b12 hb3 b12.size
    have HB3 := Lib.hid hb3
    have HW3 := Lib.hid b13
    clear ho3 hb3 b12 b13
    go_wp2_with fail
    refine (HS2.out w3 A3 B 64 c3 m d _ b HO3.out (HB.out.below HW3.out) (HT.out.kept HW3.out) (by omega) (by omega)).mono ?_
    rintro e w4 ⟨A4, n4, c4, rfl, ho4, hb4⟩
    have hn4 : n4 = 32 := by rw [← ho4.len, sum_len]
    subst hn4
    have HO4 := Lib.hid (Sl.own ho4)
    have b3a := HW3.out.alloc HW3.out.size (.cells #[.slice A3 64 c3, .slice B m d] 22)
    have b14 := below_next b3a hb4 b3a.size
    have c3a := HB3.out.alloc HB3.out.size (.cells #[.slice A3 64 c3, .slice B m d] 22)
    have HW4 := Lib.hid b14
    have HO2' := Lib.hid (HO2.out.below (below_next c3a hb4 c3a.size))
    clear ho4 hb4 b3a b14 c3a
    go_wp2_with fail
    refine (HS2.out w4 A2 A4 64 c2 32 c4 _ _ HO2'.out HO4.out (HT.out.kept HW4.out) (by omega) (by omega)).mono ?_
    rintro e w5 ⟨A5, n5, c5, rfl, ho5, hb5⟩
    have b4a := HW4.out.alloc HW4.out.size (.cells #[.slice A2 64 c2, .slice A4 32 c4] 22)
    have HFIN := Lib.hid (below_next b4a hb5 b4a.size)
    have HO5 := Lib.hid (ho5.more b4a.size)
    clear b4a ho5 hb5
    go_wp2_with fail
    go_ret
    exact ⟨A5, n5, c5, rfl, by rw [HK.out]; exact HO5.out, HFIN.out⟩
  · have HHK := Lib.hid (show hkey key = key by unfold hkey; rw [if_neg (by rw [HX.out]; omega)])
    have HO1 := Lib.hid (show Sl w A n c (hkey key) by rw [HHK.out]; exact h)
    have HB1 := Lib.hid (Below.refl w.heap.size w)
    clear h
    go_enter Tryd.func13, Tryd.ntmps13
    go_wp2_with fail
    refine (H92.out A n c (hkey key) w HO1.out.rd (by omega)).mono ?_
    rintro e w2 ⟨A2, n2, c2, rfl, ho2, hb2⟩
    have hn2 : n2 = 64 := by rw [← ho2.len, over_len]
    subst hn2
    have HO2 := Lib.hid (Sl.own ho2)
    have HB2 := Lib.hid hb2
    clear ho2 hb2
    go_wp2_with fail
    refine (H54.out A n c (hkey key) w2 (HO1.out.below HB2.out).rd (by omega)).mono ?_
    rintro e w3 ⟨A3, n3, c3, rfl, ho3, hb3⟩
    have hn3 : n3 = 64 := by rw [← ho3.len, over_len]
    subst hn3
    have HO3 := Lib.hid (Sl.own ho3)
    have b12 := below_next HB1.out HB2.out HB1.out.size
    have b13 := below_next b12 hb3 b12.size
    have HB3 := Lib.hid hb3
    have HW3 := Lib.hid b13
    clear ho3 hb3 b12 b13
    go_wp2_with fail
    refine (HS2.out w3 A3 B 64 c3 m d _ b HO3.out (HB.out.below HW3.out) (HT.out.kept HW3.out) (by omega) (by omega)).mono ?_
    rintro e w4 ⟨A4, n4, c4, rfl, ho4, hb4⟩
    have hn4 : n4 = 32 := by rw [← ho4.len, sum_len]
    subst hn4
    have HO4 := Lib.hid (Sl.own ho4)
    have b3a := HW3.out.alloc HW3.out.size (.cells #[.slice A3 64 c3, .slice B m d] 22)
    have b14 := below_next b3a hb4 b3a.size
    have c3a := HB3.out.alloc HB3.out.size (.cells #[.slice A3 64 c3, .slice B m d] 22)
    have HW4 := Lib.hid b14
    have HO2' := Lib.hid (HO2.out.below (below_next c3a hb4 c3a.size))
    clear ho4 hb4 b3a b14 c3a
    go_wp2_with fail
    refine (HS2.out w4 A2 A4 64 c2 32 c4 _ _ HO2'.out HO4.out (HT.out.kept HW4.out) (by omega) (by omega)).mono ?_
    rintro e w5 ⟨A5, n5, c5, rfl, ho5, hb5⟩
    have b4a := HW4.out.alloc HW4.out.size (.cells #[.slice A2 64 c2, .slice A4 32 c4] 22)
    have HFIN := Lib.hid (below_next b4a hb5 b4a.size)
    have HO5 := Lib.hid (ho5.more b4a.size)
    clear b4a ho5 hb5
    go_wp2_with fail
    go_ret
    exact ⟨A5, n5, c5, rfl, by rw [HK.out]; exact HO5.out, HFIN.out⟩
end Go.Proofs.YtfdmnnbcnaofgaaDoor
