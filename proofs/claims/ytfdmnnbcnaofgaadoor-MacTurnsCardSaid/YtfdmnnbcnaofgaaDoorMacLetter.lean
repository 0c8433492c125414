import Derived.Test.YtfdmnnbcnaofgaaDoorMacEqual
import Derived.Test.YtfdmnnbcnaofgaaDoorOpenL
import Derived.Test.YtfdmnnbcnaofgaaDoorRows2
namespace Go.Proofs.YtfdmnnbcnaofgaaDoor
open Go.RowKit
open Pk Sh
set_option linter.unusedVariables false

theorem own_ne {w : World} {base : Nat} {e t : TypeId} {size n g : Nat} {v : Value} {xs cs : List Value} (h : w.ownsRow base e size v n xs) (hb : Bk w g t cs) (hne : e ≠ t) : v.ownBlock ≠ some g := by
  rcases h.2 with ⟨rfl, _⟩ | ⟨g', cap, cur, rfl, _, hg, _⟩
  · simp [Value.ownBlock]
  · intro he
    have e1 : g' = g := by simpa [Value.ownBlock] using he
    subst e1
    unfold Bk at hb
    rw [hg] at hb
    injection hb with hb
    injection hb with _ ht
    exact hne ht
theorem OwnRs.more {w : World} {base base' : Nat} {A : Option Addr} {n c : Nat} {ls : List (List UInt8)} (h : OwnRs w base A n c ls) (hb : base' ≤ base) : OwnRs w base' A n c ls := by
  obtain ⟨h1, us, h2, h3⟩ := h
  refine ⟨h1, us, ⟨h2.1, ?_⟩, fun k u l hu hl => ?_⟩
  · rcases h2.2 with h | ⟨g, cap, cur, e1, hg, r⟩
    · exact .inl h
    · exact .inr ⟨g, cap, cur, e1, by omega, r⟩
  · obtain ⟨A', c', e, ho⟩ := h3 k u l hu hl
    exact ⟨A', c', e, ho.more hb⟩
/-- what has turned is one block of another type -/
theorem OwnRs.off {w w' : World} {base g : Nat} {t : TypeId} {cs : List Value} {A : Option Addr} {n c : Nat} {ls : List (List UInt8)} (h : OwnRs w base A n c ls) (hb : Bk w g t cs) (h1 : 22 ≠ t) (h2 : 5 ≠ t) (hg : w.grownBy w' (some g)) : OwnRs w' base A n c ls := by
  obtain ⟨hl, us, ho, hin⟩ := h
  refine ⟨hl, us, World.ownsRow.kept ho hg (.inr (own_ne ho hb h1)), fun k u l hu hl' => ?_⟩
  obtain ⟨A', c', e, ho'⟩ := hin k u l hu hl'
  exact ⟨A', c', e, World.ownsRow.kept ho' hg (.inr (own_ne ho' hb h2))⟩
theorem OwnB.off {w w' : World} {base g : Nat} {t : TypeId} {cs : List Value} {A : Option Addr} {n c : Nat} {l : List UInt8} (h : OwnB w base A n c l) (hb : Bk w g t cs) (h2 : 5 ≠ t) (hg : w.grownBy w' (some g)) : OwnB w' base A n c l :=
  World.ownsRow.kept h hg (.inr (own_ne h hb h2))
theorem Bk.five {w : World} {g : Nat} {t : TypeId} {a b c d e : Value} (h : Bk w g t [a, b, c, d, e]) :
    w.cell? ⟨g, 0, none⟩ = some a ∧ w.cell? ⟨g, 1, none⟩ = some b ∧ w.cell? ⟨g, 2, none⟩ = some c ∧ w.cell? ⟨g, 3, none⟩ = some d ∧ w.cell? ⟨g, 4, none⟩ = some e :=
  ⟨h.at_ rfl, h.at_ rfl, h.at_ rfl, h.at_ rfl, h.at_ rfl⟩
theorem info_letter : (Tryd.prog.info? 37).map (·.size) = some 5 := by kernel_rfl
/-- letters that are alike -/
theorem sameLetter_self (f1 f2 r : Int) (A A' B B' : Option Addr) (n c n' c' m d m' d' : Nat) (x : List UInt8) (X : List (List UInt8)) (w : World) (h : Rd w A n (x.map bv)) (h' : Rd w A' n' (x.map bv)) (hr : RdRows w B m X) (hr' : RdRows w B' m' X) (hn : n ≤ maxLen) (hm : m ≤ maxLen) :
    Calls Tryd.prog 21 #[.agg #[.int .i64 f1, .int .i64 f2, .int .i64 r, .slice A n c, .slice B m d], .agg #[.int .i64 f1, .int .i64 f2, .int .i64 r, .slice A' n' c', .slice B' m' d']] w (Tells (.bool true) w) := by
  have HB0 := Lib.hid (((Below.refl w.heap.size w).alloc (Nat.le_refl _) (.cells #[.int .i64 f1, .int .i64 f2, .int .i64 r, .slice A n c, .slice B m d] 37)).alloc (by simp) (.cells #[.int .i64 f1, .int .i64 f2, .int .i64 r, .slice A' n' c', .slice B' m' d'] 37))
  have H1 := Lib.hid (sameBytes_self A A' n n' c c' _ x (h.below HB0.out) (h'.below HB0.out) hn)
  have H2 := Lib.hid (fun k => sameRows_self B B' m m' d d' _ X ((hr.below HB0.out).below (below_drewN (Below.refl _ _) k)) ((hr'.below HB0.out).below (below_drewN (Below.refl _ _) k)) hm)
  clear h h' hr hr'
  go_enter Tryd.func21, Tryd.ntmps21
  go_wp2_with fail
  refine H1.out.mono ?_
  rintro e w1 ⟨rfl, k, rfl⟩
  go_wp2_with fail
  refine (H2.out k).mono ?_
  rintro e w2 ⟨rfl, k2, rfl⟩
  go_wp2_with fail
  go_ret
  exact ⟨rfl, below_drewN HB0.out _⟩

theorem great_any (f1 f2 r : Int) (A B : Option Addr) (n c m d : Nat) (x : List UInt8) (X : List (List UInt8)) (w : World) (hx : x.length = n) (hr : RdRows w B m X) (hm : m ≤ maxLen) (hsz : ∀ l ∈ X, l.length ≤ 140737488355328) :
    Calls Tryd.prog 25 #[.agg #[.int .i64 f1, .int .i64 f2, .int .i64 r, .slice A n c, .slice B m d]] w (Tells (.bool (decide (5000 < x.length ∨ 5000 < total X))) w) := by
  have HB0 := Lib.hid ((Below.refl w.heap.size w).alloc (Nat.le_refl _) (.cells #[.int .i64 f1, .int .i64 f2, .int .i64 r, .slice A n c, .slice B m d] 37))
  have H2 := Lib.hid (rows_any B m d X 5000 _ (hr.below HB0.out) hm (by omega) hsz)
  clear hr hsz
  subst hx
  by_cases h : 5000 < x.length
  · have HD := Lib.hid (show decide (5000 < x.length ∨ 5000 < total X) = true by simp [h])
    have h1 : (5000 : Int) < (x.length : Int) := by omega
    go_enter Tryd.func25, Tryd.ntmps25
    go_wp2_with fail
    go_ret
    exact ⟨ret_bool HD.out.symm, HB0.out⟩
  · have HD := Lib.hid (show decide (5000 < total X) = decide (5000 < x.length ∨ 5000 < total X) by simp [h])
    have h1 : ¬ (5000 : Int) < (x.length : Int) := by omega
    clear h
    go_enter Tryd.func25, Tryd.ntmps25
    go_wp2_with fail
    refine H2.out.mono ?_
    rintro e w1 ⟨rfl, rfl⟩
    go_wp2_with fail
    go_ret
    exact ⟨ret_bool HD.out, HB0.out⟩

/-- a letter in new memory: all else is as it was -/
def FreshL (f1 f2 r : Int) (x : List UInt8) (X : List (List UInt8)) (w : World) (e : Ending) (w' : World) : Prop :=
  ∃ A n c B m d, e = .returned (.agg #[.int .i64 f1, .int .i64 f2, .int .i64 r, .slice A n c, .slice B m d]) ∧ OwnB w' w.heap.size A n c x ∧ OwnRs w' w.heap.size B m d X ∧ Below w.heap.size w w'
theorem copyLetter_any (f1 f2 r : Int) (A B : Option Addr) (n c m d : Nat) (x : List UInt8) (X : List (List UInt8)) (w : World) (h : Rd w A n (x.map bv)) (hr : RdRows w B m X) (hn : n ≤ 1099511627776) (ht : total X ≤ 1099511627776) :
    Calls Tryd.prog 26 #[.agg #[.int .i64 f1, .int .i64 f2, .int .i64 r, .slice A n c, .slice B m d]] w (FreshL f1 f2 r x X w) := by
  have HC := Lib.hid (fun W h => copyBytes_any A n c x W h hn)
  have HR := Lib.hid (fun W h => copyRows_any B m d X W h ht)
  have H := Lib.hid h
  have HRR := Lib.hid hr
  clear h hr
  go_enter Tryd.func26, Tryd.ntmps26
  go_wp2_with fail
  have b0 := ((Below.refl w.heap.size w).alloc (Nat.le_refl _) (.cells #[.int .i64 f1, .int .i64 f2, .int .i64 r, .slice A n c, .slice B m d] 37)).alloc (by simp) (.cells #[.int .i64 0, .int .i64 0, .int .i64 0, .slice none 0 0, .slice none 0 0] 37)
  have HB0 := Lib.hid b0
  have HK0 := Lib.hid ((Bk.new w 37 [.int .i64 f1, .int .i64 f2, .int .i64 r, .slice A n c, .slice B m d]).alloc (.cells #[.int .i64 0, .int .i64 0, .int .i64 0, .slice none 0 0, .slice none 0 0] 37))
  have hk1 := Bk.new (w.alloc (.cells #[.int .i64 f1, .int .i64 f2, .int .i64 r, .slice A n c, .slice B m d] 37)) 37 [.int .i64 0, .int .i64 0, .int .i64 0, .slice none 0 0, .slice none 0 0]
  rw [show (w.alloc (.cells #[.int .i64 f1, .int .i64 f2, .int .i64 r, .slice A n c, .slice B m d] 37)).heap.size = w.heap.size + 1 by simp] at hk1
  have HK1 := Lib.hid hk1
  clear b0 hk1
  refine (HC.out _ (H.out.below HB0.out)).mono ?_
  rintro e w1 ⟨A1, n1, c1, rfl, ho1, hb1⟩
  have HW1 := Lib.hid (below_next HB0.out hb1 HB0.out.size)
  have k0 := HK0.out.kept hb1
  have k1 := HK1.out.kept hb1
  obtain ⟨c00, c01, c02, c03, c04⟩ := k0.five
  have f03 := k0.frozen 3
  have hw2 := below_set HW1.out (Nat.le_refl _) 3 (.slice A1 n1 c1)
  have k0' := k0.set 3 (.slice A1 n1 c1)
  have k1' := k1.far (p := ⟨w.heap.size, 3, none⟩) (by show w.heap.size + 1 ≠ w.heap.size; omega) (.slice A1 n1 c1)
  have HW2 := Lib.hid hw2
  have HK0' := Lib.hid k0'
  have HK1' := Lib.hid k1'
  have HO1 := Lib.hid (show OwnB (w1.setCell ⟨w.heap.size, 3, none⟩ (.slice A1 n1 c1)) w.heap.size A1 n1 c1 x from
    World.ownsRow.kept (ho1.more HB0.out.size) (grown_set (grown_refl w1 (some w.heap.size)) 3 (.slice A1 n1 c1)) (.inr (own_ne ho1 k0 (by decide))))
  clear k0 k1 hb1 ho1 hw2 k0' k1'
  go_wp2_with fail
  refine (HR.out _ (HRR.out.below HW2.out)).mono ?_
  rintro e w2 ⟨B2, m2, d2, rfl, ho2, hb2⟩
  have k0 := HK0'.out.kept hb2
  have k1 := HK1'.out.kept hb2
  have c00 := k0.at_ (i := 0) rfl
  have c01 := k0.at_ (i := 1) rfl
  have c02 := k0.at_ (i := 2) rfl
  have c03 := k0.at_ (i := 3) rfl
  have c04 := k0.at_ (i := 4) rfl
  have f04 := k0.frozen 4
  obtain ⟨c10, c11, c12, c13, c14⟩ := k1.five
  have f10 := k1.frozen 0
  have f11 := k1.frozen 1
  have f12 := k1.frozen 2
  have f13 := k1.frozen 3
  have f14 := k1.frozen 4
  have HO2 := Lib.hid (ho2.more HW2.out.size)
  have HO1' := Lib.hid (HO1.out.below hb2)
  have HW3 := Lib.hid (below_next HW2.out hb2 HW2.out.size)
  have HK0 := Lib.hid k0
  have HK1 := Lib.hid k1
  clear k0 k1 hb2 ho2
  go_wp2_with fail
  have ka := HK1.out.far (p := ⟨w.heap.size, 4, none⟩) (by show w.heap.size + 1 ≠ w.heap.size; omega) (.slice B2 m2 d2)
  have kk := ((((ka.set 0 (.int .i64 f1)).set 1 (.int .i64 f2)).set 2 (.int .i64 r)).set 3 (.slice A1 n1 c1)).set 4 (.slice B2 m2 d2)
  have g0 := grown_set (grown_refl w2 (some w.heap.size)) 4 (.slice B2 m2 d2)
  have g1 := grown_set (grown_set (grown_set (grown_set (grown_set (grown_refl (w2.setCell ⟨w.heap.size, 4, none⟩ (.slice B2 m2 d2)) (some (w.heap.size + 1))) 0 (.int .i64 f1)) 1 (.int .i64 f2)) 2 (.int .i64 r)) 3 (.slice A1 n1 c1)) 4 (.slice B2 m2 d2)
  have o1 := (HO1'.out.off HK0.out (by decide) g0).off ka (by decide) g1
  have o2 := (HO2.out.off HK0.out (by decide) (by decide) g0).off ka (by decide) (by decide) g1
  have bf := below_set (below_set (below_set (below_set (below_set (below_set HW3.out (Nat.le_refl _) 4 (.slice B2 m2 d2)) (show w.heap.size ≤ w.heap.size + 1 by omega) 0 (.int .i64 f1)) (show w.heap.size ≤ w.heap.size + 1 by omega) 1 (.int .i64 f2)) (show w.heap.size ≤ w.heap.size + 1 by omega) 2 (.int .i64 r)) (show w.heap.size ≤ w.heap.size + 1 by omega) 3 (.slice A1 n1 c1)) (show w.heap.size ≤ w.heap.size + 1 by omega) 4 (.slice B2 m2 d2)
  refine bodyPost_ret_by (results_cell_row rfl _ _ (w.heap.size + 1) 37 _ _ _ rfl kk Tryd.underlying37 rfl info_letter) rfl ?_
  exact ⟨A1, n1, c1, B2, m2, d2, rfl, o1, o2, bf⟩
end Go.Proofs.YtfdmnnbcnaofgaaDoor
