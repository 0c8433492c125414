/-
  The reference's comparisons of entries, letters and messages. Walks; no statement.
-/
import Derived.Test.YtmgmmbgjmnklkaaMsgCopy3
namespace Go.Proofs.Ytmgmmbgjmnklkaa
set_option maxRecDepth 100000
open Go.RowKit
open Pk
set_option linter.unusedVariables false

theorem sameEntry_any (x y : En) (A B : Option Addr) (c d : Nat) (F G : Nat → Prop) (w : World) (h : BF F w A c x.dig) (h' : BF G w B d y.dig) :
    Calls Try.prog 33 #[.agg #[.int .i64 x.c, .int .i64 x.s, .int .i64 x.t, .slice A x.dig.length c], .agg #[.int .i64 y.c, .int .i64 y.s, .int .i64 y.t, .slice B y.dig.length d]] w (Tells (.bool (decide (x = y))) w) := by
  have HB0 := Lib.hid (((Below.refl w.heap.size w).alloc (Nat.le_refl _) (.cells #[.int .i64 x.c, .int .i64 x.s, .int .i64 x.t, .slice A x.dig.length c] 24)).alloc (by simp) (.cells #[.int .i64 y.c, .int .i64 y.s, .int .i64 y.t, .slice B y.dig.length d] 24))
  have HC := Lib.hid (sameBytes_any A B x.dig.length y.dig.length c d _ x.dig y.dig (h.below HB0.out).rd (h'.below HB0.out).rd (Nat.le_trans h.1.1 h.1.2.1))
  clear h h'
  by_cases e0 : x.c = y.c
  rotate_left
  · have b0 : (x.c == y.c) = false := by simpa using e0
    have HD := Lib.hid (show decide (x = y) = false by simp only [decide_eq_false_iff_not]; rintro rfl; exact e0 rfl)
    clear e0
    go_enter Try.func33, Try.ntmps33
    go_wp2_with fail
    go_ret
    exact ⟨ret_bool HD.out.symm, HB0.out⟩
  have b0 : (x.c == y.c) = true := by simpa using e0
  by_cases e1 : x.s = y.s
  rotate_left
  · have b1 : (x.s == y.s) = false := by simpa using e1
    have HD := Lib.hid (show decide (x = y) = false by simp only [decide_eq_false_iff_not]; rintro rfl; exact e1 rfl)
    clear e0 e1
    go_enter Try.func33, Try.ntmps33
    go_wp2_with fail
    go_ret
    exact ⟨ret_bool HD.out.symm, HB0.out⟩
  have b1 : (x.s == y.s) = true := by simpa using e1
  by_cases e2 : x.t = y.t
  rotate_left
  · have b2 : (x.t == y.t) = false := by simpa using e2
    have HD := Lib.hid (show decide (x = y) = false by simp only [decide_eq_false_iff_not]; rintro rfl; exact e2 rfl)
    clear e0 e1 e2
    go_enter Try.func33, Try.ntmps33
    go_wp2_with fail
    go_ret
    exact ⟨ret_bool HD.out.symm, HB0.out⟩
  have b2 : (x.t == y.t) = true := by simpa using e2
  have HD := Lib.hid (show decide (x.dig = y.dig) = decide (x = y) by
    obtain ⟨x1, x2, x3, x4⟩ := x
    obtain ⟨y1, y2, y3, y4⟩ := y
    simp only at e0 e1 e2
    simp [e0, e1, e2])
  clear e0 e1 e2
  go_enter Try.func33, Try.ntmps33
  go_wp2_with fail
  refine HC.out.mono ?_
  rintro e w1 ⟨rfl, k, rfl⟩
  go_wp2_with fail
  go_ret
  exact ⟨ret_bool HD.out, below_drewN HB0.out _⟩

theorem sameLetter_any (x y : Lt) (A B A' B' : Option Addr) (c d c' d' : Nat) (F G : Nat → Prop) (w : World) (h : LtR F w x A c B d) (h' : LtR G w y A' c' B' d') :
    Calls Try.prog 32 #[.agg #[.int .i64 x.f1, .int .i64 x.f2, .int .i64 x.r, .slice A x.body.length c, .slice B x.tags.length d], .agg #[.int .i64 y.f1, .int .i64 y.f2, .int .i64 y.r, .slice A' y.body.length c', .slice B' y.tags.length d']] w (Tells (.bool (decide (x = y))) w) := by
  have HB0 := Lib.hid (((Below.refl w.heap.size w).alloc (Nat.le_refl _) (.cells #[.int .i64 x.f1, .int .i64 x.f2, .int .i64 x.r, .slice A x.body.length c, .slice B x.tags.length d] 46)).alloc (by simp) (.cells #[.int .i64 y.f1, .int .i64 y.f2, .int .i64 y.r, .slice A' y.body.length c', .slice B' y.tags.length d'] 46))
  have HC := Lib.hid (sameBytes_any A A' x.body.length y.body.length c c' _ x.body y.body (h.below HB0.out).1.rd (h'.below HB0.out).1.rd (Nat.le_trans h.1.1.1 h.1.1.2.1))
  have HR := Lib.hid (fun k => sameRows_any B B' x.tags.length y.tags.length d d' _ x.tags y.tags ((h.below HB0.out).2.rows.below (below_drewN (Below.refl _ _) k)) ((h'.below HB0.out).2.rows.below (below_drewN (Below.refl _ _) k)) (Nat.le_trans h.2.1 h.2.2.1))
  clear h h'
  by_cases e0 : x.f1 = y.f1
  rotate_left
  · have b0 : (x.f1 == y.f1) = false := by simpa using e0
    have HD := Lib.hid (show decide (x = y) = false by simp only [decide_eq_false_iff_not]; rintro rfl; exact e0 rfl)
    clear e0
    go_enter Try.func32, Try.ntmps32
    go_wp2_with fail
    go_ret
    exact ⟨ret_bool HD.out.symm, HB0.out⟩
  have b0 : (x.f1 == y.f1) = true := by simpa using e0
  by_cases e1 : x.f2 = y.f2
  rotate_left
  · have b1 : (x.f2 == y.f2) = false := by simpa using e1
    have HD := Lib.hid (show decide (x = y) = false by simp only [decide_eq_false_iff_not]; rintro rfl; exact e1 rfl)
    clear e0 e1
    go_enter Try.func32, Try.ntmps32
    go_wp2_with fail
    go_ret
    exact ⟨ret_bool HD.out.symm, HB0.out⟩
  have b1 : (x.f2 == y.f2) = true := by simpa using e1
  by_cases e2 : x.r = y.r
  rotate_left
  · have b2 : (x.r == y.r) = false := by simpa using e2
    have HD := Lib.hid (show decide (x = y) = false by simp only [decide_eq_false_iff_not]; rintro rfl; exact e2 rfl)
    clear e0 e1 e2
    go_enter Try.func32, Try.ntmps32
    go_wp2_with fail
    go_ret
    exact ⟨ret_bool HD.out.symm, HB0.out⟩
  have b2 : (x.r == y.r) = true := by simpa using e2
  by_cases e3 : x.body = y.body
  rotate_left
  · have B3 := Lib.hid (show decide (x.body = y.body) = false by simpa using e3)
    have HD := Lib.hid (show decide (x = y) = false by simp only [decide_eq_false_iff_not]; rintro rfl; exact e3 rfl)
    clear e0 e1 e2 e3
    rw [B3.out] at HC
    go_enter Try.func32, Try.ntmps32
    go_wp2_with fail
    refine HC.out.mono ?_
    rintro e w1 ⟨rfl, k, rfl⟩
    go_wp2_with fail
    go_ret
    exact ⟨ret_bool HD.out.symm, below_drewN HB0.out _⟩
  have B3 := Lib.hid (show decide (x.body = y.body) = true by simpa using e3)
  have HD := Lib.hid (show decide (x.tags = y.tags) = decide (x = y) by
    obtain ⟨x1, x2, x3, x4, x5⟩ := x
    obtain ⟨y1, y2, y3, y4, y5⟩ := y
    simp only at e0 e1 e2 e3
    simp [e0, e1, e2, e3])
  rw [B3.out] at HC
  clear e0 e1 e2 e3
  go_enter Try.func32, Try.ntmps32
  go_wp2_with fail
  refine HC.out.mono ?_
  rintro e w1 ⟨rfl, k, rfl⟩
  go_wp2_with fail
  refine (HR.out k).mono ?_
  rintro e w2 ⟨rfl, k2, rfl⟩
  go_wp2_with fail
  go_ret
  exact ⟨ret_bool HD.out, below_drewN HB0.out _⟩
end Go.Proofs.Ytmgmmbgjmnklkaa
