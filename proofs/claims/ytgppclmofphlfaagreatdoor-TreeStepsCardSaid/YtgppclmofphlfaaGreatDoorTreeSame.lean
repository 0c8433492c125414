/-
  Nodes compared. Walks; no statement.
-/
import Derived.Test.YtgppclmofphlfaaGreatDoorTreeCopy
import Derived.StillTailTactics
namespace Go.Proofs.YtgppclmofphlfaaGreatDoor
set_option maxRecDepth 100000
open Go.RowKit
set_option linter.unusedVariables false

set_option maxHeartbeats 3200000 in
theorem sameLeaf_any (x y : Lf) (A B : Option Addr) (c d : Nat) (F G : Nat → Prop) (w : World) (h : BF F w A c x.data) (h' : BF G w B d y.data) :
    Calls Tryz.prog 27 #[.agg #[.string ⟨x.path.toArray⟩, .slice A x.data.length c, .int .i64 x.ver, .int .i64 x.own, .int .i64 x.next, .int .i64 x.born], .agg #[.string ⟨y.path.toArray⟩, .slice B y.data.length d, .int .i64 y.ver, .int .i64 y.own, .int .i64 y.next, .int .i64 y.born]] w (Tells (.bool (decide (x = y))) w) := by
  have HB0 := Lib.hid (((Below.refl w.heap.size w).alloc (Nat.le_refl _) (.cells #[.string ⟨x.path.toArray⟩, .slice A x.data.length c, .int .i64 x.ver, .int .i64 x.own, .int .i64 x.next, .int .i64 x.born] 50)).alloc (by simp) (.cells #[.string ⟨y.path.toArray⟩, .slice B y.data.length d, .int .i64 y.ver, .int .i64 y.own, .int .i64 y.next, .int .i64 y.born] 50))
  have HC := Lib.hid (sameBytes_any A B x.data.length y.data.length c d _ x.data y.data (h.below HB0.out).rd (h'.below HB0.out).rd (Nat.le_trans h.1.1 h.1.2.1))
  clear h h'
  by_cases e0 : x.path = y.path
  rotate_left
  · have b0 : (x.path == y.path) = false := by simpa using e0
    have HD := Lib.hid (show decide (x = y) = false by simp only [decide_eq_false_iff_not]; rintro rfl; exact e0 rfl)
    clear e0
    go_enter Tryz.func27, Tryz.ntmps27
    go_wp2_with fail
    go_ret
    exact ⟨ret_bool HD.out.symm, HB0.out⟩
  have b0 : (x.path == y.path) = true := by simpa using e0
  by_cases e1 : x.data = y.data
  rotate_left
  · have HD := Lib.hid (show decide (x = y) = false by simp only [decide_eq_false_iff_not]; rintro rfl; exact e1 rfl)
    rw [decide_eq_false e1] at HC
    clear e0 e1
    go_enter Tryz.func27, Tryz.ntmps27
    go_wp2_with fail
    refine HC.out.mono ?_
    rintro e w1 ⟨rfl, k, rfl⟩
    go_wp2_with fail
    go_ret
    exact ⟨ret_bool HD.out.symm, below_drewN HB0.out _⟩
  rw [decide_eq_true e1] at HC
  by_cases e2 : x.ver = y.ver
  rotate_left
  · have b2 : (x.ver == y.ver) = false := by simpa using e2
    have HD := Lib.hid (show decide (x = y) = false by simp only [decide_eq_false_iff_not]; rintro rfl; exact e2 rfl)
    clear e0 e1 e2
    go_enter Tryz.func27, Tryz.ntmps27
    go_wp2_with fail
    refine HC.out.mono ?_
    rintro e w1 ⟨rfl, k, rfl⟩
    go_wp2_with fail
    go_ret
    exact ⟨ret_bool HD.out.symm, below_drewN HB0.out _⟩
  have b2 : (x.ver == y.ver) = true := by simpa using e2
  by_cases e3 : x.own = y.own
  rotate_left
  · have b3 : (x.own == y.own) = false := by simpa using e3
    have HD := Lib.hid (show decide (x = y) = false by simp only [decide_eq_false_iff_not]; rintro rfl; exact e3 rfl)
    clear e0 e1 e2 e3
    go_enter Tryz.func27, Tryz.ntmps27
    go_wp2_with fail
    refine HC.out.mono ?_
    rintro e w1 ⟨rfl, k, rfl⟩
    go_wp2_with fail
    go_ret
    exact ⟨ret_bool HD.out.symm, below_drewN HB0.out _⟩
  have b3 : (x.own == y.own) = true := by simpa using e3
  by_cases e4 : x.next = y.next
  rotate_left
  · have b4 : (x.next == y.next) = false := by simpa using e4
    have HD := Lib.hid (show decide (x = y) = false by simp only [decide_eq_false_iff_not]; rintro rfl; exact e4 rfl)
    clear e0 e1 e2 e3 e4
    go_enter Tryz.func27, Tryz.ntmps27
    go_wp2_with fail
    refine HC.out.mono ?_
    rintro e w1 ⟨rfl, k, rfl⟩
    go_wp2_with fail
    go_ret
    exact ⟨ret_bool HD.out.symm, below_drewN HB0.out _⟩
  have b4 : (x.next == y.next) = true := by simpa using e4
  by_cases e5 : x.born = y.born
  rotate_left
  · have b5 : (x.born == y.born) = false := by simpa using e5
    have HD := Lib.hid (show decide (x = y) = false by simp only [decide_eq_false_iff_not]; rintro rfl; exact e5 rfl)
    clear e0 e1 e2 e3 e4 e5
    go_enter Tryz.func27, Tryz.ntmps27
    go_wp2_with fail
    refine HC.out.mono ?_
    rintro e w1 ⟨rfl, k, rfl⟩
    go_wp2_with fail
    go_ret
    exact ⟨ret_bool HD.out.symm, below_drewN HB0.out _⟩
  have b5 : (x.born == y.born) = true := by simpa using e5
  have HD := Lib.hid (show decide (x = y) = true by
    obtain ⟨x1, x2, x3, x4, x5, x6⟩ := x
    obtain ⟨y1, y2, y3, y4, y5, y6⟩ := y
    simp only at e0 e1 e2 e3 e4 e5
    simp [e0, e1, e2, e3, e4, e5])
  clear e0 e1 e2 e3 e4 e5
  go_enter Tryz.func27, Tryz.ntmps27
  go_wp2_with fail
  refine HC.out.mono ?_
  rintro e w1 ⟨rfl, k, rfl⟩
  go_wp2_with fail
  go_ret
  exact ⟨ret_bool HD.out.symm, below_drewN HB0.out _⟩
theorem sameLeaves_len (A A' : Option Addr) (n n' c c' : Nat) (w : World) (hn : n ≠ n') :
    Calls Tryz.prog 36 #[.slice A n c, .slice A' n' c'] w (Tells (.bool false) w) := by
  have h1 : ((n : Int) != (n' : Int)) = true := by rw [bne_iff_ne]; omega
  go_enter Tryz.func36, Tryz.ntmps36
  go_wp2_with fail
  go_ret
  exact ⟨rfl, Below.refl _ _⟩
set_option maxHeartbeats 3200000 in
theorem sameLeaves_eq (A A' : Option Addr) (c c' : Nat) (xs ys : List Lf) (F G : Nat → Prop) (w : World) (hl : xs.length = ys.length) (h : RdS RLf F w A c xs) (h' : RdS RLf G w A' c' ys) :
    Calls Tryz.prog 36 #[.slice A xs.length c, .slice A' xs.length c'] w (Tells (.bool (decide (xs = ys))) w) := by
  have HR := Lib.hid h
  have HR' := Lib.hid h'
  have hml : xs.length ≤ maxLen := Nat.le_trans h.1 h.2.1
  simp only [maxLen] at hml
  have h1 : ((xs.length : Int) != (xs.length : Int)) = false := by simp
  have HLL := Lib.hid hl
  clear h h' hl
  go_enter Tryz.func36, Tryz.ntmps36
  go_wp2_with fail
  go_loopw [5] (fun i wr => ∃ k : Nat, k ≤ xs.length ∧ i = .int .i64 k ∧ Below w.heap.size w wr ∧ xs.take k = ys.take k) (fun i _ => xs.length - (intOf i).toNat)
  case atStart => exact ⟨0, by omega, rfl, Below.refl _ _, by simp⟩
  case round =>
    obtain ⟨k, hk, rfl, hb, ht⟩ := hrel
    have HB := Lib.hid hb
    by_cases hlt : k < xs.length
    · obtain ⟨l, hl⟩ : ∃ l, xs[k]? = some l := ⟨_, List.getElem?_eq_getElem hlt⟩
      obtain ⟨m, hm⟩ : ∃ m, ys[k]? = some m := ⟨_, List.getElem?_eq_getElem (show k < ys.length by have := HLL.out; omega)⟩
      obtain ⟨x, B, d, rfl, hxb, c0, c1, c2, c3, c4, c5, hr⟩ := (HR.out.below hb).lf6 hl
      obtain ⟨y, B', d', rfl, hyb, d0, d1, d2, d3, d4, d5, hr'⟩ := (HR'.out.below hb).lf6 hm
      have HT := Lib.hid (show l = m → xs.take (k + 1) = ys.take (k + 1) from fun e => by
        rw [List.take_add_one, List.take_add_one, hl, hm, ht, e])
      have HF := Lib.hid (show l ≠ m → decide (xs = ys) = false from fun e => by
        simp only [decide_eq_false_iff_not]
        intro q
        rw [q, hm] at hl
        exact e (Option.some.inj hl).symm)
      have HC := Lib.hid (sameLeaf_any l m B B' d d' F G wr.drew hr hr')
      have y1 : (0 : Int) ≤ (k : Int) := by omega
      have y2 : (k : Int) < (xs.length : Int) := by omega
      clear hl hm hb hr hr' hxb hyb ht
      by_cases hlm : l = m
      · have HTT := Lib.hid (HT.out hlm)
        rw [decide_eq_true hlm] at HC
        clear hlm HT HF
        go_wp2_with fail
        go_still_tail 8, (by kernel_rfl)
        change wpList _ _ _ _ _ wr.drew
        go_wp2_with fail
        refine HC.out.mono ?_
        rintro e w1 ⟨rfl, hb1⟩
        have HB1 := Lib.hid (show Below w.heap.size w w1 from (below_drew HB.out).trans (hb1.mono HB.out.size))
        clear hb1
        go_wp2_with fail
        go_roundw
        case rel => exact ⟨k + 1, by omega, by go_num, HB1.out, HTT.out⟩
        case measure => simp [intOf]; omega
      · have HD := Lib.hid (HF.out hlm)
        rw [decide_eq_false hlm] at HC
        clear hlm HT HF
        go_wp2_with fail
        go_still_tail 8, (by kernel_rfl)
        change wpList _ _ _ _ _ wr.drew
        go_wp2_with fail
        refine HC.out.mono ?_
        rintro e w1 ⟨rfl, hb1⟩
        have HB1 := Lib.hid (show Below w.heap.size w w1 from (below_drew HB.out).trans (hb1.mono HB.out.size))
        clear hb1
        go_wp2_with fail
        go_ret
        exact ⟨ret_bool HD.out.symm, HB1.out⟩
    · obtain rfl : k = xs.length := by omega
      have HD := Lib.hid (show decide (xs = ys) = true by
        rw [List.take_of_length_le (Nat.le_refl _), List.take_of_length_le (by rw [HLL.out]; exact Nat.le_refl _)] at ht
        simp [ht])
      clear ht hb
      go_wp2_with fail
      go_ret
      exact ⟨ret_bool HD.out.symm, HB.out⟩
theorem sameLeaves_any (A A' : Option Addr) (c c' : Nat) (xs ys : List Lf) (F G : Nat → Prop) (w : World) (h : RdS RLf F w A c xs) (h' : RdS RLf G w A' c' ys) :
    Calls Tryz.prog 36 #[.slice A xs.length c, .slice A' ys.length c'] w (Tells (.bool (decide (xs = ys))) w) := by
  by_cases e : xs.length = ys.length
  · rw [← e]
    exact sameLeaves_eq A A' c c' xs ys F G w e h h'
  · rw [show decide (xs = ys) = false by simp only [decide_eq_false_iff_not]; rintro rfl; exact e rfl]
    exact sameLeaves_len A A' _ _ c c' w e
end Go.Proofs.YtgppclmofphlfaaGreatDoor
