/-
  The document's own disk: Trim. Walks; no statement.
-/
import Derived.Test.YtmiejaohkgemnaaDoorRefDisk1
namespace Go.Proofs.YtmiejaohkgemnaaDoor
open Go.RowKit
set_option linter.unusedVariables false

/-- a disk and a number as a call hands them back: each area's bytes are those that were there, or new -/
def DiskS (A0 A1 : Option Addr) (r : PD × Int) (w : World) (e : Ending) (w' : World) : Prop :=
  ∃ B0 n0 c0 B1 n1 c1, e = .returned (.tuple #[.agg #[.int .i64 r.1.power, .slice B0 n0 c0, .slice B1 n1 c1, .int .i64 r.1.s0, .int .i64 r.1.s1], .int .i64 r.2]) ∧ Sl w' B0 n0 c0 r.1.d0 ∧ Sl w' B1 n1 c1 r.1.d1 ∧ Below w.heap.size w w' ∧
    (B0 = A0 ∨ ∀ a, B0 = some a → w.heap.size ≤ a.block ∧ a.block < w'.heap.size) ∧ (B1 = A1 ∨ ∀ a, B1 = some a → w.heap.size ≤ a.block ∧ a.block < w'.heap.size)
theorem own_le {w : World} {base n c : Nat} {A : Option Addr} {l : List UInt8} (h : OwnB w base A n c l) : ∀ a, A = some a → base ≤ a.block ∧ a.block < w.heap.size := by
  rintro a rfl
  exact World.ownsRow.lt h a.block rfl
theorem five_set {X : World} {g : Nat} {t : TypeId} {x0 x1 x2 x3 x4 : Value} (k : Bk X g t [x0, x1, x2, x3, x4]) (a b c d e : Value) : Bk (((((X.setCell ⟨g, 0, none⟩ a).setCell ⟨g, 1, none⟩ b).setCell ⟨g, 2, none⟩ c).setCell ⟨g, 3, none⟩ d).setCell ⟨g, 4, none⟩ e) g t [a, b, c, d, e] :=
  ((((k.set 0 a).set 1 b).set 2 c).set 3 d).set 4 e
theorem five_below {B g : Nat} {w X : World} (h : Below B w X) (hg : B ≤ g) (a b c d e : Value) : Below B w (((((X.setCell ⟨g, 0, none⟩ a).setCell ⟨g, 1, none⟩ b).setCell ⟨g, 2, none⟩ c).setCell ⟨g, 3, none⟩ d).setCell ⟨g, 4, none⟩ e) :=
  below_set (below_set (below_set (below_set (below_set h hg 0 a) hg 1 b) hg 2 c) hg 3 d) hg 4 e
set_option maxHeartbeats 1000000 in
theorem refTrim_0 (p s0 s1 n : Int) (A0 A1 : Option Addr) (n0 c0 n1 c1 : Nat) (l0 l1 : List UInt8) (w : World) (h0 : Sl w A0 n0 c0 l0) (h1 : Sl w A1 n1 c1 l1) (b0 : n0 ≤ 1099511627776) (hp : -9223372036854775808 ≤ p ∧ p ≤ 9223372036854775807) :
    Calls Tryd.prog 39 #[.agg #[.int .i64 p, .slice A0 n0 c0, .slice A1 n1 c1, .int .i64 s0, .int .i64 s1], .int .i64 0, .int .i64 n] w (DiskS A0 A1 (PD.trim ⟨p, l0, l1, s0, s1⟩ 0 n) w) := by
  have hb := ((Below.refl w.heap.size w).alloc (Nat.le_refl _) (.cells #[.int .i64 p, .slice A0 n0 c0, .slice A1 n1 c1, .int .i64 s0, .int .i64 s1] 36)).alloc (by simp) (.cells #[.int .i64 0, .slice none 0 0, .slice none 0 0, .int .i64 0, .int .i64 0] 36)
  have hl0 := h0.len
  have HB2 := Lib.hid hb
  have HA := Lib.hid (refArea 0 ((w.alloc (.cells #[.int .i64 p, .slice A0 n0 c0, .slice A1 n1 c1, .int .i64 s0, .int .i64 s1] 36)).alloc (.cells #[.int .i64 0, .slice none 0 0, .slice none 0 0, .int .i64 0, .int .i64 0] 36)))
  have HK := Lib.hid (show known 0 = true from rfl)
  have HS0 := Lib.hid h0
  have HS1 := Lib.hid h1
  have kb0 := (Bk.new w 36 [.int .i64 p, .slice A0 n0 c0, .slice A1 n1 c1, .int .i64 s0, .int .i64 s1]).alloc (.cells #[.int .i64 0, .slice none 0 0, .slice none 0 0, .int .i64 0, .int .i64 0] 36)
  have kz0 := bk_new2 w (.cells #[.int .i64 p, .slice A0 n0 c0, .slice A1 n1 c1, .int .i64 s0, .int .i64 s1] 36) [.int .i64 0, .slice none 0 0, .slice none 0 0, .int .i64 0, .int .i64 0] 36
  have HKB := Lib.hid kb0
  have HKZ := Lib.hid kz0
  clear h0 h1 kb0 kz0 hb
  by_cases hn : 0 ≤ n ∧ n ≤ (n0 : Int)
  · obtain ⟨hn1, hn2⟩ := hn
    have g1 : (n < 0) = False := by simp; omega
    have g2 : ¬ (n0 : Int) < n := by omega
    by_cases hz : p = 0
    · have HR := Lib.hid (show PD.trim ⟨p, l0, l1, s0, s1⟩ 0 n = (⟨p, l0, l1, s0, s1⟩, 40) by
        unfold PD.trim PD.data
        simp [known, hn1, hz, hl0]
        omega)
      rw [HR.out]
      have HD := Lib.hid (fun w => refDraw p s0 s1 A0 A1 n0 c0 n1 c1 w hp)
      have HE := Lib.hid (show (if p = 0 then (40 : Int) else 0) = 40 by simp [hz])
      have HDP := Lib.hid (show drawn p = p by simp [drawn, hz])
      clear hz
      go_enter Tryd.func39, Tryd.ntmps39
      go_wp2_with fail
      refine HA.out.mono ?_
      rintro e w1 ⟨rfl, rfl⟩
      rw [HK.out]
      go_wp2_with fail
      refine (HD.out _).mono ?_
      rintro e w1 ⟨rfl, hbb⟩
      rw [HE.out, HDP.out]
      have kb := HKB.out.kept hbb
      have kz := HKZ.out.kept hbb
      have HBB := Lib.hid hbb
      have HKB1 := Lib.hid kb
      have HKZ1 := Lib.hid kz
      obtain ⟨q0, q1, q2, q3, q4⟩ := kb.five
      obtain ⟨z0, z1, z2, z3, z4⟩ := kz.five
      have v0 := kb.frozen 0
      have u0 := kz.frozen 0
      have v1 := kb.frozen 1
      have u1 := kz.frozen 1
      have v2 := kb.frozen 2
      have u2 := kz.frozen 2
      have v3 := kb.frozen 3
      have u3 := kz.frozen 3
      have v4 := kb.frozen 4
      have u4 := kz.frozen 4
      clear hbb kb kz
      go_wp2_with fail
      have hbF := five_below (g := w.heap.size + 1) (five_below (g := w.heap.size) (below_next HB2.out HBB.out HB2.out.size) (Nat.le_refl _) (.int .i64 p) (.slice A0 n0 c0) (.slice A1 n1 c1) (.int .i64 s0) (.int .i64 s1)) (Nat.le_succ _) (.int .i64 p) (.slice A0 n0 c0) (.slice A1 n1 c1) (.int .i64 s0) (.int .i64 s1)
      refine bodyPost_ret_by (results_row_tmp rfl _ _ (w.heap.size + 1) 36 _ _ rfl (five_set (HKZ1.out.five_far (by omega) _ _ _ _ _) _ _ _ _ _) Tryd.underlying36 rfl info_disk) rfl ?_
      exact ⟨A0, n0, c0, A1, n1, c1, rfl, HS0.out.below hbF, HS1.out.below hbF, hbF, .inl rfl, .inl rfl⟩
    · obtain ⟨k, rfl⟩ : ∃ k : Nat, n = k := ⟨n.toNat, by omega⟩
      by_cases hs : (k : Int) < s0
      · have HR := Lib.hid (show PD.trim ⟨p, l0, l1, s0, s1⟩ 0 k = (⟨drawn p, l0.take k, l1, (k : Int), s1⟩, 0) by
          unfold PD.trim PD.data
          have hn3 : k ≤ n0 := by omega
          simp [known, hz, hl0, hn3, hs, PD.drew, PD.setData, PD.setSafe, PD.safe])
        rw [HR.out]
        have HD := Lib.hid (fun w => refDraw p s0 s1 A0 A1 n0 c0 n1 c1 w hp)
        have HE := Lib.hid (show (if p = 0 then (40 : Int) else 0) = 0 by simp [hz])
        obtain ⟨dp, hdp⟩ : ∃ dp, dp = drawn p := ⟨_, rfl⟩
        rw [← hdp] at HD ⊢
        have HSK := Lib.hid (show ∀ W, Below w.heap.size w W → Calls Tryd.prog 31 #[.slice A0 k c0] W (Fresh1 (l0.take k) W) from
          fun W hW => copyBytes_any A0 k c0 (l0.take k) W (by have := (HS0.out.below hW).rd.front (k := k) (by omega); rwa [← List.map_take] at this) (by omega))
        have y1 : (k : Int) ≤ (n0 : Int) := hn2
        have y2 : (k : Int) ≤ (c0 : Int) := by have := HS0.out.1; omega
        clear hz hdp
        go_enter Tryd.func39, Tryd.ntmps39
        go_wp2_with fail
        refine HA.out.mono ?_
        rintro e w1 ⟨rfl, rfl⟩
        rw [HK.out]
        go_wp2_with fail
        refine (HD.out _).mono ?_
        rintro e w1 ⟨rfl, hbb⟩
        rw [HE.out]
        have kb := HKB.out.kept hbb
        have kz := HKZ.out.kept hbb
        have HBB := Lib.hid (five_below (g := w.heap.size) (below_next HB2.out hbb HB2.out.size) (Nat.le_refl _) (.int .i64 dp) (.slice A0 n0 c0) (.slice A1 n1 c1) (.int .i64 s0) (.int .i64 s1))
        have HKB1 := Lib.hid (five_set kb (.int .i64 dp) (.slice A0 n0 c0) (.slice A1 n1 c1) (.int .i64 s0) (.int .i64 s1))
        have HKZ1 := Lib.hid (kz.five_far (show w.heap.size + 1 ≠ w.heap.size by omega) (.int .i64 dp) (.slice A0 n0 c0) (.slice A1 n1 c1) (.int .i64 s0) (.int .i64 s1))
        obtain ⟨q0, q1, q2, q3, q4⟩ := kb.five
        obtain ⟨z0, z1, z2, z3, z4⟩ := kz.five
        have v0 := kb.frozen 0
        have u0 := kz.frozen 0
        have v1 := kb.frozen 1
        have u1 := kz.frozen 1
        have v2 := kb.frozen 2
        have u2 := kz.frozen 2
        have v3 := kb.frozen 3
        have u3 := kz.frozen 3
        have v4 := kb.frozen 4
        have u4 := kz.frozen 4
        clear hbb kb kz
        go_wp2_with fail
        refine (HSK.out _ HBB.out).mono ?_
        rintro e w4 ⟨A, m, c, rfl, ho, hb4⟩
        have kb := HKB1.out.kept hb4
        have kz := HKZ1.out.kept hb4
        have HB4 := Lib.hid (below_next HBB.out hb4 HBB.out.size)
        have HO := Lib.hid (Sl.own ho)
        have HK4 := Lib.hid (kb.set 1 (.slice A m c))
        have HK5 := Lib.hid ((kb.set 1 (.slice A m c)).set 3 (.int .i64 (k : Int)))
        have hkz3 := (kz.far (p := ⟨w.heap.size, 1, none⟩) (by simp) (.slice A m c)).far (p := ⟨w.heap.size, 3, none⟩) (by simp) (.int .i64 (k : Int))
        have HO3 := Lib.hid (fun x0 x1 x2 x3 x4 => (ho.off kb (by decide) (grown_set (grown_set (grown_refl w4 (some w.heap.size)) 1 (.slice A m c)) 3 (.int .i64 (k : Int)))).off hkz3 (by decide) (grown_set (grown_set (grown_set (grown_set (grown_set (grown_refl _ (some (w.heap.size + 1))) 0 x0) 1 x1) 2 x2) 3 x3) 4 x4))
        have HKZ3 := Lib.hid hkz3
        clear hkz3
        clear q0 q1 q2 q3 q4 z0 z1 z2 z3 z4 v0 v1 v2 v3 v4 u0 u1 u2 u3 u4
        obtain ⟨q0, q1, q2, q3, q4⟩ := kb.five
        obtain ⟨z0, z1, z2, z3, z4⟩ := kz.five
        have v0 := kb.frozen 0
        have u0 := kz.frozen 0
        have v1 := kb.frozen 1
        have u1 := kz.frozen 1
        have v2 := kb.frozen 2
        have u2 := kz.frozen 2
        have v3 := kb.frozen 3
        have u3 := kz.frozen 3
        have v4 := kb.frozen 4
        have u4 := kz.frozen 4
        clear ho hb4 kb kz HKB1 HKZ1
        go_wp2_with fail
        have hbF := five_below (g := w.heap.size + 1) (below_set (below_set HB4.out (Nat.le_refl _) 1 (.slice A m c)) (Nat.le_refl _) 3 (.int .i64 (k : Int))) (Nat.le_succ _) (.int .i64 dp) (.slice A m c) (.slice A1 n1 c1) (.int .i64 (k : Int)) (.int .i64 s1)
        refine bodyPost_ret_by (results_row_tmp rfl _ _ (w.heap.size + 1) 36 _ _ rfl (five_set HKZ3.out _ _ _ _ _) Tryd.underlying36 rfl info_disk) rfl ?_
        exact ⟨A, m, c, A1, n1, c1, rfl, Sl.own (HO3.out (.int .i64 dp) (.slice A m c) (.slice A1 n1 c1) (.int .i64 (k : Int)) (.int .i64 s1)), HS1.out.below hbF, hbF, .inr (fun a e => ⟨Nat.le_trans HBB.out.size (own_le (HO3.out (.int .i64 dp) (.slice A m c) (.slice A1 n1 c1) (.int .i64 (k : Int)) (.int .i64 s1)) a e).1, (own_le (HO3.out (.int .i64 dp) (.slice A m c) (.slice A1 n1 c1) (.int .i64 (k : Int)) (.int .i64 s1)) a e).2⟩), .inl rfl⟩
      · have HR := Lib.hid (show PD.trim ⟨p, l0, l1, s0, s1⟩ 0 k = (⟨drawn p, l0.take k, l1, s0, s1⟩, 0) by
          unfold PD.trim PD.data
          have hn3 : k ≤ n0 := by omega
          simp [known, hz, hl0, hn3, hs, PD.drew, PD.setData, PD.setSafe, PD.safe])
        rw [HR.out]
        have HD := Lib.hid (fun w => refDraw p s0 s1 A0 A1 n0 c0 n1 c1 w hp)
        have HE := Lib.hid (show (if p = 0 then (40 : Int) else 0) = 0 by simp [hz])
        obtain ⟨dp, hdp⟩ : ∃ dp, dp = drawn p := ⟨_, rfl⟩
        rw [← hdp] at HD ⊢
        have HSK := Lib.hid (show ∀ W, Below w.heap.size w W → Calls Tryd.prog 31 #[.slice A0 k c0] W (Fresh1 (l0.take k) W) from
          fun W hW => copyBytes_any A0 k c0 (l0.take k) W (by have := (HS0.out.below hW).rd.front (k := k) (by omega); rwa [← List.map_take] at this) (by omega))
        have y1 : (k : Int) ≤ (n0 : Int) := hn2
        have y2 : (k : Int) ≤ (c0 : Int) := by have := HS0.out.1; omega
        clear hz hdp
        go_enter Tryd.func39, Tryd.ntmps39
        go_wp2_with fail
        refine HA.out.mono ?_
        rintro e w1 ⟨rfl, rfl⟩
        rw [HK.out]
        go_wp2_with fail
        refine (HD.out _).mono ?_
        rintro e w1 ⟨rfl, hbb⟩
        rw [HE.out]
        have kb := HKB.out.kept hbb
        have kz := HKZ.out.kept hbb
        have HBB := Lib.hid (five_below (g := w.heap.size) (below_next HB2.out hbb HB2.out.size) (Nat.le_refl _) (.int .i64 dp) (.slice A0 n0 c0) (.slice A1 n1 c1) (.int .i64 s0) (.int .i64 s1))
        have HKB1 := Lib.hid (five_set kb (.int .i64 dp) (.slice A0 n0 c0) (.slice A1 n1 c1) (.int .i64 s0) (.int .i64 s1))
        have HKZ1 := Lib.hid (kz.five_far (show w.heap.size + 1 ≠ w.heap.size by omega) (.int .i64 dp) (.slice A0 n0 c0) (.slice A1 n1 c1) (.int .i64 s0) (.int .i64 s1))
        obtain ⟨q0, q1, q2, q3, q4⟩ := kb.five
        obtain ⟨z0, z1, z2, z3, z4⟩ := kz.five
        have v0 := kb.frozen 0
        have u0 := kz.frozen 0
        have v1 := kb.frozen 1
        have u1 := kz.frozen 1
        have v2 := kb.frozen 2
        have u2 := kz.frozen 2
        have v3 := kb.frozen 3
        have u3 := kz.frozen 3
        have v4 := kb.frozen 4
        have u4 := kz.frozen 4
        clear hbb kb kz
        go_wp2_with fail
        refine (HSK.out _ HBB.out).mono ?_
        rintro e w4 ⟨A, m, c, rfl, ho, hb4⟩
        have kb := HKB1.out.kept hb4
        have kz := HKZ1.out.kept hb4
        have HB4 := Lib.hid (below_next HBB.out hb4 HBB.out.size)
        have HO := Lib.hid (Sl.own ho)
        have HK4 := Lib.hid (kb.set 1 (.slice A m c))
        have HK5 := Lib.hid ((kb.set 1 (.slice A m c)).set 3 (.int .i64 s0))
        have hkz3 := kz.far (p := ⟨w.heap.size, 1, none⟩) (by simp) (.slice A m c)
        have HO3 := Lib.hid (fun x0 x1 x2 x3 x4 => (ho.off kb (by decide) (grown_set (grown_refl w4 (some w.heap.size)) 1 (.slice A m c))).off hkz3 (by decide) (grown_set (grown_set (grown_set (grown_set (grown_set (grown_refl _ (some (w.heap.size + 1))) 0 x0) 1 x1) 2 x2) 3 x3) 4 x4))
        have HKZ3 := Lib.hid hkz3
        clear hkz3
        clear q0 q1 q2 q3 q4 z0 z1 z2 z3 z4 v0 v1 v2 v3 v4 u0 u1 u2 u3 u4
        obtain ⟨q0, q1, q2, q3, q4⟩ := kb.five
        obtain ⟨z0, z1, z2, z3, z4⟩ := kz.five
        have v0 := kb.frozen 0
        have u0 := kz.frozen 0
        have v1 := kb.frozen 1
        have u1 := kz.frozen 1
        have v2 := kb.frozen 2
        have u2 := kz.frozen 2
        have v3 := kb.frozen 3
        have u3 := kz.frozen 3
        have v4 := kb.frozen 4
        have u4 := kz.frozen 4
        clear ho hb4 kb kz HKB1 HKZ1
        go_wp2_with fail
        have hbF := five_below (g := w.heap.size + 1) (below_set HB4.out (Nat.le_refl _) 1 (.slice A m c)) (Nat.le_succ _) (.int .i64 dp) (.slice A m c) (.slice A1 n1 c1) (.int .i64 s0) (.int .i64 s1)
        refine bodyPost_ret_by (results_row_tmp rfl _ _ (w.heap.size + 1) 36 _ _ rfl (five_set HKZ3.out _ _ _ _ _) Tryd.underlying36 rfl info_disk) rfl ?_
        exact ⟨A, m, c, A1, n1, c1, rfl, Sl.own (HO3.out (.int .i64 dp) (.slice A m c) (.slice A1 n1 c1) (.int .i64 s0) (.int .i64 s1)), HS1.out.below hbF, hbF, .inr (fun a e => ⟨Nat.le_trans HBB.out.size (own_le (HO3.out (.int .i64 dp) (.slice A m c) (.slice A1 n1 c1) (.int .i64 s0) (.int .i64 s1)) a e).1, (own_le (HO3.out (.int .i64 dp) (.slice A m c) (.slice A1 n1 c1) (.int .i64 s0) (.int .i64 s1)) a e).2⟩), .inl rfl⟩
  · have HR := Lib.hid (show PD.trim ⟨p, l0, l1, s0, s1⟩ 0 n = (⟨p, l0, l1, s0, s1⟩, 41) by
      unfold PD.trim PD.data
      simp [known, hl0]
      omega)
    rw [HR.out]
    have HB := Lib.hid (bk_new2 w (.cells #[.int .i64 p, .slice A0 n0 c0, .slice A1 n1 c1, .int .i64 s0, .int .i64 s1] 36) [.int .i64 p, .slice A0 n0 c0, .slice A1 n1 c1, .int .i64 s0, .int .i64 s1] 36)
    have hb2 := ((Below.refl w.heap.size w).alloc (Nat.le_refl _) (.cells #[.int .i64 p, .slice A0 n0 c0, .slice A1 n1 c1, .int .i64 s0, .int .i64 s1] 36)).alloc (by simp) (.cells #[.int .i64 p, .slice A0 n0 c0, .slice A1 n1 c1, .int .i64 s0, .int .i64 s1] 36)
    have HBF := Lib.hid hb2
    clear hb2
    by_cases hn1 : n < 0
    · clear hn
      go_enter Tryd.func39, Tryd.ntmps39
      go_wp2_with fail
      refine HA.out.mono ?_
      rintro e w1 ⟨rfl, rfl⟩
      rw [HK.out]
      go_wp2_with fail
      refine bodyPost_ret_by (results_row_tmp rfl _ _ (w.heap.size + 1) 36 _ _ rfl HB.out Tryd.underlying36 rfl info_disk) rfl ?_
      exact ⟨A0, n0, c0, A1, n1, c1, rfl, HS0.out.below HBF.out, HS1.out.below HBF.out, HBF.out, .inl rfl, .inl rfl⟩
    · have g2 : (n0 : Int) < n := by omega
      clear hn
      go_enter Tryd.func39, Tryd.ntmps39
      go_wp2_with fail
      refine HA.out.mono ?_
      rintro e w1 ⟨rfl, rfl⟩
      rw [HK.out]
      go_wp2_with fail
      refine bodyPost_ret_by (results_row_tmp rfl _ _ (w.heap.size + 1) 36 _ _ rfl HB.out Tryd.underlying36 rfl info_disk) rfl ?_
      exact ⟨A0, n0, c0, A1, n1, c1, rfl, HS0.out.below HBF.out, HS1.out.below HBF.out, HBF.out, .inl rfl, .inl rfl⟩
set_option maxHeartbeats 1000000 in
theorem refTrim_1 (p s0 s1 n : Int) (A0 A1 : Option Addr) (n0 c0 n1 c1 : Nat) (l0 l1 : List UInt8) (w : World) (h0 : Sl w A0 n0 c0 l0) (h1 : Sl w A1 n1 c1 l1) (b0 : n1 ≤ 1099511627776) (hp : -9223372036854775808 ≤ p ∧ p ≤ 9223372036854775807) :
    Calls Tryd.prog 39 #[.agg #[.int .i64 p, .slice A0 n0 c0, .slice A1 n1 c1, .int .i64 s0, .int .i64 s1], .int .i64 1, .int .i64 n] w (DiskS A0 A1 (PD.trim ⟨p, l0, l1, s0, s1⟩ 1 n) w) := by
  have hb := ((Below.refl w.heap.size w).alloc (Nat.le_refl _) (.cells #[.int .i64 p, .slice A0 n0 c0, .slice A1 n1 c1, .int .i64 s0, .int .i64 s1] 36)).alloc (by simp) (.cells #[.int .i64 0, .slice none 0 0, .slice none 0 0, .int .i64 0, .int .i64 0] 36)
  have hl0 := h1.len
  have HB2 := Lib.hid hb
  have HA := Lib.hid (refArea 1 ((w.alloc (.cells #[.int .i64 p, .slice A0 n0 c0, .slice A1 n1 c1, .int .i64 s0, .int .i64 s1] 36)).alloc (.cells #[.int .i64 0, .slice none 0 0, .slice none 0 0, .int .i64 0, .int .i64 0] 36)))
  have HK := Lib.hid (show known 1 = true from rfl)
  have HS0 := Lib.hid h0
  have HS1 := Lib.hid h1
  have kb0 := (Bk.new w 36 [.int .i64 p, .slice A0 n0 c0, .slice A1 n1 c1, .int .i64 s0, .int .i64 s1]).alloc (.cells #[.int .i64 0, .slice none 0 0, .slice none 0 0, .int .i64 0, .int .i64 0] 36)
  have kz0 := bk_new2 w (.cells #[.int .i64 p, .slice A0 n0 c0, .slice A1 n1 c1, .int .i64 s0, .int .i64 s1] 36) [.int .i64 0, .slice none 0 0, .slice none 0 0, .int .i64 0, .int .i64 0] 36
  have HKB := Lib.hid kb0
  have HKZ := Lib.hid kz0
  clear h0 h1 kb0 kz0 hb
  by_cases hn : 0 ≤ n ∧ n ≤ (n1 : Int)
  · obtain ⟨hn1, hn2⟩ := hn
    have g1 : (n < 0) = False := by simp; omega
    have g2 : ¬ (n1 : Int) < n := by omega
    by_cases hz : p = 0
    · have HR := Lib.hid (show PD.trim ⟨p, l0, l1, s0, s1⟩ 1 n = (⟨p, l0, l1, s0, s1⟩, 40) by
        unfold PD.trim PD.data
        simp [known, hn1, hz, hl0]
        omega)
      rw [HR.out]
      have HD := Lib.hid (fun w => refDraw p s0 s1 A0 A1 n0 c0 n1 c1 w hp)
      have HE := Lib.hid (show (if p = 0 then (40 : Int) else 0) = 40 by simp [hz])
      have HDP := Lib.hid (show drawn p = p by simp [drawn, hz])
      clear hz
      go_enter Tryd.func39, Tryd.ntmps39
      go_wp2_with fail
      refine HA.out.mono ?_
      rintro e w1 ⟨rfl, rfl⟩
      rw [HK.out]
      go_wp2_with fail
      refine (HD.out _).mono ?_
      rintro e w1 ⟨rfl, hbb⟩
      rw [HE.out, HDP.out]
      have kb := HKB.out.kept hbb
      have kz := HKZ.out.kept hbb
      have HBB := Lib.hid hbb
      have HKB1 := Lib.hid kb
      have HKZ1 := Lib.hid kz
      obtain ⟨q0, q1, q2, q3, q4⟩ := kb.five
      obtain ⟨z0, z1, z2, z3, z4⟩ := kz.five
      have v0 := kb.frozen 0
      have u0 := kz.frozen 0
      have v1 := kb.frozen 1
      have u1 := kz.frozen 1
      have v2 := kb.frozen 2
      have u2 := kz.frozen 2
      have v3 := kb.frozen 3
      have u3 := kz.frozen 3
      have v4 := kb.frozen 4
      have u4 := kz.frozen 4
      clear hbb kb kz
      go_wp2_with fail
      have hbF := five_below (g := w.heap.size + 1) (five_below (g := w.heap.size) (below_next HB2.out HBB.out HB2.out.size) (Nat.le_refl _) (.int .i64 p) (.slice A0 n0 c0) (.slice A1 n1 c1) (.int .i64 s0) (.int .i64 s1)) (Nat.le_succ _) (.int .i64 p) (.slice A0 n0 c0) (.slice A1 n1 c1) (.int .i64 s0) (.int .i64 s1)
      refine bodyPost_ret_by (results_row_tmp rfl _ _ (w.heap.size + 1) 36 _ _ rfl (five_set (HKZ1.out.five_far (by omega) _ _ _ _ _) _ _ _ _ _) Tryd.underlying36 rfl info_disk) rfl ?_
      exact ⟨A0, n0, c0, A1, n1, c1, rfl, HS0.out.below hbF, HS1.out.below hbF, hbF, .inl rfl, .inl rfl⟩
    · obtain ⟨k, rfl⟩ : ∃ k : Nat, n = k := ⟨n.toNat, by omega⟩
      by_cases hs : (k : Int) < s1
      · have HR := Lib.hid (show PD.trim ⟨p, l0, l1, s0, s1⟩ 1 k = (⟨drawn p, l0, l1.take k, s0, (k : Int)⟩, 0) by
          unfold PD.trim PD.data
          have hn3 : k ≤ n1 := by omega
          simp [known, hz, hl0, hn3, hs, PD.drew, PD.setData, PD.setSafe, PD.safe])
        rw [HR.out]
        have HD := Lib.hid (fun w => refDraw p s0 s1 A0 A1 n0 c0 n1 c1 w hp)
        have HE := Lib.hid (show (if p = 0 then (40 : Int) else 0) = 0 by simp [hz])
        obtain ⟨dp, hdp⟩ : ∃ dp, dp = drawn p := ⟨_, rfl⟩
        rw [← hdp] at HD ⊢
        have HSK := Lib.hid (show ∀ W, Below w.heap.size w W → Calls Tryd.prog 31 #[.slice A1 k c1] W (Fresh1 (l1.take k) W) from
          fun W hW => copyBytes_any A1 k c1 (l1.take k) W (by have := (HS1.out.below hW).rd.front (k := k) (by omega); rwa [← List.map_take] at this) (by omega))
        have y1 : (k : Int) ≤ (n1 : Int) := hn2
        have y2 : (k : Int) ≤ (c1 : Int) := by have := HS1.out.1; omega
        clear hz hdp
        go_enter Tryd.func39, Tryd.ntmps39
        go_wp2_with fail
        refine HA.out.mono ?_
        rintro e w1 ⟨rfl, rfl⟩
        rw [HK.out]
        go_wp2_with fail
        refine (HD.out _).mono ?_
        rintro e w1 ⟨rfl, hbb⟩
        rw [HE.out]
        have kb := HKB.out.kept hbb
        have kz := HKZ.out.kept hbb
        have HBB := Lib.hid (five_below (g := w.heap.size) (below_next HB2.out hbb HB2.out.size) (Nat.le_refl _) (.int .i64 dp) (.slice A0 n0 c0) (.slice A1 n1 c1) (.int .i64 s0) (.int .i64 s1))
        have HKB1 := Lib.hid (five_set kb (.int .i64 dp) (.slice A0 n0 c0) (.slice A1 n1 c1) (.int .i64 s0) (.int .i64 s1))
        have HKZ1 := Lib.hid (kz.five_far (show w.heap.size + 1 ≠ w.heap.size by omega) (.int .i64 dp) (.slice A0 n0 c0) (.slice A1 n1 c1) (.int .i64 s0) (.int .i64 s1))
        obtain ⟨q0, q1, q2, q3, q4⟩ := kb.five
        obtain ⟨z0, z1, z2, z3, z4⟩ := kz.five
        have v0 := kb.frozen 0
        have u0 := kz.frozen 0
        have v1 := kb.frozen 1
        have u1 := kz.frozen 1
        have v2 := kb.frozen 2
        have u2 := kz.frozen 2
        have v3 := kb.frozen 3
        have u3 := kz.frozen 3
        have v4 := kb.frozen 4
        have u4 := kz.frozen 4
        clear hbb kb kz
        go_wp2_with fail
        refine (HSK.out _ HBB.out).mono ?_
        rintro e w4 ⟨A, m, c, rfl, ho, hb4⟩
        have kb := HKB1.out.kept hb4
        have kz := HKZ1.out.kept hb4
        have HB4 := Lib.hid (below_next HBB.out hb4 HBB.out.size)
        have HO := Lib.hid (Sl.own ho)
        have HK4 := Lib.hid (kb.set 2 (.slice A m c))
        have HK5 := Lib.hid ((kb.set 2 (.slice A m c)).set 4 (.int .i64 (k : Int)))
        have hkz3 := (kz.far (p := ⟨w.heap.size, 2, none⟩) (by simp) (.slice A m c)).far (p := ⟨w.heap.size, 4, none⟩) (by simp) (.int .i64 (k : Int))
        have HO3 := Lib.hid (fun x0 x1 x2 x3 x4 => (ho.off kb (by decide) (grown_set (grown_set (grown_refl w4 (some w.heap.size)) 2 (.slice A m c)) 4 (.int .i64 (k : Int)))).off hkz3 (by decide) (grown_set (grown_set (grown_set (grown_set (grown_set (grown_refl _ (some (w.heap.size + 1))) 0 x0) 1 x1) 2 x2) 3 x3) 4 x4))
        have HKZ3 := Lib.hid hkz3
        clear hkz3
        clear q0 q1 q2 q3 q4 z0 z1 z2 z3 z4 v0 v1 v2 v3 v4 u0 u1 u2 u3 u4
        obtain ⟨q0, q1, q2, q3, q4⟩ := kb.five
        obtain ⟨z0, z1, z2, z3, z4⟩ := kz.five
        have v0 := kb.frozen 0
        have u0 := kz.frozen 0
        have v1 := kb.frozen 1
        have u1 := kz.frozen 1
        have v2 := kb.frozen 2
        have u2 := kz.frozen 2
        have v3 := kb.frozen 3
        have u3 := kz.frozen 3
        have v4 := kb.frozen 4
        have u4 := kz.frozen 4
        clear ho hb4 kb kz HKB1 HKZ1
        go_wp2_with fail
        have hbF := five_below (g := w.heap.size + 1) (below_set (below_set HB4.out (Nat.le_refl _) 2 (.slice A m c)) (Nat.le_refl _) 4 (.int .i64 (k : Int))) (Nat.le_succ _) (.int .i64 dp) (.slice A0 n0 c0) (.slice A m c) (.int .i64 s0) (.int .i64 (k : Int))
        refine bodyPost_ret_by (results_row_tmp rfl _ _ (w.heap.size + 1) 36 _ _ rfl (five_set HKZ3.out _ _ _ _ _) Tryd.underlying36 rfl info_disk) rfl ?_
        exact ⟨A0, n0, c0, A, m, c, rfl, HS0.out.below hbF, Sl.own (HO3.out (.int .i64 dp) (.slice A0 n0 c0) (.slice A m c) (.int .i64 s0) (.int .i64 (k : Int))), hbF, .inl rfl, .inr (fun a e => ⟨Nat.le_trans HBB.out.size (own_le (HO3.out (.int .i64 dp) (.slice A0 n0 c0) (.slice A m c) (.int .i64 s0) (.int .i64 (k : Int))) a e).1, (own_le (HO3.out (.int .i64 dp) (.slice A0 n0 c0) (.slice A m c) (.int .i64 s0) (.int .i64 (k : Int))) a e).2⟩)⟩
      · have HR := Lib.hid (show PD.trim ⟨p, l0, l1, s0, s1⟩ 1 k = (⟨drawn p, l0, l1.take k, s0, s1⟩, 0) by
          unfold PD.trim PD.data
          have hn3 : k ≤ n1 := by omega
          simp [known, hz, hl0, hn3, hs, PD.drew, PD.setData, PD.setSafe, PD.safe])
        rw [HR.out]
        have HD := Lib.hid (fun w => refDraw p s0 s1 A0 A1 n0 c0 n1 c1 w hp)
        have HE := Lib.hid (show (if p = 0 then (40 : Int) else 0) = 0 by simp [hz])
        obtain ⟨dp, hdp⟩ : ∃ dp, dp = drawn p := ⟨_, rfl⟩
        rw [← hdp] at HD ⊢
        have HSK := Lib.hid (show ∀ W, Below w.heap.size w W → Calls Tryd.prog 31 #[.slice A1 k c1] W (Fresh1 (l1.take k) W) from
          fun W hW => copyBytes_any A1 k c1 (l1.take k) W (by have := (HS1.out.below hW).rd.front (k := k) (by omega); rwa [← List.map_take] at this) (by omega))
        have y1 : (k : Int) ≤ (n1 : Int) := hn2
        have y2 : (k : Int) ≤ (c1 : Int) := by have := HS1.out.1; omega
        clear hz hdp
        go_enter Tryd.func39, Tryd.ntmps39
        go_wp2_with fail
        refine HA.out.mono ?_
        rintro e w1 ⟨rfl, rfl⟩
        rw [HK.out]
        go_wp2_with fail
        refine (HD.out _).mono ?_
        rintro e w1 ⟨rfl, hbb⟩
        rw [HE.out]
        have kb := HKB.out.kept hbb
        have kz := HKZ.out.kept hbb
        have HBB := Lib.hid (five_below (g := w.heap.size) (below_next HB2.out hbb HB2.out.size) (Nat.le_refl _) (.int .i64 dp) (.slice A0 n0 c0) (.slice A1 n1 c1) (.int .i64 s0) (.int .i64 s1))
        have HKB1 := Lib.hid (five_set kb (.int .i64 dp) (.slice A0 n0 c0) (.slice A1 n1 c1) (.int .i64 s0) (.int .i64 s1))
        have HKZ1 := Lib.hid (kz.five_far (show w.heap.size + 1 ≠ w.heap.size by omega) (.int .i64 dp) (.slice A0 n0 c0) (.slice A1 n1 c1) (.int .i64 s0) (.int .i64 s1))
        obtain ⟨q0, q1, q2, q3, q4⟩ := kb.five
        obtain ⟨z0, z1, z2, z3, z4⟩ := kz.five
        have v0 := kb.frozen 0
        have u0 := kz.frozen 0
        have v1 := kb.frozen 1
        have u1 := kz.frozen 1
        have v2 := kb.frozen 2
        have u2 := kz.frozen 2
        have v3 := kb.frozen 3
        have u3 := kz.frozen 3
        have v4 := kb.frozen 4
        have u4 := kz.frozen 4
        clear hbb kb kz
        go_wp2_with fail
        refine (HSK.out _ HBB.out).mono ?_
        rintro e w4 ⟨A, m, c, rfl, ho, hb4⟩
        have kb := HKB1.out.kept hb4
        have kz := HKZ1.out.kept hb4
        have HB4 := Lib.hid (below_next HBB.out hb4 HBB.out.size)
        have HO := Lib.hid (Sl.own ho)
        have HK4 := Lib.hid (kb.set 2 (.slice A m c))
        have HK5 := Lib.hid ((kb.set 2 (.slice A m c)).set 4 (.int .i64 s1))
        have hkz3 := kz.far (p := ⟨w.heap.size, 2, none⟩) (by simp) (.slice A m c)
        have HO3 := Lib.hid (fun x0 x1 x2 x3 x4 => (ho.off kb (by decide) (grown_set (grown_refl w4 (some w.heap.size)) 2 (.slice A m c))).off hkz3 (by decide) (grown_set (grown_set (grown_set (grown_set (grown_set (grown_refl _ (some (w.heap.size + 1))) 0 x0) 1 x1) 2 x2) 3 x3) 4 x4))
        have HKZ3 := Lib.hid hkz3
        clear hkz3
        clear q0 q1 q2 q3 q4 z0 z1 z2 z3 z4 v0 v1 v2 v3 v4 u0 u1 u2 u3 u4
        obtain ⟨q0, q1, q2, q3, q4⟩ := kb.five
        obtain ⟨z0, z1, z2, z3, z4⟩ := kz.five
        have v0 := kb.frozen 0
        have u0 := kz.frozen 0
        have v1 := kb.frozen 1
        have u1 := kz.frozen 1
        have v2 := kb.frozen 2
        have u2 := kz.frozen 2
        have v3 := kb.frozen 3
        have u3 := kz.frozen 3
        have v4 := kb.frozen 4
        have u4 := kz.frozen 4
        clear ho hb4 kb kz HKB1 HKZ1
        go_wp2_with fail
        have hbF := five_below (g := w.heap.size + 1) (below_set HB4.out (Nat.le_refl _) 2 (.slice A m c)) (Nat.le_succ _) (.int .i64 dp) (.slice A0 n0 c0) (.slice A m c) (.int .i64 s0) (.int .i64 s1)
        refine bodyPost_ret_by (results_row_tmp rfl _ _ (w.heap.size + 1) 36 _ _ rfl (five_set HKZ3.out _ _ _ _ _) Tryd.underlying36 rfl info_disk) rfl ?_
        exact ⟨A0, n0, c0, A, m, c, rfl, HS0.out.below hbF, Sl.own (HO3.out (.int .i64 dp) (.slice A0 n0 c0) (.slice A m c) (.int .i64 s0) (.int .i64 s1)), hbF, .inl rfl, .inr (fun a e => ⟨Nat.le_trans HBB.out.size (own_le (HO3.out (.int .i64 dp) (.slice A0 n0 c0) (.slice A m c) (.int .i64 s0) (.int .i64 s1)) a e).1, (own_le (HO3.out (.int .i64 dp) (.slice A0 n0 c0) (.slice A m c) (.int .i64 s0) (.int .i64 s1)) a e).2⟩)⟩
  · have HR := Lib.hid (show PD.trim ⟨p, l0, l1, s0, s1⟩ 1 n = (⟨p, l0, l1, s0, s1⟩, 41) by
      unfold PD.trim PD.data
      simp [known, hl0]
      omega)
    rw [HR.out]
    have HB := Lib.hid (bk_new2 w (.cells #[.int .i64 p, .slice A0 n0 c0, .slice A1 n1 c1, .int .i64 s0, .int .i64 s1] 36) [.int .i64 p, .slice A0 n0 c0, .slice A1 n1 c1, .int .i64 s0, .int .i64 s1] 36)
    have hb2 := ((Below.refl w.heap.size w).alloc (Nat.le_refl _) (.cells #[.int .i64 p, .slice A0 n0 c0, .slice A1 n1 c1, .int .i64 s0, .int .i64 s1] 36)).alloc (by simp) (.cells #[.int .i64 p, .slice A0 n0 c0, .slice A1 n1 c1, .int .i64 s0, .int .i64 s1] 36)
    have HBF := Lib.hid hb2
    clear hb2
    by_cases hn1 : n < 0
    · clear hn
      go_enter Tryd.func39, Tryd.ntmps39
      go_wp2_with fail
      refine HA.out.mono ?_
      rintro e w1 ⟨rfl, rfl⟩
      rw [HK.out]
      go_wp2_with fail
      refine bodyPost_ret_by (results_row_tmp rfl _ _ (w.heap.size + 1) 36 _ _ rfl HB.out Tryd.underlying36 rfl info_disk) rfl ?_
      exact ⟨A0, n0, c0, A1, n1, c1, rfl, HS0.out.below HBF.out, HS1.out.below HBF.out, HBF.out, .inl rfl, .inl rfl⟩
    · have g2 : (n1 : Int) < n := by omega
      clear hn
      go_enter Tryd.func39, Tryd.ntmps39
      go_wp2_with fail
      refine HA.out.mono ?_
      rintro e w1 ⟨rfl, rfl⟩
      rw [HK.out]
      go_wp2_with fail
      refine bodyPost_ret_by (results_row_tmp rfl _ _ (w.heap.size + 1) 36 _ _ rfl HB.out Tryd.underlying36 rfl info_disk) rfl ?_
      exact ⟨A0, n0, c0, A1, n1, c1, rfl, HS0.out.below HBF.out, HS1.out.below HBF.out, HBF.out, .inl rfl, .inl rfl⟩
theorem refTrim (p s0 s1 a n : Int) (A0 A1 : Option Addr) (n0 c0 n1 c1 : Nat) (l0 l1 : List UInt8) (w : World) (h0 : Sl w A0 n0 c0 l0) (h1 : Sl w A1 n1 c1 l1) (b0 : n0 ≤ 1099511627776) (b1 : n1 ≤ 1099511627776) (hp : -9223372036854775808 ≤ p ∧ p ≤ 9223372036854775807) :
    Calls Tryd.prog 39 #[.agg #[.int .i64 p, .slice A0 n0 c0, .slice A1 n1 c1, .int .i64 s0, .int .i64 s1], .int .i64 a, .int .i64 n] w (DiskS A0 A1 (PD.trim ⟨p, l0, l1, s0, s1⟩ a n) w) := by
  by_cases a0 : a = 0
  · subst a0
    exact refTrim_0 p s0 s1 n A0 A1 n0 c0 n1 c1 l0 l1 w h0 h1 b0 hp
  · by_cases a1 : a = 1
    · subst a1
      exact refTrim_1 p s0 s1 n A0 A1 n0 c0 n1 c1 l0 l1 w h0 h1 b1 hp
    · have HK := Lib.hid (show known a = false by simp [known, a0, a1])
      have HR := Lib.hid (show PD.trim ⟨p, l0, l1, s0, s1⟩ a n = (⟨p, l0, l1, s0, s1⟩, 41) by unfold PD.trim; rw [HK.out]; rfl)
      rw [HR.out]
      have HA := Lib.hid (refArea a ((w.alloc (.cells #[.int .i64 p, .slice A0 n0 c0, .slice A1 n1 c1, .int .i64 s0, .int .i64 s1] 36)).alloc (.cells #[.int .i64 0, .slice none 0 0, .slice none 0 0, .int .i64 0, .int .i64 0] 36)))
      have HB := Lib.hid (bk_new2 w (.cells #[.int .i64 p, .slice A0 n0 c0, .slice A1 n1 c1, .int .i64 s0, .int .i64 s1] 36) [.int .i64 p, .slice A0 n0 c0, .slice A1 n1 c1, .int .i64 s0, .int .i64 s1] 36)
      have hb2 := ((Below.refl w.heap.size w).alloc (Nat.le_refl _) (.cells #[.int .i64 p, .slice A0 n0 c0, .slice A1 n1 c1, .int .i64 s0, .int .i64 s1] 36)).alloc (by simp) (.cells #[.int .i64 p, .slice A0 n0 c0, .slice A1 n1 c1, .int .i64 s0, .int .i64 s1] 36)
      have HBF := Lib.hid hb2
      have HS0 := Lib.hid h0
      have HS1 := Lib.hid h1
      clear hb2 h0 h1 a0 a1
      go_enter Tryd.func39, Tryd.ntmps39
      go_wp2_with fail
      refine HA.out.mono ?_
      rintro e w1 ⟨rfl, rfl⟩
      rw [HK.out]
      go_wp2_with fail
      refine bodyPost_ret_by (results_row_tmp rfl _ _ (w.heap.size + 1) 36 _ _ rfl HB.out Tryd.underlying36 rfl info_disk) rfl ?_
      exact ⟨A0, n0, c0, A1, n1, c1, rfl, HS0.out.below HBF.out, HS1.out.below HBF.out, HBF.out, .inl rfl, .inl rfl⟩
end Go.Proofs.YtmiejaohkgemnaaDoor
