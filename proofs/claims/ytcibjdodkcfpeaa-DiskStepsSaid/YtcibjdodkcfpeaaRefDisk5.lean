/-
  The document's own disk: Sync, whatever the areas. Walks; no statement.
-/
import Derived.Test.YtcibjdodkcfpeaaRefDisk4
namespace Go.Proofs.Ytcibjdodkcfpeaa
open Go.RowKit
set_option linter.unusedVariables false

set_option maxHeartbeats 1600000 in
theorem refSync_no (p s0 s1 : Int) (A0 A1 : Option Addr) (n0 c0 n1 c1 : Nat) (l0 l1 : List UInt8) (C : Option Addr) (q qc : Nat) (ar : List Int) (w : World) (h0 : Sl w A0 n0 c0 l0) (h1 : Sl w A1 n1 c1 l1) (hC : Rd w C q (ar.map iv)) (hq : q ≤ maxLen) (hp : -9223372036854775808 ≤ p ∧ p ≤ 9223372036854775807) (hall : ar.all known = false) :
    Calls Try.prog 28 #[.agg #[.int .i64 p, .slice A0 n0 c0, .slice A1 n1 c1, .int .i64 s0, .int .i64 s1], .slice C q qc] w (DiskS A0 A1 (PD.sync ⟨p, l0, l1, s0, s1⟩ ar) w) := by
  have hb := ((Below.refl w.heap.size w).alloc (Nat.le_refl _) (.cells #[.int .i64 p, .slice A0 n0 c0, .slice A1 n1 c1, .int .i64 s0, .int .i64 s1] 32)).alloc (by simp) (.cells #[.int .i64 0, .slice none 0 0, .slice none 0 0, .int .i64 0, .int .i64 0] 32)
  have HB2 := Lib.hid hb
  have hlq : ar.length = q := by simpa using hC.1
  have HQL0 := Lib.hid hlq
  have HS0 := Lib.hid h0
  have HS1 := Lib.hid h1
  have HRC := Lib.hid (hC.below hb)
  have HKB := Lib.hid ((Bk.new w 32 [.int .i64 p, .slice A0 n0 c0, .slice A1 n1 c1, .int .i64 s0, .int .i64 s1]).alloc (.cells #[.int .i64 0, .slice none 0 0, .slice none 0 0, .int .i64 0, .int .i64 0] 32))
  have HKZ := Lib.hid (bk_new2 w (.cells #[.int .i64 p, .slice A0 n0 c0, .slice A1 n1 c1, .int .i64 s0, .int .i64 s1] 32) [.int .i64 0, .slice none 0 0, .slice none 0 0, .int .i64 0, .int .i64 0] 32)
  have HAR := Lib.hid (fun a => refArea a ((w.alloc (.cells #[.int .i64 p, .slice A0 n0 c0, .slice A1 n1 c1, .int .i64 s0, .int .i64 s1] 32)).alloc (.cells #[.int .i64 0, .slice none 0 0, .slice none 0 0, .int .i64 0, .int .i64 0] 32)))
  have hqm := hq
  unfold maxLen at hqm
  have HR := Lib.hid (show PD.sync ⟨p, l0, l1, s0, s1⟩ ar = (⟨p, l0, l1, s0, s1⟩, 41) by unfold PD.sync; rw [hall]; rfl)
  rw [HR.out]
  have HALL := Lib.hid hall
  have HBK := Lib.hid (bk_new2 w (.cells #[.int .i64 p, .slice A0 n0 c0, .slice A1 n1 c1, .int .i64 s0, .int .i64 s1] 32) [.int .i64 p, .slice A0 n0 c0, .slice A1 n1 c1, .int .i64 s0, .int .i64 s1] 32)
  have hb2 := ((Below.refl w.heap.size w).alloc (Nat.le_refl _) (.cells #[.int .i64 p, .slice A0 n0 c0, .slice A1 n1 c1, .int .i64 s0, .int .i64 s1] 32)).alloc (by simp) (.cells #[.int .i64 p, .slice A0 n0 c0, .slice A1 n1 c1, .int .i64 s0, .int .i64 s1] 32)
  have HBF := Lib.hid hb2
  clear h0 h1 hb hC hall hlq hb2 hq
  go_enter Try.func28, Try.ntmps28
  go_wp2_with fail
  go_loop [6] (fun i => ∃ k : Nat, k ≤ q ∧ i = .int .i64 k ∧ Hid ((ar.take k).all known = true)) (fun i => q - (intOf i).toNat)
  case atStart => exact ⟨0, Nat.zero_le _, rfl, Lib.hid (by simp)⟩
  case round =>
    obtain ⟨k, hk, rfl, HT⟩ := hrel
    by_cases hkq : k < q
    · obtain ⟨x, rfl, _, hc⟩ := HRC.out.at_ hkq
      have hkl : k < ar.length := by rw [HQL0.out]; exact hkq
      have gx : (ar.map iv).getD k undef = .int .i64 (ar[k]'hkl) := by simp [iv, hkl]
      rw [gx] at hc
      have HN := Lib.hid (all_next ar k hkl)
      generalize ar[k]'hkl = z at *
      have HAZ := Lib.hid (HAR.out z)
      have y1 : (0 : Int) ≤ (k : Int) := by omega
      have y2 : (k : Int) < (q : Int) := by omega
      have HKQ := Lib.hid hkq
      cases hkn : known z
      · rw [hkn] at HAZ
        clear gx hkn hkq hk hkl
        go_wp2_with fail
        refine HAZ.out.mono ?_
        rintro e w1 ⟨rfl, rfl⟩
        go_wp2_with fail
        refine bodyPost_ret_by (results_row_tmp rfl _ _ (w.heap.size + 1) 32 _ _ rfl HBK.out Try.underlying32 rfl info_disk) rfl ?_
        exact ⟨A0, n0, c0, A1, n1, c1, rfl, HS0.out.below HBF.out, HS1.out.below HBF.out, HBF.out, .inl rfl, .inl rfl⟩
      · rw [hkn] at HAZ
        have HT2 := Lib.hid (show (ar.take (k + 1)).all known = true by rw [HN.out, HT.out, hkn]; rfl)
        clear gx hkn hkq hk hkl
        go_wp2_with fail
        refine HAZ.out.mono ?_
        rintro e w1 ⟨rfl, rfl⟩
        go_wp2_with fail
        go_round
        case rel => exact ⟨k + 1, by have := HKQ.out; omega, by go_num, HT2⟩
        case measure => have := HKQ.out; simp [intOf]; omega
    · exfalso
      have h1 := HT.out
      rw [List.take_of_length_le (by rw [HQL0.out]; omega), HALL.out] at h1
      cases h1
set_option maxHeartbeats 1600000 in
theorem refSync_down (p s0 s1 : Int) (A0 A1 : Option Addr) (n0 c0 n1 c1 : Nat) (l0 l1 : List UInt8) (C : Option Addr) (q qc : Nat) (ar : List Int) (w : World) (h0 : Sl w A0 n0 c0 l0) (h1 : Sl w A1 n1 c1 l1) (hC : Rd w C q (ar.map iv)) (hq : q ≤ maxLen) (hp : -9223372036854775808 ≤ p ∧ p ≤ 9223372036854775807) (hall : ar.all known = true) (hz : p = 0) :
    Calls Try.prog 28 #[.agg #[.int .i64 p, .slice A0 n0 c0, .slice A1 n1 c1, .int .i64 s0, .int .i64 s1], .slice C q qc] w (DiskS A0 A1 (PD.sync ⟨p, l0, l1, s0, s1⟩ ar) w) := by
  have hb := ((Below.refl w.heap.size w).alloc (Nat.le_refl _) (.cells #[.int .i64 p, .slice A0 n0 c0, .slice A1 n1 c1, .int .i64 s0, .int .i64 s1] 32)).alloc (by simp) (.cells #[.int .i64 0, .slice none 0 0, .slice none 0 0, .int .i64 0, .int .i64 0] 32)
  have HB2 := Lib.hid hb
  have hlq : ar.length = q := by simpa using hC.1
  have HQL0 := Lib.hid hlq
  have HS0 := Lib.hid h0
  have HS1 := Lib.hid h1
  have HRC := Lib.hid (hC.below hb)
  have HKB := Lib.hid ((Bk.new w 32 [.int .i64 p, .slice A0 n0 c0, .slice A1 n1 c1, .int .i64 s0, .int .i64 s1]).alloc (.cells #[.int .i64 0, .slice none 0 0, .slice none 0 0, .int .i64 0, .int .i64 0] 32))
  have HKZ := Lib.hid (bk_new2 w (.cells #[.int .i64 p, .slice A0 n0 c0, .slice A1 n1 c1, .int .i64 s0, .int .i64 s1] 32) [.int .i64 0, .slice none 0 0, .slice none 0 0, .int .i64 0, .int .i64 0] 32)
  have HAR := Lib.hid (fun a => refArea a ((w.alloc (.cells #[.int .i64 p, .slice A0 n0 c0, .slice A1 n1 c1, .int .i64 s0, .int .i64 s1] 32)).alloc (.cells #[.int .i64 0, .slice none 0 0, .slice none 0 0, .int .i64 0, .int .i64 0] 32)))
  have hqm := hq
  unfold maxLen at hqm
  have HR := Lib.hid (show PD.sync ⟨p, l0, l1, s0, s1⟩ ar = (⟨p, l0, l1, s0, s1⟩, 40) by unfold PD.sync; rw [hall]; simp [hz])
  rw [HR.out]
  have HALL := Lib.hid hall
  have HD := Lib.hid (fun w => refDraw p s0 s1 A0 A1 n0 c0 n1 c1 w hp)
  have HE := Lib.hid (show (if p = 0 then (40 : Int) else 0) = 40 by simp [hz])
  have HDP := Lib.hid (show drawn p = p by simp [drawn, hz])
  clear h0 h1 hb hC hall hlq hz hq
  go_enter Try.func28, Try.ntmps28
  go_wp2_with fail
  go_loop [6] (fun i => ∃ k : Nat, k ≤ q ∧ i = .int .i64 k) (fun i => q - (intOf i).toNat)
  case atStart => exact ⟨0, Nat.zero_le _, rfl⟩
  case round =>
    obtain ⟨k, hk, rfl⟩ := hrel
    by_cases hkq : k < q
    · obtain ⟨x, rfl, _, hc⟩ := HRC.out.at_ hkq
      have hkl : k < ar.length := by rw [HQL0.out]; exact hkq
      have gx : (ar.map iv).getD k undef = .int .i64 (ar[k]'hkl) := by simp [iv, hkl]
      rw [gx] at hc
      have hkn : known (ar[k]'hkl) = true := List.all_eq_true.1 HALL.out _ (List.getElem_mem hkl)
      generalize ar[k]'hkl = z at *
      have HAZ := Lib.hid (HAR.out z)
      rw [hkn] at HAZ
      have y1 : (0 : Int) ≤ (k : Int) := by omega
      have y2 : (k : Int) < (q : Int) := by omega
      have HKQ := Lib.hid hkq
      clear gx hkn hkq hk hkl
      go_wp2_with fail
      refine HAZ.out.mono ?_
      rintro e w1 ⟨rfl, rfl⟩
      go_wp2_with fail
      go_round
      case rel => exact ⟨k + 1, by have := HKQ.out; omega, by go_num⟩
      case measure => have := HKQ.out; simp [intOf]; omega
    · have y2 : ¬ (k : Int) < (q : Int) := by omega
      clear hkq hk
      go_wp2_with fail
      refine (HD.out _).mono ?_
      rintro e w1 ⟨rfl, hbb⟩
      rw [HE.out, HDP.out]
      have kb := HKB.out.kept hbb
      have kz := HKZ.out.kept hbb
      have HBB := Lib.hid hbb
      have HKB1 := Lib.hid kb
      have HKZ1 := Lib.hid kz
      obtain ⟨q0, q1, q2, q3, q4⟩ := kb.five
      obtain ⟨z0, z1, z2, z3, z4⟩ := kz.five
      have v0 := kb.frozen 0
      have u0 := kz.frozen 0
      have v1 := kb.frozen 1
      have u1 := kz.frozen 1
      have v2 := kb.frozen 2
      have u2 := kz.frozen 2
      have v3 := kb.frozen 3
      have u3 := kz.frozen 3
      have v4 := kb.frozen 4
      have u4 := kz.frozen 4
      clear hbb kb kz
      go_wp2_with fail
      have hbF := five_below (g := w.heap.size + 1) (five_below (g := w.heap.size) (below_next HB2.out HBB.out HB2.out.size) (Nat.le_refl _) (.int .i64 p) (.slice A0 n0 c0) (.slice A1 n1 c1) (.int .i64 s0) (.int .i64 s1)) (Nat.le_succ _) (.int .i64 p) (.slice A0 n0 c0) (.slice A1 n1 c1) (.int .i64 s0) (.int .i64 s1)
      refine bodyPost_ret_by (results_row_tmp rfl _ _ (w.heap.size + 1) 32 _ _ rfl (five_set (HKZ1.out.five_far (by omega) _ _ _ _ _) _ _ _ _ _) Try.underlying32 rfl info_disk) rfl ?_
      exact ⟨A0, n0, c0, A1, n1, c1, rfl, HS0.out.below hbF, HS1.out.below hbF, hbF, .inl rfl, .inl rfl⟩
theorem refSync (p s0 s1 : Int) (A0 A1 : Option Addr) (n0 c0 n1 c1 : Nat) (l0 l1 : List UInt8) (C : Option Addr) (q qc : Nat) (ar : List Int) (w : World) (h0 : Sl w A0 n0 c0 l0) (h1 : Sl w A1 n1 c1 l1) (hC : Rd w C q (ar.map iv)) (hq : q ≤ maxLen) (hp : -9223372036854775808 ≤ p ∧ p ≤ 9223372036854775807) :
    Calls Try.prog 28 #[.agg #[.int .i64 p, .slice A0 n0 c0, .slice A1 n1 c1, .int .i64 s0, .int .i64 s1], .slice C q qc] w (DiskS A0 A1 (PD.sync ⟨p, l0, l1, s0, s1⟩ ar) w) := by
  cases hall : ar.all known
  · exact refSync_no p s0 s1 A0 A1 n0 c0 n1 c1 l0 l1 C q qc ar w h0 h1 hC hq hp hall
  · by_cases hz : p = 0
    · exact refSync_down p s0 s1 A0 A1 n0 c0 n1 c1 l0 l1 C q qc ar w h0 h1 hC hq hp hall hz
    · exact refSync_ok p s0 s1 A0 A1 n0 c0 n1 c1 l0 l1 C q qc ar w h0 h1 hC hq hp hall hz
end Go.Proofs.Ytcibjdodkcfpeaa
