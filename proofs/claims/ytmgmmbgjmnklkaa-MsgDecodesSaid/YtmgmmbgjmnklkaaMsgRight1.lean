/-
  The reference's right, of messages of some kinds. Walks; no statement.
-/
import Derived.Test.YtmgmmbgjmnklkaaMsgRef8
namespace Go.Proofs.Ytmgmmbgjmnklkaa
set_option maxRecDepth 100000
open Go.RowKit
open Pk
set_option linter.unusedVariables false

set_option maxHeartbeats 3200000 in
theorem refRight_1 (v s c t : Int) (e : En) (g d : List UInt8) (pf : List Lt) (pn : List Pv) (q : Mad) (F : Nat → Prop) (w : World) (h : MgR F w (mgOf 1 v s c t e g d pf pn) q) :
    Calls Try.prog 40 #[.agg #[.int .i64 1, .int .i64 v, .int .i64 s, .int .i64 c, .int .i64 t, .int .i64 e.c, .int .i64 e.s, .int .i64 e.t, .slice q.ea e.dig.length q.ec, .slice q.ga g.length q.gc, .slice q.da d.length q.dc, .slice q.pa pf.length q.pc, .slice q.va pn.length q.vc]] w (Tells (.bool (mgOf 1 v s c t e g d pf pn).ok) w) := by
  have hB := (Below.refl w.heap.size w).alloc (Nat.le_refl _) (.cells #[.int .i64 1, .int .i64 v, .int .i64 s, .int .i64 c, .int .i64 t, .int .i64 e.c, .int .i64 e.s, .int .i64 e.t, .slice q.ea e.dig.length q.ec, .slice q.ga g.length q.gc, .slice q.da d.length q.dc, .slice q.pa pf.length q.pc, .slice q.va pn.length q.vc] 28)
  have HB := Lib.hid hB
  have HK := Lib.hid (Bk.new w 28 [.int .i64 1, .int .i64 v, .int .i64 s, .int .i64 c, .int .i64 t, .int .i64 e.c, .int .i64 e.s, .int .i64 e.t, .slice q.ea e.dig.length q.ec, .slice q.ga g.length q.gc, .slice q.da d.length q.dc, .slice q.pa pf.length q.pc, .slice q.va pn.length q.vc])
  have HR := Lib.hid (h.below hB)
  have HP := Lib.hid (show ∀ W, Calls Try.prog 39 #[.int .i64 1] W (Tells (.string ⟨([99, 116, 98] : List UInt8).toArray⟩) W) from fun W => refParts_any 1 W)
  have hd9 : d.length ≤ maxLen := Nat.le_trans h.d.sl.1 h.d.sl.2.1
  have hn9 : pn.length ≤ maxLen := Nat.le_trans h.v.1 h.v.2.1
  simp only [maxLen] at hd9 hn9
  clear h hB
  generalize hok : Mg.ok (mgOf 1 v s c t e g d pf pn) = ok
  have HOK := Lib.hid hok
  clear hok
  go_enter Try.func40, Try.ntmps40
  simp only [List.append]
  go_wp2_with fail
  refine (HP.out _).mono ?_
  rintro e1 w1 ⟨rfl, hb1⟩
  have HB1 := Lib.hid (below_next HB.out hb1 HB.out.size)
  have HK1 := Lib.hid (HK.out.kept hb1)
  have HR1 := Lib.hid (HR.out.below hb1)
  clear hb1
  have k0 := HK1.out.at_ (i := 0) rfl
  have k1 := HK1.out.at_ (i := 1) rfl
  have k2 := HK1.out.at_ (i := 2) rfl
  have k3 := HK1.out.at_ (i := 3) rfl
  have k4 := HK1.out.at_ (i := 4) rfl
  have k5 := HK1.out.at_ (i := 5) rfl
  have k6 := HK1.out.at_ (i := 6) rfl
  have k7 := HK1.out.at_ (i := 7) rfl
  have k8 := HK1.out.at_ (i := 8) rfl
  have k9 := HK1.out.at_ (i := 9) rfl
  have k10 := HK1.out.at_ (i := 10) rfl
  have k11 := HK1.out.at_ (i := 11) rfl
  have k12 := HK1.out.at_ (i := 12) rfl
  go_wp2_with fail
  refine (refHas_lit [99, 116, 98] 118 false 118 rfl (by decide) (by decide) _).mono ?_
  rintro e1 w2 ⟨rfl, rfl⟩
  by_cases z0 : v = 0
  rotate_left
  · have HV := Lib.hid (show ok = false from HOK.out.symm.trans (ok_no (m := (mgOf 1 v s c t e g d pf pn)) (p := 0) (by decide) rfl (decide_eq_false z0)))
    have b0 : (v != 0) = true := bne_iff_ne.2 z0
    clear z0
    go_wp2_with fail
    go_ret
    exact ⟨ret_bool HV.out.symm, HB1.out⟩
  have HZ0 := Lib.hid (show Mg.partNo (mgOf 1 v s c t e g d pf pn) 0 = true from decide_eq_true z0)
  have b0 : (v != 0) = false := bne_eq_false_iff_eq.2 z0
  have HT0 := Lib.hid (show wideB v = true by rw [z0]; rfl)
  clear z0
  go_wp2_with fail
  refine (refHas_lit [99, 116, 98] 115 false 115 rfl (by decide) (by decide) _).mono ?_
  rintro e1 w2 ⟨rfl, rfl⟩
  by_cases z1 : s = 0
  rotate_left
  · have HV := Lib.hid (show ok = false from HOK.out.symm.trans (ok_no (m := (mgOf 1 v s c t e g d pf pn)) (p := 1) (by decide) rfl (decide_eq_false z1)))
    have b1 : (s != 0) = true := bne_iff_ne.2 z1
    clear z1
    go_wp2_with fail
    go_ret
    exact ⟨ret_bool HV.out.symm, HB1.out⟩
  have HZ1 := Lib.hid (show Mg.partNo (mgOf 1 v s c t e g d pf pn) 1 = true from decide_eq_true z1)
  have b1 : (s != 0) = false := bne_eq_false_iff_eq.2 z1
  have HT1 := Lib.hid (show wideB s = true by rw [z1]; rfl)
  clear z1
  go_wp2_with fail
  refine (refHas_lit [99, 116, 98] 99 true 99 rfl (by decide) (by decide) _).mono ?_
  rintro e1 w2 ⟨rfl, rfl⟩
  go_wp2_with fail
  refine (refHas_lit [99, 116, 98] 116 true 116 rfl (by decide) (by decide) _).mono ?_
  rintro e1 w2 ⟨rfl, rfl⟩
  go_wp2_with fail
  refine (refHas_lit [99, 116, 98] 101 false 101 rfl (by decide) (by decide) _).mono ?_
  rintro e1 w2 ⟨rfl, rfl⟩
  go_wp2_with fail
  refine (sameEntry_any e En.zero q.ea none q.ec 0 F (fun _ => True) _ HR1.out.e (BF.nil_ _ _)).mono ?_
  rintro e1 w2 ⟨rfl, hb2⟩
  clear k0 k1 k2 k3 k4 k5 k6 k7 k8 k9 k10 k11 k12
  rw [en_no]
  have HB2 := Lib.hid (below_next HB1.out hb2 HB1.out.size)
  have HK2 := Lib.hid (HK1.out.kept hb2)
  have HR2 := Lib.hid (HR1.out.below hb2)
  clear hb2
  have k0 := HK2.out.at_ (i := 0) rfl
  have k1 := HK2.out.at_ (i := 1) rfl
  have k2 := HK2.out.at_ (i := 2) rfl
  have k3 := HK2.out.at_ (i := 3) rfl
  have k4 := HK2.out.at_ (i := 4) rfl
  have k5 := HK2.out.at_ (i := 5) rfl
  have k6 := HK2.out.at_ (i := 6) rfl
  have k7 := HK2.out.at_ (i := 7) rfl
  have k8 := HK2.out.at_ (i := 8) rfl
  have k9 := HK2.out.at_ (i := 9) rfl
  have k10 := HK2.out.at_ (i := 10) rfl
  have k11 := HK2.out.at_ (i := 11) rfl
  have k12 := HK2.out.at_ (i := 12) rfl
  generalize hz4 : decide (e.c = 0 ∧ e.s = 0 ∧ e.t = 0 ∧ e.dig.length = 0) = Z4
  cases Z4
  · have HV := Lib.hid (show ok = false from HOK.out.symm.trans (ok_no (m := (mgOf 1 v s c t e g d pf pn)) (p := 4) (by decide) rfl (hz4)))
    go_wp2_with fail
    go_ret
    exact ⟨ret_bool HV.out.symm, HB2.out⟩
  have HZ4 := Lib.hid hz4
  clear hz4
  go_wp2_with fail
  refine (refHas_lit [99, 116, 98] 100 false 100 rfl (by decide) (by decide) _).mono ?_
  rintro e1 w2 ⟨rfl, rfl⟩
  by_cases z5 : g.length = 0
  rotate_left
  · have HV := Lib.hid (show ok = false from HOK.out.symm.trans (ok_no (m := (mgOf 1 v s c t e g d pf pn)) (p := 5) (by decide) rfl (decide_eq_false z5)))
    have b5 : ((g.length : Int) != 0) = true := by rw [bne_iff_ne]; omega
    clear z5
    go_wp2_with fail
    go_ret
    exact ⟨ret_bool HV.out.symm, HB2.out⟩
  have HZ5 := Lib.hid (show Mg.partNo (mgOf 1 v s c t e g d pf pn) 5 = true from decide_eq_true z5)
  have b5 : ((g.length : Int) != 0) = false := by rw [bne_eq_false_iff_eq]; omega
  have HL5 := Lib.hid z5
  clear z5
  go_wp2_with fail
  refine (refHas_lit [99, 116, 98] 98 true 98 rfl (by decide) (by decide) _).mono ?_
  rintro e1 w2 ⟨rfl, rfl⟩
  go_wp2_with fail
  refine (refHas_lit [99, 116, 98] 108 false 108 rfl (by decide) (by decide) _).mono ?_
  rintro e1 w2 ⟨rfl, rfl⟩
  by_cases z7 : pf.length = 0
  rotate_left
  · have HV := Lib.hid (show ok = false from HOK.out.symm.trans (ok_no (m := (mgOf 1 v s c t e g d pf pn)) (p := 7) (by decide) rfl (decide_eq_false z7)))
    have b7 : ((pf.length : Int) != 0) = true := by rw [bne_iff_ne]; omega
    clear z7
    go_wp2_with fail
    go_ret
    exact ⟨ret_bool HV.out.symm, HB2.out⟩
  have HZ7 := Lib.hid (show Mg.partNo (mgOf 1 v s c t e g d pf pn) 7 = true from decide_eq_true z7)
  have b7 : ((pf.length : Int) != 0) = false := by rw [bne_eq_false_iff_eq]; omega
  have HL7 := Lib.hid z7
  clear z7
  go_wp2_with fail
  refine (refHas_lit [99, 116, 98] 112 false 112 rfl (by decide) (by decide) _).mono ?_
  rintro e1 w2 ⟨rfl, rfl⟩
  by_cases z8 : pn.length = 0
  rotate_left
  · have HV := Lib.hid (show ok = false from HOK.out.symm.trans (ok_no (m := (mgOf 1 v s c t e g d pf pn)) (p := 8) (by decide) rfl (decide_eq_false z8)))
    have b8 : ((pn.length : Int) != 0) = true := by rw [bne_iff_ne]; omega
    clear z8
    go_wp2_with fail
    go_ret
    exact ⟨ret_bool HV.out.symm, HB2.out⟩
  have HZ8 := Lib.hid (show Mg.partNo (mgOf 1 v s c t e g d pf pn) 8 = true from decide_eq_true z8)
  have b8 : ((pn.length : Int) != 0) = false := by rw [bne_eq_false_iff_eq]; omega
  have HL8 := Lib.hid z8
  clear z8
  go_wp2_with fail
  refine (refWide_any v _).mono ?_
  rintro e1 w2 ⟨rfl, rfl⟩
  rw [HT0.out]
  go_wp2_with fail
  refine (refWide_any s _).mono ?_
  rintro e1 w2 ⟨rfl, rfl⟩
  rw [HT1.out]
  go_wp2_with fail
  refine (refWide_any t _).mono ?_
  rintro e1 w2 ⟨rfl, rfl⟩
  generalize ht3 : wideB t = T3
  cases T3
  · have HV := Lib.hid (show ok = false from HOK.out.symm.trans (ok_part (m := (mgOf 1 v s c t e g d pf pn)) (p := 3) rfl (ht3)))
    go_wp2_with fail
    go_ret
    exact ⟨ret_bool HV.out.symm, HB2.out⟩
  have HT3 := Lib.hid ht3
  clear ht3
  go_wp2_with fail
  refine (refPeer_any c _).mono ?_
  rintro e1 w2 ⟨rfl, rfl⟩
  generalize ht2 : peerB c = T2
  cases T2
  · have HV := Lib.hid (show ok = false from HOK.out.symm.trans (ok_part (m := (mgOf 1 v s c t e g d pf pn)) (p := 2) rfl (ht2)))
    go_wp2_with fail
    go_ret
    exact ⟨ret_bool HV.out.symm, HB2.out⟩
  have HT2 := Lib.hid ht2
  clear ht2
  go_wp2_with fail
  refine (refHas_lit [99, 116, 98] 101 false 101 rfl (by decide) (by decide) _).mono ?_
  rintro e1 w2 ⟨rfl, rfl⟩
  go_wp2_with fail
  refine (refHas_lit [99, 116, 98] 100 false 100 rfl (by decide) (by decide) _).mono ?_
  rintro e1 w2 ⟨rfl, rfl⟩
  by_cases z6 : 65536 < d.length
  · have HV := Lib.hid (show ok = false from HOK.out.symm.trans (ok_part (m := (mgOf 1 v s c t e g d pf pn)) (p := 6) rfl (decide_eq_false (show ¬ d.length ≤ 1024 by omega))))
    have y6 : (65536 : Int) < (d.length : Int) := by omega
    clear z6
    go_wp2_with fail
    go_ret
    exact ⟨ret_bool HV.out.symm, HB2.out⟩
  have y6 : (d.length : Int) ≤ 65536 := by omega
  go_wp2_with fail
  refine (refLetters_any q.pa q.pc pf F _ HR2.out.p).mono ?_
  rintro e1 w2 ⟨rfl, hb3⟩
  clear k0 k1 k2 k3 k4 k5 k6 k7 k8 k9 k10 k11 k12
  have HB3 := Lib.hid (below_next HB2.out hb3 HB2.out.size)
  have HK3 := Lib.hid (HK2.out.kept hb3)
  have HR3 := Lib.hid (HR2.out.below hb3)
  clear hb3
  have k0 := HK3.out.at_ (i := 0) rfl
  have k1 := HK3.out.at_ (i := 1) rfl
  have k2 := HK3.out.at_ (i := 2) rfl
  have k3 := HK3.out.at_ (i := 3) rfl
  have k4 := HK3.out.at_ (i := 4) rfl
  have k5 := HK3.out.at_ (i := 5) rfl
  have k6 := HK3.out.at_ (i := 6) rfl
  have k7 := HK3.out.at_ (i := 7) rfl
  have k8 := HK3.out.at_ (i := 8) rfl
  have k9 := HK3.out.at_ (i := 9) rfl
  have k10 := HK3.out.at_ (i := 10) rfl
  have k11 := HK3.out.at_ (i := 11) rfl
  have k12 := HK3.out.at_ (i := 12) rfl
  rw [ltsOk_nil HL7.out]
  have y8 : (pn.length : Int) ≤ 8 := by have := HL8.out; omega
  by_cases z9 : 1024 < d.length
  · have HV := Lib.hid (show ok = false from HOK.out.symm.trans (ok_part (m := (mgOf 1 v s c t e g d pf pn)) (p := 6) rfl (decide_eq_false (show ¬ d.length ≤ 1024 by omega))))
    have y9 : (1024 : Int) < (d.length : Int) := by omega
    clear z6 z9
    go_wp2_with fail
    go_ret
    exact ⟨ret_bool HV.out.symm, HB3.out⟩
  have HT6 := Lib.hid (show Mg.partOk (mgOf 1 v s c t e g d pf pn) 6 = true from decide_eq_true (show d.length ≤ 1024 by omega))
  have y9 : (d.length : Int) ≤ 1024 := by omega
  clear z6 z9
  have HV := Lib.hid (show ok = true from HOK.out.symm.trans (ok_all (m := (mgOf 1 v s c t e g d pf pn)) (part_cases (HZ0.out) (HZ1.out) (HT2.out) (HT3.out) (HZ4.out) (HZ5.out) (HT6.out) (HZ7.out) (HZ8.out)) (parts_lt _)))
  go_wp2_with fail
  go_loopw [4] (fun i wr => i = .int .i64 0 ∧ wr = w2) (fun _ _ => 0)
  case atStart => exact ⟨rfl, rfl⟩
  case round =>
    obtain ⟨rfl, rfl⟩ := hrel
    have hz8 : pn.length = 0 := HL8.out
    go_wp2_with fail
    go_ret
    exact ⟨ret_bool HV.out.symm, HB3.out⟩
set_option maxHeartbeats 3200000 in
theorem refRight_2 (v s c t : Int) (e : En) (g d : List UInt8) (pf : List Lt) (pn : List Pv) (q : Mad) (F : Nat → Prop) (w : World) (h : MgR F w (mgOf 2 v s c t e g d pf pn) q) :
    Calls Try.prog 40 #[.agg #[.int .i64 2, .int .i64 v, .int .i64 s, .int .i64 c, .int .i64 t, .int .i64 e.c, .int .i64 e.s, .int .i64 e.t, .slice q.ea e.dig.length q.ec, .slice q.ga g.length q.gc, .slice q.da d.length q.dc, .slice q.pa pf.length q.pc, .slice q.va pn.length q.vc]] w (Tells (.bool (mgOf 2 v s c t e g d pf pn).ok) w) := by
  have hB := (Below.refl w.heap.size w).alloc (Nat.le_refl _) (.cells #[.int .i64 2, .int .i64 v, .int .i64 s, .int .i64 c, .int .i64 t, .int .i64 e.c, .int .i64 e.s, .int .i64 e.t, .slice q.ea e.dig.length q.ec, .slice q.ga g.length q.gc, .slice q.da d.length q.dc, .slice q.pa pf.length q.pc, .slice q.va pn.length q.vc] 28)
  have HB := Lib.hid hB
  have HK := Lib.hid (Bk.new w 28 [.int .i64 2, .int .i64 v, .int .i64 s, .int .i64 c, .int .i64 t, .int .i64 e.c, .int .i64 e.s, .int .i64 e.t, .slice q.ea e.dig.length q.ec, .slice q.ga g.length q.gc, .slice q.da d.length q.dc, .slice q.pa pf.length q.pc, .slice q.va pn.length q.vc])
  have HR := Lib.hid (h.below hB)
  have HP := Lib.hid (show ∀ W, Calls Try.prog 39 #[.int .i64 2] W (Tells (.string ⟨([99, 116, 100] : List UInt8).toArray⟩) W) from fun W => refParts_any 2 W)
  have hd9 : d.length ≤ maxLen := Nat.le_trans h.d.sl.1 h.d.sl.2.1
  have hn9 : pn.length ≤ maxLen := Nat.le_trans h.v.1 h.v.2.1
  simp only [maxLen] at hd9 hn9
  clear h hB
  generalize hok : Mg.ok (mgOf 2 v s c t e g d pf pn) = ok
  have HOK := Lib.hid hok
  clear hok
  go_enter Try.func40, Try.ntmps40
  simp only [List.append]
  go_wp2_with fail
  refine (HP.out _).mono ?_
  rintro e1 w1 ⟨rfl, hb1⟩
  have HB1 := Lib.hid (below_next HB.out hb1 HB.out.size)
  have HK1 := Lib.hid (HK.out.kept hb1)
  have HR1 := Lib.hid (HR.out.below hb1)
  clear hb1
  have k0 := HK1.out.at_ (i := 0) rfl
  have k1 := HK1.out.at_ (i := 1) rfl
  have k2 := HK1.out.at_ (i := 2) rfl
  have k3 := HK1.out.at_ (i := 3) rfl
  have k4 := HK1.out.at_ (i := 4) rfl
  have k5 := HK1.out.at_ (i := 5) rfl
  have k6 := HK1.out.at_ (i := 6) rfl
  have k7 := HK1.out.at_ (i := 7) rfl
  have k8 := HK1.out.at_ (i := 8) rfl
  have k9 := HK1.out.at_ (i := 9) rfl
  have k10 := HK1.out.at_ (i := 10) rfl
  have k11 := HK1.out.at_ (i := 11) rfl
  have k12 := HK1.out.at_ (i := 12) rfl
  go_wp2_with fail
  refine (refHas_lit [99, 116, 100] 118 false 118 rfl (by decide) (by decide) _).mono ?_
  rintro e1 w2 ⟨rfl, rfl⟩
  by_cases z0 : v = 0
  rotate_left
  · have HV := Lib.hid (show ok = false from HOK.out.symm.trans (ok_no (m := (mgOf 2 v s c t e g d pf pn)) (p := 0) (by decide) rfl (decide_eq_false z0)))
    have b0 : (v != 0) = true := bne_iff_ne.2 z0
    clear z0
    go_wp2_with fail
    go_ret
    exact ⟨ret_bool HV.out.symm, HB1.out⟩
  have HZ0 := Lib.hid (show Mg.partNo (mgOf 2 v s c t e g d pf pn) 0 = true from decide_eq_true z0)
  have b0 : (v != 0) = false := bne_eq_false_iff_eq.2 z0
  have HT0 := Lib.hid (show wideB v = true by rw [z0]; rfl)
  clear z0
  go_wp2_with fail
  refine (refHas_lit [99, 116, 100] 115 false 115 rfl (by decide) (by decide) _).mono ?_
  rintro e1 w2 ⟨rfl, rfl⟩
  by_cases z1 : s = 0
  rotate_left
  · have HV := Lib.hid (show ok = false from HOK.out.symm.trans (ok_no (m := (mgOf 2 v s c t e g d pf pn)) (p := 1) (by decide) rfl (decide_eq_false z1)))
    have b1 : (s != 0) = true := bne_iff_ne.2 z1
    clear z1
    go_wp2_with fail
    go_ret
    exact ⟨ret_bool HV.out.symm, HB1.out⟩
  have HZ1 := Lib.hid (show Mg.partNo (mgOf 2 v s c t e g d pf pn) 1 = true from decide_eq_true z1)
  have b1 : (s != 0) = false := bne_eq_false_iff_eq.2 z1
  have HT1 := Lib.hid (show wideB s = true by rw [z1]; rfl)
  clear z1
  go_wp2_with fail
  refine (refHas_lit [99, 116, 100] 99 true 99 rfl (by decide) (by decide) _).mono ?_
  rintro e1 w2 ⟨rfl, rfl⟩
  go_wp2_with fail
  refine (refHas_lit [99, 116, 100] 116 true 116 rfl (by decide) (by decide) _).mono ?_
  rintro e1 w2 ⟨rfl, rfl⟩
  go_wp2_with fail
  refine (refHas_lit [99, 116, 100] 101 false 101 rfl (by decide) (by decide) _).mono ?_
  rintro e1 w2 ⟨rfl, rfl⟩
  go_wp2_with fail
  refine (sameEntry_any e En.zero q.ea none q.ec 0 F (fun _ => True) _ HR1.out.e (BF.nil_ _ _)).mono ?_
  rintro e1 w2 ⟨rfl, hb2⟩
  clear k0 k1 k2 k3 k4 k5 k6 k7 k8 k9 k10 k11 k12
  rw [en_no]
  have HB2 := Lib.hid (below_next HB1.out hb2 HB1.out.size)
  have HK2 := Lib.hid (HK1.out.kept hb2)
  have HR2 := Lib.hid (HR1.out.below hb2)
  clear hb2
  have k0 := HK2.out.at_ (i := 0) rfl
  have k1 := HK2.out.at_ (i := 1) rfl
  have k2 := HK2.out.at_ (i := 2) rfl
  have k3 := HK2.out.at_ (i := 3) rfl
  have k4 := HK2.out.at_ (i := 4) rfl
  have k5 := HK2.out.at_ (i := 5) rfl
  have k6 := HK2.out.at_ (i := 6) rfl
  have k7 := HK2.out.at_ (i := 7) rfl
  have k8 := HK2.out.at_ (i := 8) rfl
  have k9 := HK2.out.at_ (i := 9) rfl
  have k10 := HK2.out.at_ (i := 10) rfl
  have k11 := HK2.out.at_ (i := 11) rfl
  have k12 := HK2.out.at_ (i := 12) rfl
  generalize hz4 : decide (e.c = 0 ∧ e.s = 0 ∧ e.t = 0 ∧ e.dig.length = 0) = Z4
  cases Z4
  · have HV := Lib.hid (show ok = false from HOK.out.symm.trans (ok_no (m := (mgOf 2 v s c t e g d pf pn)) (p := 4) (by decide) rfl (hz4)))
    go_wp2_with fail
    go_ret
    exact ⟨ret_bool HV.out.symm, HB2.out⟩
  have HZ4 := Lib.hid hz4
  clear hz4
  go_wp2_with fail
  refine (refHas_lit [99, 116, 100] 100 true 100 rfl (by decide) (by decide) _).mono ?_
  rintro e1 w2 ⟨rfl, rfl⟩
  go_wp2_with fail
  refine (refHas_lit [99, 116, 100] 98 false 98 rfl (by decide) (by decide) _).mono ?_
  rintro e1 w2 ⟨rfl, rfl⟩
  by_cases z6 : d.length = 0
  rotate_left
  · have HV := Lib.hid (show ok = false from HOK.out.symm.trans (ok_no (m := (mgOf 2 v s c t e g d pf pn)) (p := 6) (by decide) rfl (decide_eq_false z6)))
    have b6 : ((d.length : Int) != 0) = true := by rw [bne_iff_ne]; omega
    clear z6
    go_wp2_with fail
    go_ret
    exact ⟨ret_bool HV.out.symm, HB2.out⟩
  have HZ6 := Lib.hid (show Mg.partNo (mgOf 2 v s c t e g d pf pn) 6 = true from decide_eq_true z6)
  have b6 : ((d.length : Int) != 0) = false := by rw [bne_eq_false_iff_eq]; omega
  have HL6 := Lib.hid z6
  clear z6
  go_wp2_with fail
  refine (refHas_lit [99, 116, 100] 108 false 108 rfl (by decide) (by decide) _).mono ?_
  rintro e1 w2 ⟨rfl, rfl⟩
  by_cases z7 : pf.length = 0
  rotate_left
  · have HV := Lib.hid (show ok = false from HOK.out.symm.trans (ok_no (m := (mgOf 2 v s c t e g d pf pn)) (p := 7) (by decide) rfl (decide_eq_false z7)))
    have b7 : ((pf.length : Int) != 0) = true := by rw [bne_iff_ne]; omega
    clear z7
    go_wp2_with fail
    go_ret
    exact ⟨ret_bool HV.out.symm, HB2.out⟩
  have HZ7 := Lib.hid (show Mg.partNo (mgOf 2 v s c t e g d pf pn) 7 = true from decide_eq_true z7)
  have b7 : ((pf.length : Int) != 0) = false := by rw [bne_eq_false_iff_eq]; omega
  have HL7 := Lib.hid z7
  clear z7
  go_wp2_with fail
  refine (refHas_lit [99, 116, 100] 112 false 112 rfl (by decide) (by decide) _).mono ?_
  rintro e1 w2 ⟨rfl, rfl⟩
  by_cases z8 : pn.length = 0
  rotate_left
  · have HV := Lib.hid (show ok = false from HOK.out.symm.trans (ok_no (m := (mgOf 2 v s c t e g d pf pn)) (p := 8) (by decide) rfl (decide_eq_false z8)))
    have b8 : ((pn.length : Int) != 0) = true := by rw [bne_iff_ne]; omega
    clear z8
    go_wp2_with fail
    go_ret
    exact ⟨ret_bool HV.out.symm, HB2.out⟩
  have HZ8 := Lib.hid (show Mg.partNo (mgOf 2 v s c t e g d pf pn) 8 = true from decide_eq_true z8)
  have b8 : ((pn.length : Int) != 0) = false := by rw [bne_eq_false_iff_eq]; omega
  have HL8 := Lib.hid z8
  clear z8
  go_wp2_with fail
  refine (refWide_any v _).mono ?_
  rintro e1 w2 ⟨rfl, rfl⟩
  rw [HT0.out]
  go_wp2_with fail
  refine (refWide_any s _).mono ?_
  rintro e1 w2 ⟨rfl, rfl⟩
  rw [HT1.out]
  go_wp2_with fail
  refine (refWide_any t _).mono ?_
  rintro e1 w2 ⟨rfl, rfl⟩
  generalize ht3 : wideB t = T3
  cases T3
  · have HV := Lib.hid (show ok = false from HOK.out.symm.trans (ok_part (m := (mgOf 2 v s c t e g d pf pn)) (p := 3) rfl (ht3)))
    go_wp2_with fail
    go_ret
    exact ⟨ret_bool HV.out.symm, HB2.out⟩
  have HT3 := Lib.hid ht3
  clear ht3
  go_wp2_with fail
  refine (refPeer_any c _).mono ?_
  rintro e1 w2 ⟨rfl, rfl⟩
  generalize ht2 : peerB c = T2
  cases T2
  · have HV := Lib.hid (show ok = false from HOK.out.symm.trans (ok_part (m := (mgOf 2 v s c t e g d pf pn)) (p := 2) rfl (ht2)))
    go_wp2_with fail
    go_ret
    exact ⟨ret_bool HV.out.symm, HB2.out⟩
  have HT2 := Lib.hid ht2
  clear ht2
  go_wp2_with fail
  refine (refHas_lit [99, 116, 100] 101 false 101 rfl (by decide) (by decide) _).mono ?_
  rintro e1 w2 ⟨rfl, rfl⟩
  go_wp2_with fail
  refine (refHas_lit [99, 116, 100] 100 true 100 rfl (by decide) (by decide) _).mono ?_
  rintro e1 w2 ⟨rfl, rfl⟩
  by_cases z5 : g.length = 32
  rotate_left
  · have HV := Lib.hid (show ok = false from HOK.out.symm.trans (ok_part (m := (mgOf 2 v s c t e g d pf pn)) (p := 5) rfl (decide_eq_false z5)))
    have b5 : ((g.length : Int) != 32) = true := by rw [bne_iff_ne]; omega
    clear z5
    go_wp2_with fail
    go_ret
    exact ⟨ret_bool HV.out.symm, HB2.out⟩
  have HT5 := Lib.hid (show Mg.partOk (mgOf 2 v s c t e g d pf pn) 5 = true from decide_eq_true z5)
  have b5 : ((g.length : Int) != 32) = false := by rw [bne_eq_false_iff_eq]; omega
  clear z5
  have y6 : (d.length : Int) ≤ 65536 := by have := HL6.out; omega
  go_wp2_with fail
  refine (refLetters_any q.pa q.pc pf F _ HR2.out.p).mono ?_
  rintro e1 w2 ⟨rfl, hb3⟩
  clear k0 k1 k2 k3 k4 k5 k6 k7 k8 k9 k10 k11 k12
  have HB3 := Lib.hid (below_next HB2.out hb3 HB2.out.size)
  have HK3 := Lib.hid (HK2.out.kept hb3)
  have HR3 := Lib.hid (HR2.out.below hb3)
  clear hb3
  have k0 := HK3.out.at_ (i := 0) rfl
  have k1 := HK3.out.at_ (i := 1) rfl
  have k2 := HK3.out.at_ (i := 2) rfl
  have k3 := HK3.out.at_ (i := 3) rfl
  have k4 := HK3.out.at_ (i := 4) rfl
  have k5 := HK3.out.at_ (i := 5) rfl
  have k6 := HK3.out.at_ (i := 6) rfl
  have k7 := HK3.out.at_ (i := 7) rfl
  have k8 := HK3.out.at_ (i := 8) rfl
  have k9 := HK3.out.at_ (i := 9) rfl
  have k10 := HK3.out.at_ (i := 10) rfl
  have k11 := HK3.out.at_ (i := 11) rfl
  have k12 := HK3.out.at_ (i := 12) rfl
  rw [ltsOk_nil HL7.out]
  have y8 : (pn.length : Int) ≤ 8 := by have := HL8.out; omega
  have HV := Lib.hid (show ok = true from HOK.out.symm.trans (ok_all (m := (mgOf 2 v s c t e g d pf pn)) (part_cases (HZ0.out) (HZ1.out) (HT2.out) (HT3.out) (HZ4.out) (HT5.out) (HZ6.out) (HZ7.out) (HZ8.out)) (parts_lt _)))
  go_wp2_with fail
  go_loopw [4] (fun i wr => i = .int .i64 0 ∧ wr = w2) (fun _ _ => 0)
  case atStart => exact ⟨rfl, rfl⟩
  case round =>
    obtain ⟨rfl, rfl⟩ := hrel
    have hz8 : pn.length = 0 := HL8.out
    go_wp2_with fail
    go_ret
    exact ⟨ret_bool HV.out.symm, HB3.out⟩
set_option maxHeartbeats 3200000 in
theorem refRight_3 (v s c t : Int) (e : En) (g d : List UInt8) (pf : List Lt) (pn : List Pv) (q : Mad) (F : Nat → Prop) (w : World) (h : MgR F w (mgOf 3 v s c t e g d pf pn) q) :
    Calls Try.prog 40 #[.agg #[.int .i64 3, .int .i64 v, .int .i64 s, .int .i64 c, .int .i64 t, .int .i64 e.c, .int .i64 e.s, .int .i64 e.t, .slice q.ea e.dig.length q.ec, .slice q.ga g.length q.gc, .slice q.da d.length q.dc, .slice q.pa pf.length q.pc, .slice q.va pn.length q.vc]] w (Tells (.bool (mgOf 3 v s c t e g d pf pn).ok) w) := by
  have hB := (Below.refl w.heap.size w).alloc (Nat.le_refl _) (.cells #[.int .i64 3, .int .i64 v, .int .i64 s, .int .i64 c, .int .i64 t, .int .i64 e.c, .int .i64 e.s, .int .i64 e.t, .slice q.ea e.dig.length q.ec, .slice q.ga g.length q.gc, .slice q.da d.length q.dc, .slice q.pa pf.length q.pc, .slice q.va pn.length q.vc] 28)
  have HB := Lib.hid hB
  have HK := Lib.hid (Bk.new w 28 [.int .i64 3, .int .i64 v, .int .i64 s, .int .i64 c, .int .i64 t, .int .i64 e.c, .int .i64 e.s, .int .i64 e.t, .slice q.ea e.dig.length q.ec, .slice q.ga g.length q.gc, .slice q.da d.length q.dc, .slice q.pa pf.length q.pc, .slice q.va pn.length q.vc])
  have HR := Lib.hid (h.below hB)
  have HP := Lib.hid (show ∀ W, Calls Try.prog 39 #[.int .i64 3] W (Tells (.string ⟨([118, 115, 101] : List UInt8).toArray⟩) W) from fun W => refParts_any 3 W)
  have hd9 : d.length ≤ maxLen := Nat.le_trans h.d.sl.1 h.d.sl.2.1
  have hn9 : pn.length ≤ maxLen := Nat.le_trans h.v.1 h.v.2.1
  simp only [maxLen] at hd9 hn9
  clear h hB
  generalize hok : Mg.ok (mgOf 3 v s c t e g d pf pn) = ok
  have HOK := Lib.hid hok
  clear hok
  go_enter Try.func40, Try.ntmps40
  simp only [List.append]
  go_wp2_with fail
  refine (HP.out _).mono ?_
  rintro e1 w1 ⟨rfl, hb1⟩
  have HB1 := Lib.hid (below_next HB.out hb1 HB.out.size)
  have HK1 := Lib.hid (HK.out.kept hb1)
  have HR1 := Lib.hid (HR.out.below hb1)
  clear hb1
  have k0 := HK1.out.at_ (i := 0) rfl
  have k1 := HK1.out.at_ (i := 1) rfl
  have k2 := HK1.out.at_ (i := 2) rfl
  have k3 := HK1.out.at_ (i := 3) rfl
  have k4 := HK1.out.at_ (i := 4) rfl
  have k5 := HK1.out.at_ (i := 5) rfl
  have k6 := HK1.out.at_ (i := 6) rfl
  have k7 := HK1.out.at_ (i := 7) rfl
  have k8 := HK1.out.at_ (i := 8) rfl
  have k9 := HK1.out.at_ (i := 9) rfl
  have k10 := HK1.out.at_ (i := 10) rfl
  have k11 := HK1.out.at_ (i := 11) rfl
  have k12 := HK1.out.at_ (i := 12) rfl
  go_wp2_with fail
  refine (refHas_lit [118, 115, 101] 118 true 118 rfl (by decide) (by decide) _).mono ?_
  rintro e1 w2 ⟨rfl, rfl⟩
  go_wp2_with fail
  refine (refHas_lit [118, 115, 101] 115 true 115 rfl (by decide) (by decide) _).mono ?_
  rintro e1 w2 ⟨rfl, rfl⟩
  go_wp2_with fail
  refine (refHas_lit [118, 115, 101] 99 false 99 rfl (by decide) (by decide) _).mono ?_
  rintro e1 w2 ⟨rfl, rfl⟩
  by_cases z2 : c = 0
  rotate_left
  · have HV := Lib.hid (show ok = false from HOK.out.symm.trans (ok_no (m := (mgOf 3 v s c t e g d pf pn)) (p := 2) (by decide) rfl (decide_eq_false z2)))
    have b2 : (c != 0) = true := bne_iff_ne.2 z2
    clear z2
    go_wp2_with fail
    go_ret
    exact ⟨ret_bool HV.out.symm, HB1.out⟩
  have HZ2 := Lib.hid (show Mg.partNo (mgOf 3 v s c t e g d pf pn) 2 = true from decide_eq_true z2)
  have b2 : (c != 0) = false := bne_eq_false_iff_eq.2 z2
  have HT2 := Lib.hid (show peerB c = true by rw [z2]; rfl)
  clear z2
  go_wp2_with fail
  refine (refHas_lit [118, 115, 101] 116 false 116 rfl (by decide) (by decide) _).mono ?_
  rintro e1 w2 ⟨rfl, rfl⟩
  by_cases z3 : t = 0
  rotate_left
  · have HV := Lib.hid (show ok = false from HOK.out.symm.trans (ok_no (m := (mgOf 3 v s c t e g d pf pn)) (p := 3) (by decide) rfl (decide_eq_false z3)))
    have b3 : (t != 0) = true := bne_iff_ne.2 z3
    clear z3
    go_wp2_with fail
    go_ret
    exact ⟨ret_bool HV.out.symm, HB1.out⟩
  have HZ3 := Lib.hid (show Mg.partNo (mgOf 3 v s c t e g d pf pn) 3 = true from decide_eq_true z3)
  have b3 : (t != 0) = false := bne_eq_false_iff_eq.2 z3
  have HT3 := Lib.hid (show wideB t = true by rw [z3]; rfl)
  clear z3
  go_wp2_with fail
  refine (refHas_lit [118, 115, 101] 101 true 101 rfl (by decide) (by decide) _).mono ?_
  rintro e1 w2 ⟨rfl, rfl⟩
  go_wp2_with fail
  refine (refHas_lit [118, 115, 101] 100 false 100 rfl (by decide) (by decide) _).mono ?_
  rintro e1 w2 ⟨rfl, rfl⟩
  by_cases z5 : g.length = 0
  rotate_left
  · have HV := Lib.hid (show ok = false from HOK.out.symm.trans (ok_no (m := (mgOf 3 v s c t e g d pf pn)) (p := 5) (by decide) rfl (decide_eq_false z5)))
    have b5 : ((g.length : Int) != 0) = true := by rw [bne_iff_ne]; omega
    clear z5
    go_wp2_with fail
    go_ret
    exact ⟨ret_bool HV.out.symm, HB1.out⟩
  have HZ5 := Lib.hid (show Mg.partNo (mgOf 3 v s c t e g d pf pn) 5 = true from decide_eq_true z5)
  have b5 : ((g.length : Int) != 0) = false := by rw [bne_eq_false_iff_eq]; omega
  have HL5 := Lib.hid z5
  clear z5
  go_wp2_with fail
  refine (refHas_lit [118, 115, 101] 98 false 98 rfl (by decide) (by decide) _).mono ?_
  rintro e1 w2 ⟨rfl, rfl⟩
  by_cases z6 : d.length = 0
  rotate_left
  · have HV := Lib.hid (show ok = false from HOK.out.symm.trans (ok_no (m := (mgOf 3 v s c t e g d pf pn)) (p := 6) (by decide) rfl (decide_eq_false z6)))
    have b6 : ((d.length : Int) != 0) = true := by rw [bne_iff_ne]; omega
    clear z6
    go_wp2_with fail
    go_ret
    exact ⟨ret_bool HV.out.symm, HB1.out⟩
  have HZ6 := Lib.hid (show Mg.partNo (mgOf 3 v s c t e g d pf pn) 6 = true from decide_eq_true z6)
  have b6 : ((d.length : Int) != 0) = false := by rw [bne_eq_false_iff_eq]; omega
  have HL6 := Lib.hid z6
  clear z6
  go_wp2_with fail
  refine (refHas_lit [118, 115, 101] 108 false 108 rfl (by decide) (by decide) _).mono ?_
  rintro e1 w2 ⟨rfl, rfl⟩
  by_cases z7 : pf.length = 0
  rotate_left
  · have HV := Lib.hid (show ok = false from HOK.out.symm.trans (ok_no (m := (mgOf 3 v s c t e g d pf pn)) (p := 7) (by decide) rfl (decide_eq_false z7)))
    have b7 : ((pf.length : Int) != 0) = true := by rw [bne_iff_ne]; omega
    clear z7
    go_wp2_with fail
    go_ret
    exact ⟨ret_bool HV.out.symm, HB1.out⟩
  have HZ7 := Lib.hid (show Mg.partNo (mgOf 3 v s c t e g d pf pn) 7 = true from decide_eq_true z7)
  have b7 : ((pf.length : Int) != 0) = false := by rw [bne_eq_false_iff_eq]; omega
  have HL7 := Lib.hid z7
  clear z7
  go_wp2_with fail
  refine (refHas_lit [118, 115, 101] 112 false 112 rfl (by decide) (by decide) _).mono ?_
  rintro e1 w2 ⟨rfl, rfl⟩
  by_cases z8 : pn.length = 0
  rotate_left
  · have HV := Lib.hid (show ok = false from HOK.out.symm.trans (ok_no (m := (mgOf 3 v s c t e g d pf pn)) (p := 8) (by decide) rfl (decide_eq_false z8)))
    have b8 : ((pn.length : Int) != 0) = true := by rw [bne_iff_ne]; omega
    clear z8
    go_wp2_with fail
    go_ret
    exact ⟨ret_bool HV.out.symm, HB1.out⟩
  have HZ8 := Lib.hid (show Mg.partNo (mgOf 3 v s c t e g d pf pn) 8 = true from decide_eq_true z8)
  have b8 : ((pn.length : Int) != 0) = false := by rw [bne_eq_false_iff_eq]; omega
  have HL8 := Lib.hid z8
  clear z8
  go_wp2_with fail
  refine (refWide_any v _).mono ?_
  rintro e1 w2 ⟨rfl, rfl⟩
  generalize ht0 : wideB v = T0
  cases T0
  · have HV := Lib.hid (show ok = false from HOK.out.symm.trans (ok_part (m := (mgOf 3 v s c t e g d pf pn)) (p := 0) rfl (ht0)))
    go_wp2_with fail
    go_ret
    exact ⟨ret_bool HV.out.symm, HB1.out⟩
  have HT0 := Lib.hid ht0
  clear ht0
  go_wp2_with fail
  refine (refWide_any s _).mono ?_
  rintro e1 w2 ⟨rfl, rfl⟩
  generalize ht1 : wideB s = T1
  cases T1
  · have HV := Lib.hid (show ok = false from HOK.out.symm.trans (ok_part (m := (mgOf 3 v s c t e g d pf pn)) (p := 1) rfl (ht1)))
    go_wp2_with fail
    go_ret
    exact ⟨ret_bool HV.out.symm, HB1.out⟩
  have HT1 := Lib.hid ht1
  clear ht1
  go_wp2_with fail
  refine (refWide_any t _).mono ?_
  rintro e1 w2 ⟨rfl, rfl⟩
  rw [HT3.out]
  go_wp2_with fail
  refine (refPeer_any c _).mono ?_
  rintro e1 w2 ⟨rfl, rfl⟩
  rw [HT2.out]
  go_wp2_with fail
  refine (refHas_lit [118, 115, 101] 101 true 101 rfl (by decide) (by decide) _).mono ?_
  rintro e1 w2 ⟨rfl, rfl⟩
  go_wp2_with fail
  refine (refEntry_any e _ _ _).mono ?_
  rintro e1 w2 ⟨rfl, hb2⟩
  clear k0 k1 k2 k3 k4 k5 k6 k7 k8 k9 k10 k11 k12
  have HB2 := Lib.hid (below_next HB1.out hb2 HB1.out.size)
  have HK2 := Lib.hid (HK1.out.kept hb2)
  have HR2 := Lib.hid (HR1.out.below hb2)
  clear hb2
  have k0 := HK2.out.at_ (i := 0) rfl
  have k1 := HK2.out.at_ (i := 1) rfl
  have k2 := HK2.out.at_ (i := 2) rfl
  have k3 := HK2.out.at_ (i := 3) rfl
  have k4 := HK2.out.at_ (i := 4) rfl
  have k5 := HK2.out.at_ (i := 5) rfl
  have k6 := HK2.out.at_ (i := 6) rfl
  have k7 := HK2.out.at_ (i := 7) rfl
  have k8 := HK2.out.at_ (i := 8) rfl
  have k9 := HK2.out.at_ (i := 9) rfl
  have k10 := HK2.out.at_ (i := 10) rfl
  have k11 := HK2.out.at_ (i := 11) rfl
  have k12 := HK2.out.at_ (i := 12) rfl
  generalize ht4 : e.ok = T4
  cases T4
  · have HV := Lib.hid (show ok = false from HOK.out.symm.trans (ok_part (m := (mgOf 3 v s c t e g d pf pn)) (p := 4) rfl (ht4)))
    go_wp2_with fail
    go_ret
    exact ⟨ret_bool HV.out.symm, HB2.out⟩
  have HT4 := Lib.hid ht4
  clear ht4
  go_wp2_with fail
  refine (refHas_lit [118, 115, 101] 100 false 100 rfl (by decide) (by decide) _).mono ?_
  rintro e1 w2 ⟨rfl, rfl⟩
  have y6 : (d.length : Int) ≤ 65536 := by have := HL6.out; omega
  go_wp2_with fail
  refine (refLetters_any q.pa q.pc pf F _ HR2.out.p).mono ?_
  rintro e1 w2 ⟨rfl, hb3⟩
  clear k0 k1 k2 k3 k4 k5 k6 k7 k8 k9 k10 k11 k12
  have HB3 := Lib.hid (below_next HB2.out hb3 HB2.out.size)
  have HK3 := Lib.hid (HK2.out.kept hb3)
  have HR3 := Lib.hid (HR2.out.below hb3)
  clear hb3
  have k0 := HK3.out.at_ (i := 0) rfl
  have k1 := HK3.out.at_ (i := 1) rfl
  have k2 := HK3.out.at_ (i := 2) rfl
  have k3 := HK3.out.at_ (i := 3) rfl
  have k4 := HK3.out.at_ (i := 4) rfl
  have k5 := HK3.out.at_ (i := 5) rfl
  have k6 := HK3.out.at_ (i := 6) rfl
  have k7 := HK3.out.at_ (i := 7) rfl
  have k8 := HK3.out.at_ (i := 8) rfl
  have k9 := HK3.out.at_ (i := 9) rfl
  have k10 := HK3.out.at_ (i := 10) rfl
  have k11 := HK3.out.at_ (i := 11) rfl
  have k12 := HK3.out.at_ (i := 12) rfl
  rw [ltsOk_nil HL7.out]
  have y8 : (pn.length : Int) ≤ 8 := by have := HL8.out; omega
  have HV := Lib.hid (show ok = true from HOK.out.symm.trans (ok_all (m := (mgOf 3 v s c t e g d pf pn)) (part_cases (HT0.out) (HT1.out) (HZ2.out) (HZ3.out) (HT4.out) (HZ5.out) (HZ6.out) (HZ7.out) (HZ8.out)) (parts_lt _)))
  go_wp2_with fail
  go_loopw [4] (fun i wr => i = .int .i64 0 ∧ wr = w2) (fun _ _ => 0)
  case atStart => exact ⟨rfl, rfl⟩
  case round =>
    obtain ⟨rfl, rfl⟩ := hrel
    have hz8 : pn.length = 0 := HL8.out
    go_wp2_with fail
    go_ret
    exact ⟨ret_bool HV.out.symm, HB3.out⟩
set_option maxHeartbeats 3200000 in
theorem refRight_4 (v s c t : Int) (e : En) (g d : List UInt8) (pf : List Lt) (pn : List Pv) (q : Mad) (F : Nat → Prop) (w : World) (h : MgR F w (mgOf 4 v s c t e g d pf pn) q) :
    Calls Try.prog 40 #[.agg #[.int .i64 4, .int .i64 v, .int .i64 s, .int .i64 c, .int .i64 t, .int .i64 e.c, .int .i64 e.s, .int .i64 e.t, .slice q.ea e.dig.length q.ec, .slice q.ga g.length q.gc, .slice q.da d.length q.dc, .slice q.pa pf.length q.pc, .slice q.va pn.length q.vc]] w (Tells (.bool (mgOf 4 v s c t e g d pf pn).ok) w) := by
  have hB := (Below.refl w.heap.size w).alloc (Nat.le_refl _) (.cells #[.int .i64 4, .int .i64 v, .int .i64 s, .int .i64 c, .int .i64 t, .int .i64 e.c, .int .i64 e.s, .int .i64 e.t, .slice q.ea e.dig.length q.ec, .slice q.ga g.length q.gc, .slice q.da d.length q.dc, .slice q.pa pf.length q.pc, .slice q.va pn.length q.vc] 28)
  have HB := Lib.hid hB
  have HK := Lib.hid (Bk.new w 28 [.int .i64 4, .int .i64 v, .int .i64 s, .int .i64 c, .int .i64 t, .int .i64 e.c, .int .i64 e.s, .int .i64 e.t, .slice q.ea e.dig.length q.ec, .slice q.ga g.length q.gc, .slice q.da d.length q.dc, .slice q.pa pf.length q.pc, .slice q.va pn.length q.vc])
  have HR := Lib.hid (h.below hB)
  have HP := Lib.hid (show ∀ W, Calls Try.prog 39 #[.int .i64 4] W (Tells (.string ⟨([118, 115, 101] : List UInt8).toArray⟩) W) from fun W => refParts_any 4 W)
  have hd9 : d.length ≤ maxLen := Nat.le_trans h.d.sl.1 h.d.sl.2.1
  have hn9 : pn.length ≤ maxLen := Nat.le_trans h.v.1 h.v.2.1
  simp only [maxLen] at hd9 hn9
  clear h hB
  generalize hok : Mg.ok (mgOf 4 v s c t e g d pf pn) = ok
  have HOK := Lib.hid hok
  clear hok
  go_enter Try.func40, Try.ntmps40
  simp only [List.append]
  go_wp2_with fail
  refine (HP.out _).mono ?_
  rintro e1 w1 ⟨rfl, hb1⟩
  have HB1 := Lib.hid (below_next HB.out hb1 HB.out.size)
  have HK1 := Lib.hid (HK.out.kept hb1)
  have HR1 := Lib.hid (HR.out.below hb1)
  clear hb1
  have k0 := HK1.out.at_ (i := 0) rfl
  have k1 := HK1.out.at_ (i := 1) rfl
  have k2 := HK1.out.at_ (i := 2) rfl
  have k3 := HK1.out.at_ (i := 3) rfl
  have k4 := HK1.out.at_ (i := 4) rfl
  have k5 := HK1.out.at_ (i := 5) rfl
  have k6 := HK1.out.at_ (i := 6) rfl
  have k7 := HK1.out.at_ (i := 7) rfl
  have k8 := HK1.out.at_ (i := 8) rfl
  have k9 := HK1.out.at_ (i := 9) rfl
  have k10 := HK1.out.at_ (i := 10) rfl
  have k11 := HK1.out.at_ (i := 11) rfl
  have k12 := HK1.out.at_ (i := 12) rfl
  go_wp2_with fail
  refine (refHas_lit [118, 115, 101] 118 true 118 rfl (by decide) (by decide) _).mono ?_
  rintro e1 w2 ⟨rfl, rfl⟩
  go_wp2_with fail
  refine (refHas_lit [118, 115, 101] 115 true 115 rfl (by decide) (by decide) _).mono ?_
  rintro e1 w2 ⟨rfl, rfl⟩
  go_wp2_with fail
  refine (refHas_lit [118, 115, 101] 99 false 99 rfl (by decide) (by decide) _).mono ?_
  rintro e1 w2 ⟨rfl, rfl⟩
  by_cases z2 : c = 0
  rotate_left
  · have HV := Lib.hid (show ok = false from HOK.out.symm.trans (ok_no (m := (mgOf 4 v s c t e g d pf pn)) (p := 2) (by decide) rfl (decide_eq_false z2)))
    have b2 : (c != 0) = true := bne_iff_ne.2 z2
    clear z2
    go_wp2_with fail
    go_ret
    exact ⟨ret_bool HV.out.symm, HB1.out⟩
  have HZ2 := Lib.hid (show Mg.partNo (mgOf 4 v s c t e g d pf pn) 2 = true from decide_eq_true z2)
  have b2 : (c != 0) = false := bne_eq_false_iff_eq.2 z2
  have HT2 := Lib.hid (show peerB c = true by rw [z2]; rfl)
  clear z2
  go_wp2_with fail
  refine (refHas_lit [118, 115, 101] 116 false 116 rfl (by decide) (by decide) _).mono ?_
  rintro e1 w2 ⟨rfl, rfl⟩
  by_cases z3 : t = 0
  rotate_left
  · have HV := Lib.hid (show ok = false from HOK.out.symm.trans (ok_no (m := (mgOf 4 v s c t e g d pf pn)) (p := 3) (by decide) rfl (decide_eq_false z3)))
    have b3 : (t != 0) = true := bne_iff_ne.2 z3
    clear z3
    go_wp2_with fail
    go_ret
    exact ⟨ret_bool HV.out.symm, HB1.out⟩
  have HZ3 := Lib.hid (show Mg.partNo (mgOf 4 v s c t e g d pf pn) 3 = true from decide_eq_true z3)
  have b3 : (t != 0) = false := bne_eq_false_iff_eq.2 z3
  have HT3 := Lib.hid (show wideB t = true by rw [z3]; rfl)
  clear z3
  go_wp2_with fail
  refine (refHas_lit [118, 115, 101] 101 true 101 rfl (by decide) (by decide) _).mono ?_
  rintro e1 w2 ⟨rfl, rfl⟩
  go_wp2_with fail
  refine (refHas_lit [118, 115, 101] 100 false 100 rfl (by decide) (by decide) _).mono ?_
  rintro e1 w2 ⟨rfl, rfl⟩
  by_cases z5 : g.length = 0
  rotate_left
  · have HV := Lib.hid (show ok = false from HOK.out.symm.trans (ok_no (m := (mgOf 4 v s c t e g d pf pn)) (p := 5) (by decide) rfl (decide_eq_false z5)))
    have b5 : ((g.length : Int) != 0) = true := by rw [bne_iff_ne]; omega
    clear z5
    go_wp2_with fail
    go_ret
    exact ⟨ret_bool HV.out.symm, HB1.out⟩
  have HZ5 := Lib.hid (show Mg.partNo (mgOf 4 v s c t e g d pf pn) 5 = true from decide_eq_true z5)
  have b5 : ((g.length : Int) != 0) = false := by rw [bne_eq_false_iff_eq]; omega
  have HL5 := Lib.hid z5
  clear z5
  go_wp2_with fail
  refine (refHas_lit [118, 115, 101] 98 false 98 rfl (by decide) (by decide) _).mono ?_
  rintro e1 w2 ⟨rfl, rfl⟩
  by_cases z6 : d.length = 0
  rotate_left
  · have HV := Lib.hid (show ok = false from HOK.out.symm.trans (ok_no (m := (mgOf 4 v s c t e g d pf pn)) (p := 6) (by decide) rfl (decide_eq_false z6)))
    have b6 : ((d.length : Int) != 0) = true := by rw [bne_iff_ne]; omega
    clear z6
    go_wp2_with fail
    go_ret
    exact ⟨ret_bool HV.out.symm, HB1.out⟩
  have HZ6 := Lib.hid (show Mg.partNo (mgOf 4 v s c t e g d pf pn) 6 = true from decide_eq_true z6)
  have b6 : ((d.length : Int) != 0) = false := by rw [bne_eq_false_iff_eq]; omega
  have HL6 := Lib.hid z6
  clear z6
  go_wp2_with fail
  refine (refHas_lit [118, 115, 101] 108 false 108 rfl (by decide) (by decide) _).mono ?_
  rintro e1 w2 ⟨rfl, rfl⟩
  by_cases z7 : pf.length = 0
  rotate_left
  · have HV := Lib.hid (show ok = false from HOK.out.symm.trans (ok_no (m := (mgOf 4 v s c t e g d pf pn)) (p := 7) (by decide) rfl (decide_eq_false z7)))
    have b7 : ((pf.length : Int) != 0) = true := by rw [bne_iff_ne]; omega
    clear z7
    go_wp2_with fail
    go_ret
    exact ⟨ret_bool HV.out.symm, HB1.out⟩
  have HZ7 := Lib.hid (show Mg.partNo (mgOf 4 v s c t e g d pf pn) 7 = true from decide_eq_true z7)
  have b7 : ((pf.length : Int) != 0) = false := by rw [bne_eq_false_iff_eq]; omega
  have HL7 := Lib.hid z7
  clear z7
  go_wp2_with fail
  refine (refHas_lit [118, 115, 101] 112 false 112 rfl (by decide) (by decide) _).mono ?_
  rintro e1 w2 ⟨rfl, rfl⟩
  by_cases z8 : pn.length = 0
  rotate_left
  · have HV := Lib.hid (show ok = false from HOK.out.symm.trans (ok_no (m := (mgOf 4 v s c t e g d pf pn)) (p := 8) (by decide) rfl (decide_eq_false z8)))
    have b8 : ((pn.length : Int) != 0) = true := by rw [bne_iff_ne]; omega
    clear z8
    go_wp2_with fail
    go_ret
    exact ⟨ret_bool HV.out.symm, HB1.out⟩
  have HZ8 := Lib.hid (show Mg.partNo (mgOf 4 v s c t e g d pf pn) 8 = true from decide_eq_true z8)
  have b8 : ((pn.length : Int) != 0) = false := by rw [bne_eq_false_iff_eq]; omega
  have HL8 := Lib.hid z8
  clear z8
  go_wp2_with fail
  refine (refWide_any v _).mono ?_
  rintro e1 w2 ⟨rfl, rfl⟩
  generalize ht0 : wideB v = T0
  cases T0
  · have HV := Lib.hid (show ok = false from HOK.out.symm.trans (ok_part (m := (mgOf 4 v s c t e g d pf pn)) (p := 0) rfl (ht0)))
    go_wp2_with fail
    go_ret
    exact ⟨ret_bool HV.out.symm, HB1.out⟩
  have HT0 := Lib.hid ht0
  clear ht0
  go_wp2_with fail
  refine (refWide_any s _).mono ?_
  rintro e1 w2 ⟨rfl, rfl⟩
  generalize ht1 : wideB s = T1
  cases T1
  · have HV := Lib.hid (show ok = false from HOK.out.symm.trans (ok_part (m := (mgOf 4 v s c t e g d pf pn)) (p := 1) rfl (ht1)))
    go_wp2_with fail
    go_ret
    exact ⟨ret_bool HV.out.symm, HB1.out⟩
  have HT1 := Lib.hid ht1
  clear ht1
  go_wp2_with fail
  refine (refWide_any t _).mono ?_
  rintro e1 w2 ⟨rfl, rfl⟩
  rw [HT3.out]
  go_wp2_with fail
  refine (refPeer_any c _).mono ?_
  rintro e1 w2 ⟨rfl, rfl⟩
  rw [HT2.out]
  go_wp2_with fail
  refine (refHas_lit [118, 115, 101] 101 true 101 rfl (by decide) (by decide) _).mono ?_
  rintro e1 w2 ⟨rfl, rfl⟩
  go_wp2_with fail
  refine (refEntry_any e _ _ _).mono ?_
  rintro e1 w2 ⟨rfl, hb2⟩
  clear k0 k1 k2 k3 k4 k5 k6 k7 k8 k9 k10 k11 k12
  have HB2 := Lib.hid (below_next HB1.out hb2 HB1.out.size)
  have HK2 := Lib.hid (HK1.out.kept hb2)
  have HR2 := Lib.hid (HR1.out.below hb2)
  clear hb2
  have k0 := HK2.out.at_ (i := 0) rfl
  have k1 := HK2.out.at_ (i := 1) rfl
  have k2 := HK2.out.at_ (i := 2) rfl
  have k3 := HK2.out.at_ (i := 3) rfl
  have k4 := HK2.out.at_ (i := 4) rfl
  have k5 := HK2.out.at_ (i := 5) rfl
  have k6 := HK2.out.at_ (i := 6) rfl
  have k7 := HK2.out.at_ (i := 7) rfl
  have k8 := HK2.out.at_ (i := 8) rfl
  have k9 := HK2.out.at_ (i := 9) rfl
  have k10 := HK2.out.at_ (i := 10) rfl
  have k11 := HK2.out.at_ (i := 11) rfl
  have k12 := HK2.out.at_ (i := 12) rfl
  generalize ht4 : e.ok = T4
  cases T4
  · have HV := Lib.hid (show ok = false from HOK.out.symm.trans (ok_part (m := (mgOf 4 v s c t e g d pf pn)) (p := 4) rfl (ht4)))
    go_wp2_with fail
    go_ret
    exact ⟨ret_bool HV.out.symm, HB2.out⟩
  have HT4 := Lib.hid ht4
  clear ht4
  go_wp2_with fail
  refine (refHas_lit [118, 115, 101] 100 false 100 rfl (by decide) (by decide) _).mono ?_
  rintro e1 w2 ⟨rfl, rfl⟩
  have y6 : (d.length : Int) ≤ 65536 := by have := HL6.out; omega
  go_wp2_with fail
  refine (refLetters_any q.pa q.pc pf F _ HR2.out.p).mono ?_
  rintro e1 w2 ⟨rfl, hb3⟩
  clear k0 k1 k2 k3 k4 k5 k6 k7 k8 k9 k10 k11 k12
  have HB3 := Lib.hid (below_next HB2.out hb3 HB2.out.size)
  have HK3 := Lib.hid (HK2.out.kept hb3)
  have HR3 := Lib.hid (HR2.out.below hb3)
  clear hb3
  have k0 := HK3.out.at_ (i := 0) rfl
  have k1 := HK3.out.at_ (i := 1) rfl
  have k2 := HK3.out.at_ (i := 2) rfl
  have k3 := HK3.out.at_ (i := 3) rfl
  have k4 := HK3.out.at_ (i := 4) rfl
  have k5 := HK3.out.at_ (i := 5) rfl
  have k6 := HK3.out.at_ (i := 6) rfl
  have k7 := HK3.out.at_ (i := 7) rfl
  have k8 := HK3.out.at_ (i := 8) rfl
  have k9 := HK3.out.at_ (i := 9) rfl
  have k10 := HK3.out.at_ (i := 10) rfl
  have k11 := HK3.out.at_ (i := 11) rfl
  have k12 := HK3.out.at_ (i := 12) rfl
  rw [ltsOk_nil HL7.out]
  have y8 : (pn.length : Int) ≤ 8 := by have := HL8.out; omega
  have HV := Lib.hid (show ok = true from HOK.out.symm.trans (ok_all (m := (mgOf 4 v s c t e g d pf pn)) (part_cases (HT0.out) (HT1.out) (HZ2.out) (HZ3.out) (HT4.out) (HZ5.out) (HZ6.out) (HZ7.out) (HZ8.out)) (parts_lt _)))
  go_wp2_with fail
  go_loopw [4] (fun i wr => i = .int .i64 0 ∧ wr = w2) (fun _ _ => 0)
  case atStart => exact ⟨rfl, rfl⟩
  case round =>
    obtain ⟨rfl, rfl⟩ := hrel
    have hz8 : pn.length = 0 := HL8.out
    go_wp2_with fail
    go_ret
    exact ⟨ret_bool HV.out.symm, HB3.out⟩
set_option maxHeartbeats 3200000 in
theorem refRight_5 (v s c t : Int) (e : En) (g d : List UInt8) (pf : List Lt) (pn : List Pv) (q : Mad) (F : Nat → Prop) (w : World) (h : MgR F w (mgOf 5 v s c t e g d pf pn) q) :
    Calls Try.prog 40 #[.agg #[.int .i64 5, .int .i64 v, .int .i64 s, .int .i64 c, .int .i64 t, .int .i64 e.c, .int .i64 e.s, .int .i64 e.t, .slice q.ea e.dig.length q.ec, .slice q.ga g.length q.gc, .slice q.da d.length q.dc, .slice q.pa pf.length q.pc, .slice q.va pn.length q.vc]] w (Tells (.bool (mgOf 5 v s c t e g d pf pn).ok) w) := by
  have hB := (Below.refl w.heap.size w).alloc (Nat.le_refl _) (.cells #[.int .i64 5, .int .i64 v, .int .i64 s, .int .i64 c, .int .i64 t, .int .i64 e.c, .int .i64 e.s, .int .i64 e.t, .slice q.ea e.dig.length q.ec, .slice q.ga g.length q.gc, .slice q.da d.length q.dc, .slice q.pa pf.length q.pc, .slice q.va pn.length q.vc] 28)
  have HB := Lib.hid hB
  have HK := Lib.hid (Bk.new w 28 [.int .i64 5, .int .i64 v, .int .i64 s, .int .i64 c, .int .i64 t, .int .i64 e.c, .int .i64 e.s, .int .i64 e.t, .slice q.ea e.dig.length q.ec, .slice q.ga g.length q.gc, .slice q.da d.length q.dc, .slice q.pa pf.length q.pc, .slice q.va pn.length q.vc])
  have HR := Lib.hid (h.below hB)
  have HP := Lib.hid (show ∀ W, Calls Try.prog 39 #[.int .i64 5] W (Tells (.string ⟨([118, 115, 101] : List UInt8).toArray⟩) W) from fun W => refParts_any 5 W)
  have hd9 : d.length ≤ maxLen := Nat.le_trans h.d.sl.1 h.d.sl.2.1
  have hn9 : pn.length ≤ maxLen := Nat.le_trans h.v.1 h.v.2.1
  simp only [maxLen] at hd9 hn9
  clear h hB
  generalize hok : Mg.ok (mgOf 5 v s c t e g d pf pn) = ok
  have HOK := Lib.hid hok
  clear hok
  go_enter Try.func40, Try.ntmps40
  simp only [List.append]
  go_wp2_with fail
  refine (HP.out _).mono ?_
  rintro e1 w1 ⟨rfl, hb1⟩
  have HB1 := Lib.hid (below_next HB.out hb1 HB.out.size)
  have HK1 := Lib.hid (HK.out.kept hb1)
  have HR1 := Lib.hid (HR.out.below hb1)
  clear hb1
  have k0 := HK1.out.at_ (i := 0) rfl
  have k1 := HK1.out.at_ (i := 1) rfl
  have k2 := HK1.out.at_ (i := 2) rfl
  have k3 := HK1.out.at_ (i := 3) rfl
  have k4 := HK1.out.at_ (i := 4) rfl
  have k5 := HK1.out.at_ (i := 5) rfl
  have k6 := HK1.out.at_ (i := 6) rfl
  have k7 := HK1.out.at_ (i := 7) rfl
  have k8 := HK1.out.at_ (i := 8) rfl
  have k9 := HK1.out.at_ (i := 9) rfl
  have k10 := HK1.out.at_ (i := 10) rfl
  have k11 := HK1.out.at_ (i := 11) rfl
  have k12 := HK1.out.at_ (i := 12) rfl
  go_wp2_with fail
  refine (refHas_lit [118, 115, 101] 118 true 118 rfl (by decide) (by decide) _).mono ?_
  rintro e1 w2 ⟨rfl, rfl⟩
  go_wp2_with fail
  refine (refHas_lit [118, 115, 101] 115 true 115 rfl (by decide) (by decide) _).mono ?_
  rintro e1 w2 ⟨rfl, rfl⟩
  go_wp2_with fail
  refine (refHas_lit [118, 115, 101] 99 false 99 rfl (by decide) (by decide) _).mono ?_
  rintro e1 w2 ⟨rfl, rfl⟩
  by_cases z2 : c = 0
  rotate_left
  · have HV := Lib.hid (show ok = false from HOK.out.symm.trans (ok_no (m := (mgOf 5 v s c t e g d pf pn)) (p := 2) (by decide) rfl (decide_eq_false z2)))
    have b2 : (c != 0) = true := bne_iff_ne.2 z2
    clear z2
    go_wp2_with fail
    go_ret
    exact ⟨ret_bool HV.out.symm, HB1.out⟩
  have HZ2 := Lib.hid (show Mg.partNo (mgOf 5 v s c t e g d pf pn) 2 = true from decide_eq_true z2)
  have b2 : (c != 0) = false := bne_eq_false_iff_eq.2 z2
  have HT2 := Lib.hid (show peerB c = true by rw [z2]; rfl)
  clear z2
  go_wp2_with fail
  refine (refHas_lit [118, 115, 101] 116 false 116 rfl (by decide) (by decide) _).mono ?_
  rintro e1 w2 ⟨rfl, rfl⟩
  by_cases z3 : t = 0
  rotate_left
  · have HV := Lib.hid (show ok = false from HOK.out.symm.trans (ok_no (m := (mgOf 5 v s c t e g d pf pn)) (p := 3) (by decide) rfl (decide_eq_false z3)))
    have b3 : (t != 0) = true := bne_iff_ne.2 z3
    clear z3
    go_wp2_with fail
    go_ret
    exact ⟨ret_bool HV.out.symm, HB1.out⟩
  have HZ3 := Lib.hid (show Mg.partNo (mgOf 5 v s c t e g d pf pn) 3 = true from decide_eq_true z3)
  have b3 : (t != 0) = false := bne_eq_false_iff_eq.2 z3
  have HT3 := Lib.hid (show wideB t = true by rw [z3]; rfl)
  clear z3
  go_wp2_with fail
  refine (refHas_lit [118, 115, 101] 101 true 101 rfl (by decide) (by decide) _).mono ?_
  rintro e1 w2 ⟨rfl, rfl⟩
  go_wp2_with fail
  refine (refHas_lit [118, 115, 101] 100 false 100 rfl (by decide) (by decide) _).mono ?_
  rintro e1 w2 ⟨rfl, rfl⟩
  by_cases z5 : g.length = 0
  rotate_left
  · have HV := Lib.hid (show ok = false from HOK.out.symm.trans (ok_no (m := (mgOf 5 v s c t e g d pf pn)) (p := 5) (by decide) rfl (decide_eq_false z5)))
    have b5 : ((g.length : Int) != 0) = true := by rw [bne_iff_ne]; omega
    clear z5
    go_wp2_with fail
    go_ret
    exact ⟨ret_bool HV.out.symm, HB1.out⟩
  have HZ5 := Lib.hid (show Mg.partNo (mgOf 5 v s c t e g d pf pn) 5 = true from decide_eq_true z5)
  have b5 : ((g.length : Int) != 0) = false := by rw [bne_eq_false_iff_eq]; omega
  have HL5 := Lib.hid z5
  clear z5
  go_wp2_with fail
  refine (refHas_lit [118, 115, 101] 98 false 98 rfl (by decide) (by decide) _).mono ?_
  rintro e1 w2 ⟨rfl, rfl⟩
  by_cases z6 : d.length = 0
  rotate_left
  · have HV := Lib.hid (show ok = false from HOK.out.symm.trans (ok_no (m := (mgOf 5 v s c t e g d pf pn)) (p := 6) (by decide) rfl (decide_eq_false z6)))
    have b6 : ((d.length : Int) != 0) = true := by rw [bne_iff_ne]; omega
    clear z6
    go_wp2_with fail
    go_ret
    exact ⟨ret_bool HV.out.symm, HB1.out⟩
  have HZ6 := Lib.hid (show Mg.partNo (mgOf 5 v s c t e g d pf pn) 6 = true from decide_eq_true z6)
  have b6 : ((d.length : Int) != 0) = false := by rw [bne_eq_false_iff_eq]; omega
  have HL6 := Lib.hid z6
  clear z6
  go_wp2_with fail
  refine (refHas_lit [118, 115, 101] 108 false 108 rfl (by decide) (by decide) _).mono ?_
  rintro e1 w2 ⟨rfl, rfl⟩
  by_cases z7 : pf.length = 0
  rotate_left
  · have HV := Lib.hid (show ok = false from HOK.out.symm.trans (ok_no (m := (mgOf 5 v s c t e g d pf pn)) (p := 7) (by decide) rfl (decide_eq_false z7)))
    have b7 : ((pf.length : Int) != 0) = true := by rw [bne_iff_ne]; omega
    clear z7
    go_wp2_with fail
    go_ret
    exact ⟨ret_bool HV.out.symm, HB1.out⟩
  have HZ7 := Lib.hid (show Mg.partNo (mgOf 5 v s c t e g d pf pn) 7 = true from decide_eq_true z7)
  have b7 : ((pf.length : Int) != 0) = false := by rw [bne_eq_false_iff_eq]; omega
  have HL7 := Lib.hid z7
  clear z7
  go_wp2_with fail
  refine (refHas_lit [118, 115, 101] 112 false 112 rfl (by decide) (by decide) _).mono ?_
  rintro e1 w2 ⟨rfl, rfl⟩
  by_cases z8 : pn.length = 0
  rotate_left
  · have HV := Lib.hid (show ok = false from HOK.out.symm.trans (ok_no (m := (mgOf 5 v s c t e g d pf pn)) (p := 8) (by decide) rfl (decide_eq_false z8)))
    have b8 : ((pn.length : Int) != 0) = true := by rw [bne_iff_ne]; omega
    clear z8
    go_wp2_with fail
    go_ret
    exact ⟨ret_bool HV.out.symm, HB1.out⟩
  have HZ8 := Lib.hid (show Mg.partNo (mgOf 5 v s c t e g d pf pn) 8 = true from decide_eq_true z8)
  have b8 : ((pn.length : Int) != 0) = false := by rw [bne_eq_false_iff_eq]; omega
  have HL8 := Lib.hid z8
  clear z8
  go_wp2_with fail
  refine (refWide_any v _).mono ?_
  rintro e1 w2 ⟨rfl, rfl⟩
  generalize ht0 : wideB v = T0
  cases T0
  · have HV := Lib.hid (show ok = false from HOK.out.symm.trans (ok_part (m := (mgOf 5 v s c t e g d pf pn)) (p := 0) rfl (ht0)))
    go_wp2_with fail
    go_ret
    exact ⟨ret_bool HV.out.symm, HB1.out⟩
  have HT0 := Lib.hid ht0
  clear ht0
  go_wp2_with fail
  refine (refWide_any s _).mono ?_
  rintro e1 w2 ⟨rfl, rfl⟩
  generalize ht1 : wideB s = T1
  cases T1
  · have HV := Lib.hid (show ok = false from HOK.out.symm.trans (ok_part (m := (mgOf 5 v s c t e g d pf pn)) (p := 1) rfl (ht1)))
    go_wp2_with fail
    go_ret
    exact ⟨ret_bool HV.out.symm, HB1.out⟩
  have HT1 := Lib.hid ht1
  clear ht1
  go_wp2_with fail
  refine (refWide_any t _).mono ?_
  rintro e1 w2 ⟨rfl, rfl⟩
  rw [HT3.out]
  go_wp2_with fail
  refine (refPeer_any c _).mono ?_
  rintro e1 w2 ⟨rfl, rfl⟩
  rw [HT2.out]
  go_wp2_with fail
  refine (refHas_lit [118, 115, 101] 101 true 101 rfl (by decide) (by decide) _).mono ?_
  rintro e1 w2 ⟨rfl, rfl⟩
  go_wp2_with fail
  refine (refEntry_any e _ _ _).mono ?_
  rintro e1 w2 ⟨rfl, hb2⟩
  clear k0 k1 k2 k3 k4 k5 k6 k7 k8 k9 k10 k11 k12
  have HB2 := Lib.hid (below_next HB1.out hb2 HB1.out.size)
  have HK2 := Lib.hid (HK1.out.kept hb2)
  have HR2 := Lib.hid (HR1.out.below hb2)
  clear hb2
  have k0 := HK2.out.at_ (i := 0) rfl
  have k1 := HK2.out.at_ (i := 1) rfl
  have k2 := HK2.out.at_ (i := 2) rfl
  have k3 := HK2.out.at_ (i := 3) rfl
  have k4 := HK2.out.at_ (i := 4) rfl
  have k5 := HK2.out.at_ (i := 5) rfl
  have k6 := HK2.out.at_ (i := 6) rfl
  have k7 := HK2.out.at_ (i := 7) rfl
  have k8 := HK2.out.at_ (i := 8) rfl
  have k9 := HK2.out.at_ (i := 9) rfl
  have k10 := HK2.out.at_ (i := 10) rfl
  have k11 := HK2.out.at_ (i := 11) rfl
  have k12 := HK2.out.at_ (i := 12) rfl
  generalize ht4 : e.ok = T4
  cases T4
  · have HV := Lib.hid (show ok = false from HOK.out.symm.trans (ok_part (m := (mgOf 5 v s c t e g d pf pn)) (p := 4) rfl (ht4)))
    go_wp2_with fail
    go_ret
    exact ⟨ret_bool HV.out.symm, HB2.out⟩
  have HT4 := Lib.hid ht4
  clear ht4
  go_wp2_with fail
  refine (refHas_lit [118, 115, 101] 100 false 100 rfl (by decide) (by decide) _).mono ?_
  rintro e1 w2 ⟨rfl, rfl⟩
  have y6 : (d.length : Int) ≤ 65536 := by have := HL6.out; omega
  go_wp2_with fail
  refine (refLetters_any q.pa q.pc pf F _ HR2.out.p).mono ?_
  rintro e1 w2 ⟨rfl, hb3⟩
  clear k0 k1 k2 k3 k4 k5 k6 k7 k8 k9 k10 k11 k12
  have HB3 := Lib.hid (below_next HB2.out hb3 HB2.out.size)
  have HK3 := Lib.hid (HK2.out.kept hb3)
  have HR3 := Lib.hid (HR2.out.below hb3)
  clear hb3
  have k0 := HK3.out.at_ (i := 0) rfl
  have k1 := HK3.out.at_ (i := 1) rfl
  have k2 := HK3.out.at_ (i := 2) rfl
  have k3 := HK3.out.at_ (i := 3) rfl
  have k4 := HK3.out.at_ (i := 4) rfl
  have k5 := HK3.out.at_ (i := 5) rfl
  have k6 := HK3.out.at_ (i := 6) rfl
  have k7 := HK3.out.at_ (i := 7) rfl
  have k8 := HK3.out.at_ (i := 8) rfl
  have k9 := HK3.out.at_ (i := 9) rfl
  have k10 := HK3.out.at_ (i := 10) rfl
  have k11 := HK3.out.at_ (i := 11) rfl
  have k12 := HK3.out.at_ (i := 12) rfl
  rw [ltsOk_nil HL7.out]
  have y8 : (pn.length : Int) ≤ 8 := by have := HL8.out; omega
  have HV := Lib.hid (show ok = true from HOK.out.symm.trans (ok_all (m := (mgOf 5 v s c t e g d pf pn)) (part_cases (HT0.out) (HT1.out) (HZ2.out) (HZ3.out) (HT4.out) (HZ5.out) (HZ6.out) (HZ7.out) (HZ8.out)) (parts_lt _)))
  go_wp2_with fail
  go_loopw [4] (fun i wr => i = .int .i64 0 ∧ wr = w2) (fun _ _ => 0)
  case atStart => exact ⟨rfl, rfl⟩
  case round =>
    obtain ⟨rfl, rfl⟩ := hrel
    have hz8 : pn.length = 0 := HL8.out
    go_wp2_with fail
    go_ret
    exact ⟨ret_bool HV.out.symm, HB3.out⟩
end Go.Proofs.Ytmgmmbgjmnklkaa
