/-
  The reference's right, of messages of some kinds. Walks; no statement.
-/
import Derived.Test.YtmgmmbgjmnklkaaMsgRef8
import Derived.Deep.CutRange
namespace Go.Proofs.Ytmgmmbgjmnklkaa
set_option maxRecDepth 100000
open Go.RowKit
open Pk
set_option linter.unusedVariables false

set_option maxHeartbeats 3200000 in
theorem refRight_11 (v s c t : Int) (e : En) (g d : List UInt8) (pf : List Lt) (pn : List Pv) (q : Mad) (F : Nat → Prop) (w : World) (h : MgR F w (mgOf 11 v s c t e g d pf pn) q) :
    Calls Try.prog 40 #[.agg #[.int .i64 11, .int .i64 v, .int .i64 s, .int .i64 c, .int .i64 t, .int .i64 e.c, .int .i64 e.s, .int .i64 e.t, .slice q.ea e.dig.length q.ec, .slice q.ga g.length q.gc, .slice q.da d.length q.dc, .slice q.pa pf.length q.pc, .slice q.va pn.length q.vc]] w (Tells (.bool (mgOf 11 v s c t e g d pf pn).ok) w) := by
  have hB := (Below.refl w.heap.size w).alloc (Nat.le_refl _) (.cells #[.int .i64 11, .int .i64 v, .int .i64 s, .int .i64 c, .int .i64 t, .int .i64 e.c, .int .i64 e.s, .int .i64 e.t, .slice q.ea e.dig.length q.ec, .slice q.ga g.length q.gc, .slice q.da d.length q.dc, .slice q.pa pf.length q.pc, .slice q.va pn.length q.vc] 28)
  have HB := Lib.hid hB
  have HK := Lib.hid (Bk.new w 28 [.int .i64 11, .int .i64 v, .int .i64 s, .int .i64 c, .int .i64 t, .int .i64 e.c, .int .i64 e.s, .int .i64 e.t, .slice q.ea e.dig.length q.ec, .slice q.ga g.length q.gc, .slice q.da d.length q.dc, .slice q.pa pf.length q.pc, .slice q.va pn.length q.vc])
  have HR := Lib.hid (h.below hB)
  have HP := Lib.hid (show ∀ W, Calls Try.prog 39 #[.int .i64 11] W (Tells (.string ⟨([118, 115, 108, 112] : List UInt8).toArray⟩) W) from fun W => refParts_any 11 W)
  have hd9 : d.length ≤ maxLen := Nat.le_trans h.d.sl.1 h.d.sl.2.1
  have hn9 : pn.length ≤ maxLen := Nat.le_trans h.v.1 h.v.2.1
  simp only [maxLen] at hd9 hn9
  clear h hB
  generalize hok : Mg.ok (mgOf 11 v s c t e g d pf pn) = ok
  have HOK := Lib.hid hok
  clear hok
  go_enter Try.func40, Try.ntmps40
  simp only [List.append]
  go_wp2_with fail
  refine (HP.out _).mono ?_
  rintro e1 w1 ⟨rfl, hb1⟩
  have HB1 := Lib.hid (below_next HB.out hb1 HB.out.size)
  have HK1 := Lib.hid (HK.out.kept hb1)
  have HR1 := Lib.hid (HR.out.below hb1)
  clear hb1
  have k0 := HK1.out.at_ (i := 0) rfl
  have k1 := HK1.out.at_ (i := 1) rfl
  have k2 := HK1.out.at_ (i := 2) rfl
  have k3 := HK1.out.at_ (i := 3) rfl
  have k4 := HK1.out.at_ (i := 4) rfl
  have k5 := HK1.out.at_ (i := 5) rfl
  have k6 := HK1.out.at_ (i := 6) rfl
  have k7 := HK1.out.at_ (i := 7) rfl
  have k8 := HK1.out.at_ (i := 8) rfl
  have k9 := HK1.out.at_ (i := 9) rfl
  have k10 := HK1.out.at_ (i := 10) rfl
  have k11 := HK1.out.at_ (i := 11) rfl
  have k12 := HK1.out.at_ (i := 12) rfl
  go_wp2_with fail
  refine (refHas_lit [118, 115, 108, 112] 118 true 118 rfl (by decide) (by decide) _).mono ?_
  rintro e1 w2 ⟨rfl, rfl⟩
  go_wp2_with fail
  refine (refHas_lit [118, 115, 108, 112] 115 true 115 rfl (by decide) (by decide) _).mono ?_
  rintro e1 w2 ⟨rfl, rfl⟩
  go_wp2_with fail
  refine (refHas_lit [118, 115, 108, 112] 99 false 99 rfl (by decide) (by decide) _).mono ?_
  rintro e1 w2 ⟨rfl, rfl⟩
  by_cases z2 : c = 0
  rotate_left
  · have HV := Lib.hid (show ok = false from HOK.out.symm.trans (ok_no (m := (mgOf 11 v s c t e g d pf pn)) (p := 2) (by decide) rfl (decide_eq_false z2)))
    have b2 : (c != 0) = true := bne_iff_ne.2 z2
    clear z2
    go_wp2_with fail
    go_ret
    exact ⟨ret_bool HV.out.symm, HB1.out⟩
  have HZ2 := Lib.hid (show Mg.partNo (mgOf 11 v s c t e g d pf pn) 2 = true from decide_eq_true z2)
  have b2 : (c != 0) = false := bne_eq_false_iff_eq.2 z2
  have HT2 := Lib.hid (show peerB c = true by rw [z2]; rfl)
  clear z2
  go_wp2_with fail
  refine (refHas_lit [118, 115, 108, 112] 116 false 116 rfl (by decide) (by decide) _).mono ?_
  rintro e1 w2 ⟨rfl, rfl⟩
  by_cases z3 : t = 0
  rotate_left
  · have HV := Lib.hid (show ok = false from HOK.out.symm.trans (ok_no (m := (mgOf 11 v s c t e g d pf pn)) (p := 3) (by decide) rfl (decide_eq_false z3)))
    have b3 : (t != 0) = true := bne_iff_ne.2 z3
    clear z3
    go_wp2_with fail
    go_ret
    exact ⟨ret_bool HV.out.symm, HB1.out⟩
  have HZ3 := Lib.hid (show Mg.partNo (mgOf 11 v s c t e g d pf pn) 3 = true from decide_eq_true z3)
  have b3 : (t != 0) = false := bne_eq_false_iff_eq.2 z3
  have HT3 := Lib.hid (show wideB t = true by rw [z3]; rfl)
  clear z3
  go_wp2_with fail
  refine (refHas_lit [118, 115, 108, 112] 101 false 101 rfl (by decide) (by decide) _).mono ?_
  rintro e1 w2 ⟨rfl, rfl⟩
  go_wp2_with fail
  refine (sameEntry_any e En.zero q.ea none q.ec 0 F (fun _ => True) _ HR1.out.e (BF.nil_ _ _)).mono ?_
  rintro e1 w2 ⟨rfl, hb2⟩
  clear k0 k1 k2 k3 k4 k5 k6 k7 k8 k9 k10 k11 k12
  rw [en_no]
  have HB2 := Lib.hid (below_next HB1.out hb2 HB1.out.size)
  have HK2 := Lib.hid (HK1.out.kept hb2)
  have HR2 := Lib.hid (HR1.out.below hb2)
  clear hb2
  have k0 := HK2.out.at_ (i := 0) rfl
  have k1 := HK2.out.at_ (i := 1) rfl
  have k2 := HK2.out.at_ (i := 2) rfl
  have k3 := HK2.out.at_ (i := 3) rfl
  have k4 := HK2.out.at_ (i := 4) rfl
  have k5 := HK2.out.at_ (i := 5) rfl
  have k6 := HK2.out.at_ (i := 6) rfl
  have k7 := HK2.out.at_ (i := 7) rfl
  have k8 := HK2.out.at_ (i := 8) rfl
  have k9 := HK2.out.at_ (i := 9) rfl
  have k10 := HK2.out.at_ (i := 10) rfl
  have k11 := HK2.out.at_ (i := 11) rfl
  have k12 := HK2.out.at_ (i := 12) rfl
  generalize hz4 : decide (e.c = 0 ∧ e.s = 0 ∧ e.t = 0 ∧ e.dig.length = 0) = Z4
  cases Z4
  · have HV := Lib.hid (show ok = false from HOK.out.symm.trans (ok_no (m := (mgOf 11 v s c t e g d pf pn)) (p := 4) (by decide) rfl (hz4)))
    go_wp2_with fail
    go_ret
    exact ⟨ret_bool HV.out.symm, HB2.out⟩
  have HZ4 := Lib.hid hz4
  clear hz4
  go_wp2_with fail
  refine (refHas_lit [118, 115, 108, 112] 100 false 100 rfl (by decide) (by decide) _).mono ?_
  rintro e1 w2 ⟨rfl, rfl⟩
  by_cases z5 : g.length = 0
  rotate_left
  · have HV := Lib.hid (show ok = false from HOK.out.symm.trans (ok_no (m := (mgOf 11 v s c t e g d pf pn)) (p := 5) (by decide) rfl (decide_eq_false z5)))
    have b5 : ((g.length : Int) != 0) = true := by rw [bne_iff_ne]; omega
    clear z5
    go_wp2_with fail
    go_ret
    exact ⟨ret_bool HV.out.symm, HB2.out⟩
  have HZ5 := Lib.hid (show Mg.partNo (mgOf 11 v s c t e g d pf pn) 5 = true from decide_eq_true z5)
  have b5 : ((g.length : Int) != 0) = false := by rw [bne_eq_false_iff_eq]; omega
  have HL5 := Lib.hid z5
  clear z5
  go_wp2_with fail
  refine (refHas_lit [118, 115, 108, 112] 98 false 98 rfl (by decide) (by decide) _).mono ?_
  rintro e1 w2 ⟨rfl, rfl⟩
  by_cases z6 : d.length = 0
  rotate_left
  · have HV := Lib.hid (show ok = false from HOK.out.symm.trans (ok_no (m := (mgOf 11 v s c t e g d pf pn)) (p := 6) (by decide) rfl (decide_eq_false z6)))
    have b6 : ((d.length : Int) != 0) = true := by rw [bne_iff_ne]; omega
    clear z6
    go_wp2_with fail
    go_ret
    exact ⟨ret_bool HV.out.symm, HB2.out⟩
  have HZ6 := Lib.hid (show Mg.partNo (mgOf 11 v s c t e g d pf pn) 6 = true from decide_eq_true z6)
  have b6 : ((d.length : Int) != 0) = false := by rw [bne_eq_false_iff_eq]; omega
  have HL6 := Lib.hid z6
  clear z6
  go_wp2_with fail
  refine (refHas_lit [118, 115, 108, 112] 108 true 108 rfl (by decide) (by decide) _).mono ?_
  rintro e1 w2 ⟨rfl, rfl⟩
  go_wp2_with fail
  refine (refHas_lit [118, 115, 108, 112] 112 true 112 rfl (by decide) (by decide) _).mono ?_
  rintro e1 w2 ⟨rfl, rfl⟩
  go_wp2_with fail
  refine (refWide_any v _).mono ?_
  rintro e1 w2 ⟨rfl, rfl⟩
  generalize ht0 : wideB v = T0
  cases T0
  · have HV := Lib.hid (show ok = false from HOK.out.symm.trans (ok_part (m := (mgOf 11 v s c t e g d pf pn)) (p := 0) rfl (ht0)))
    go_wp2_with fail
    go_ret
    exact ⟨ret_bool HV.out.symm, HB2.out⟩
  have HT0 := Lib.hid ht0
  clear ht0
  go_wp2_with fail
  refine (refWide_any s _).mono ?_
  rintro e1 w2 ⟨rfl, rfl⟩
  generalize ht1 : wideB s = T1
  cases T1
  · have HV := Lib.hid (show ok = false from HOK.out.symm.trans (ok_part (m := (mgOf 11 v s c t e g d pf pn)) (p := 1) rfl (ht1)))
    go_wp2_with fail
    go_ret
    exact ⟨ret_bool HV.out.symm, HB2.out⟩
  have HT1 := Lib.hid ht1
  clear ht1
  go_wp2_with fail
  refine (refWide_any t _).mono ?_
  rintro e1 w2 ⟨rfl, rfl⟩
  rw [HT3.out]
  go_wp2_with fail
  refine (refPeer_any c _).mono ?_
  rintro e1 w2 ⟨rfl, rfl⟩
  rw [HT2.out]
  go_wp2_with fail
  refine (refHas_lit [118, 115, 108, 112] 101 false 101 rfl (by decide) (by decide) _).mono ?_
  rintro e1 w2 ⟨rfl, rfl⟩
  go_wp2_with fail
  refine (refHas_lit [118, 115, 108, 112] 100 false 100 rfl (by decide) (by decide) _).mono ?_
  rintro e1 w2 ⟨rfl, rfl⟩
  have y6 : (d.length : Int) ≤ 65536 := by have := HL6.out; omega
  go_wp2_with fail
  refine (refLetters_any q.pa q.pc pf F _ HR2.out.p).mono ?_
  rintro e1 w2 ⟨rfl, hb3⟩
  clear k0 k1 k2 k3 k4 k5 k6 k7 k8 k9 k10 k11 k12
  have HB3 := Lib.hid (below_next HB2.out hb3 HB2.out.size)
  have HK3 := Lib.hid (HK2.out.kept hb3)
  have HR3 := Lib.hid (HR2.out.below hb3)
  clear hb3
  have k0 := HK3.out.at_ (i := 0) rfl
  have k1 := HK3.out.at_ (i := 1) rfl
  have k2 := HK3.out.at_ (i := 2) rfl
  have k3 := HK3.out.at_ (i := 3) rfl
  have k4 := HK3.out.at_ (i := 4) rfl
  have k5 := HK3.out.at_ (i := 5) rfl
  have k6 := HK3.out.at_ (i := 6) rfl
  have k7 := HK3.out.at_ (i := 7) rfl
  have k8 := HK3.out.at_ (i := 8) rfl
  have k9 := HK3.out.at_ (i := 9) rfl
  have k10 := HK3.out.at_ (i := 10) rfl
  have k11 := HK3.out.at_ (i := 11) rfl
  have k12 := HK3.out.at_ (i := 12) rfl
  generalize ht7 : ltsOk pf = T7
  cases T7
  · have HV := Lib.hid (show ok = false from HOK.out.symm.trans (ok_part (m := (mgOf 11 v s c t e g d pf pn)) (p := 7) rfl (ht7)))
    go_wp2_with fail
    go_ret
    exact ⟨ret_bool HV.out.symm, HB3.out⟩
  have HT7 := Lib.hid ht7
  clear ht7
  by_cases z8 : 8 < pn.length
  · have HV := Lib.hid (show ok = false from HOK.out.symm.trans (ok_part (m := (mgOf 11 v s c t e g d pf pn)) (p := 8) rfl (show pvsOk pn = false by unfold pvsOk; rw [decide_eq_false (by omega)]; rfl)))
    have y8 : (8 : Int) < (pn.length : Int) := by omega
    clear z8
    go_wp2_with fail
    go_ret
    exact ⟨ret_bool HV.out.symm, HB3.out⟩
  have y8 : (pn.length : Int) ≤ 8 := by omega
  have HL8 := Lib.hid (show pn.length ≤ 8 by omega)
  clear z8
  go_wp2_with fail
  clear k0 k1 k2 k3 k4 k5 k6 k7 k8 k9 k10 k11 k12
  go_loopw [4] (fun i wr => ∃ k : Nat, k ≤ pn.length ∧ i = .int .i64 k ∧ (pn.take k).all Pv.ok = true ∧ Below w2.heap.size w2 wr) (fun i _ => pn.length - (intOf i).toNat)
  case atStart => exact ⟨0, by omega, rfl, rfl, Below.refl _ _⟩
  case round =>
    obtain ⟨k, hk, rfl, hall, hb⟩ := hrel
    have HALL := Lib.hid hall
    have HBW := Lib.hid (below_next HB3.out hb HB3.out.size)
    have HKW := Lib.hid (HK3.out.kept hb)
    have HRW := Lib.hid (HR3.out.below hb)
    have HB0 := Lib.hid hb
    have k12 := HKW.out.at_ (i := 12) rfl
    clear hall hb
    by_cases hlt : k < pn.length
    · obtain ⟨x, hx⟩ : ∃ x, pn[k]? = some x := ⟨_, List.getElem?_eq_getElem hlt⟩
      obtain ⟨a, B, b, D, r, hva, hxb, c0, c1, c2, c3, c4, c5, c6, he, hr⟩ := HRW.out.v.pv7 hx
      rw [hva] at k12
      clear hva
      have HX := Lib.hid hx
      have y1 : (0 : Int) ≤ (k : Int) := by omega
      have y2 : (k : Int) < (pn.length : Int) := by omega
      have HS := Lib.hid (show x.ok = (wideB x.seq && (wideB x.view && (x.e.ok && ltsOk x.votes))) from rfl)
      have HN := Lib.hid (show x.ok = true → (pn.take (k + 1)).all Pv.ok = true by
        intro ho
        obtain ⟨hh, he⟩ := List.getElem?_eq_some_iff.1 hx
        rw [List.take_succ_eq_append_getElem hh, List.all_append, HALL.out, he]
        simp [ho])
      have HF := Lib.hid (show x.ok = false → ok = false from fun ho => HOK.out.symm.trans (ok_part (m := (mgOf 11 v s c t e g d pf pn)) (p := 8) rfl (show pvsOk pn = false by unfold pvsOk; rw [Bool.and_eq_false_iff]; right; rw [List.all_eq_false]; exact ⟨x, List.mem_of_getElem? hx, by rw [ho]; decide⟩)))
      obtain ⟨X, hX⟩ : ∃ X, X = wr.alloc (.cells #[.int .i64 x.seq, .int .i64 x.view, .int .i64 x.e.c, .int .i64 x.e.s, .int .i64 x.e.t, .slice B x.e.dig.length b, .slice D x.votes.length r] 62) := ⟨_, rfl⟩
      have hbx : Below wr.heap.size wr X := by rw [hX]; exact (Below.refl _ _).alloc (Nat.le_refl _) _
      have HKX := Lib.hid (show Bk X wr.heap.size 62 [.int .i64 x.seq, .int .i64 x.view, .int .i64 x.e.c, .int .i64 x.e.s, .int .i64 x.e.t, .slice B x.e.dig.length b, .slice D x.votes.length r] by rw [hX]; exact Bk.new wr _ _)
      have HBX := Lib.hid (below_next HBW.out hbx HBW.out.size)
      have HB0X := Lib.hid (below_next HB0.out hbx HB0.out.size)
      have HEX := Lib.hid (he.below hbx)
      have HVX := Lib.hid (hr.below hbx)
      clear hx he hr hbx
      go_upto_region 12 with fail
      rw [← hX]
      clear hX c0 c1 c2 c3 c4 c5 c6 k12 hxb
      have p0 := HKX.out.at_ (i := 0) rfl
      have p1 := HKX.out.at_ (i := 1) rfl
      have p2 := HKX.out.at_ (i := 2) rfl
      have p3 := HKX.out.at_ (i := 3) rfl
      have p4 := HKX.out.at_ (i := 4) rfl
      have p5 := HKX.out.at_ (i := 5) rfl
      have p6 := HKX.out.at_ (i := 6) rfl
      go_wp2_with fail
      refine (refWide_any x.seq _).mono ?_
      rintro e1 w3 ⟨rfl, rfl⟩
      generalize hs0 : wideB x.seq = S0
      cases S0
      · have HV := Lib.hid (HF.out (by rw [HS.out, hs0]; simp))
        go_wp2_with fail
        go_ret
        exact ⟨ret_bool HV.out.symm, HBX.out⟩
      go_wp2_with fail
      refine (refWide_any x.view _).mono ?_
      rintro e1 w3 ⟨rfl, rfl⟩
      generalize hs1 : wideB x.view = S1
      cases S1
      · have HV := Lib.hid (HF.out (by rw [HS.out, hs1]; simp))
        go_wp2_with fail
        go_ret
        exact ⟨ret_bool HV.out.symm, HBX.out⟩
      go_wp2_with fail
      refine (refEntry_any x.e _ _ _).mono ?_
      rintro e1 w4 ⟨rfl, hb4⟩
      have HB4 := Lib.hid (below_next HBX.out hb4 HBX.out.size)
      have HB04 := Lib.hid (below_next HB0X.out hb4 HB0X.out.size)
      have HK4 := Lib.hid (HKX.out.kept hb4)
      have HV4 := Lib.hid (HVX.out.below hb4)
      clear hb4 p0 p1 p2 p3 p4 p5 p6
      have p6 := HK4.out.at_ (i := 6) rfl
      generalize hs2 : x.e.ok = S2
      cases S2
      · have HV := Lib.hid (HF.out (by rw [HS.out, hs2]; simp))
        go_wp2_with fail
        go_ret
        exact ⟨ret_bool HV.out.symm, HB4.out⟩
      go_wp2_with fail
      refine (refLetters_any D r x.votes F _ HV4.out).mono ?_
      rintro e1 w5 ⟨rfl, hb5⟩
      have HB5 := Lib.hid (below_next HB4.out hb5 HB4.out.size)
      have HB05 := Lib.hid (below_next HB04.out hb5 HB04.out.size)
      clear hb5 p6
      generalize hs3 : ltsOk x.votes = S3
      cases S3
      · have HV := Lib.hid (HF.out (by rw [HS.out, hs3]; simp))
        go_wp2_with fail
        go_ret
        exact ⟨ret_bool HV.out.symm, HB5.out⟩
      have HNN := Lib.hid (HN.out (by rw [HS.out, hs0, hs1, hs2, hs3]; rfl))
      clear hs0 hs1 hs2 hs3
      go_wp2_with fail
      go_roundw
      case rel => exact ⟨k + 1, by omega, by go_num, HNN.out, HB05.out⟩
      case measure => simp [intOf]; omega
    · have e9 : pn.take k = pn := List.take_of_length_le (by omega)
      have HPN := Lib.hid (show pvsOk pn = true by have h1 := HALL.out; rw [e9] at h1; unfold pvsOk; rw [h1, decide_eq_true HL8.out]; rfl)
      clear e9
      have HV := Lib.hid (show ok = true from HOK.out.symm.trans (ok_all (m := (mgOf 11 v s c t e g d pf pn)) (part_cases (HT0.out) (HT1.out) (HZ2.out) (HZ3.out) (HZ4.out) (HZ5.out) (HZ6.out) (HT7.out) (HPN.out)) (parts_lt _)))
      have y3 : ¬ ((k : Int) < (pn.length : Int)) := by omega
      go_wp2_with fail
      go_ret
      exact ⟨ret_bool HV.out.symm, HBW.out⟩
set_option maxHeartbeats 3200000 in
theorem refRight_12 (v s c t : Int) (e : En) (g d : List UInt8) (pf : List Lt) (pn : List Pv) (q : Mad) (F : Nat → Prop) (w : World) (h : MgR F w (mgOf 12 v s c t e g d pf pn) q) :
    Calls Try.prog 40 #[.agg #[.int .i64 12, .int .i64 v, .int .i64 s, .int .i64 c, .int .i64 t, .int .i64 e.c, .int .i64 e.s, .int .i64 e.t, .slice q.ea e.dig.length q.ec, .slice q.ga g.length q.gc, .slice q.da d.length q.dc, .slice q.pa pf.length q.pc, .slice q.va pn.length q.vc]] w (Tells (.bool (mgOf 12 v s c t e g d pf pn).ok) w) := by
  have hB := (Below.refl w.heap.size w).alloc (Nat.le_refl _) (.cells #[.int .i64 12, .int .i64 v, .int .i64 s, .int .i64 c, .int .i64 t, .int .i64 e.c, .int .i64 e.s, .int .i64 e.t, .slice q.ea e.dig.length q.ec, .slice q.ga g.length q.gc, .slice q.da d.length q.dc, .slice q.pa pf.length q.pc, .slice q.va pn.length q.vc] 28)
  have HB := Lib.hid hB
  have HK := Lib.hid (Bk.new w 28 [.int .i64 12, .int .i64 v, .int .i64 s, .int .i64 c, .int .i64 t, .int .i64 e.c, .int .i64 e.s, .int .i64 e.t, .slice q.ea e.dig.length q.ec, .slice q.ga g.length q.gc, .slice q.da d.length q.dc, .slice q.pa pf.length q.pc, .slice q.va pn.length q.vc])
  have HR := Lib.hid (h.below hB)
  have HP := Lib.hid (show ∀ W, Calls Try.prog 39 #[.int .i64 12] W (Tells (.string ⟨([118, 108] : List UInt8).toArray⟩) W) from fun W => refParts_any 12 W)
  have hd9 : d.length ≤ maxLen := Nat.le_trans h.d.sl.1 h.d.sl.2.1
  have hn9 : pn.length ≤ maxLen := Nat.le_trans h.v.1 h.v.2.1
  simp only [maxLen] at hd9 hn9
  clear h hB
  generalize hok : Mg.ok (mgOf 12 v s c t e g d pf pn) = ok
  have HOK := Lib.hid hok
  clear hok
  go_enter Try.func40, Try.ntmps40
  simp only [List.append]
  go_wp2_with fail
  refine (HP.out _).mono ?_
  rintro e1 w1 ⟨rfl, hb1⟩
  have HB1 := Lib.hid (below_next HB.out hb1 HB.out.size)
  have HK1 := Lib.hid (HK.out.kept hb1)
  have HR1 := Lib.hid (HR.out.below hb1)
  clear hb1
  have k0 := HK1.out.at_ (i := 0) rfl
  have k1 := HK1.out.at_ (i := 1) rfl
  have k2 := HK1.out.at_ (i := 2) rfl
  have k3 := HK1.out.at_ (i := 3) rfl
  have k4 := HK1.out.at_ (i := 4) rfl
  have k5 := HK1.out.at_ (i := 5) rfl
  have k6 := HK1.out.at_ (i := 6) rfl
  have k7 := HK1.out.at_ (i := 7) rfl
  have k8 := HK1.out.at_ (i := 8) rfl
  have k9 := HK1.out.at_ (i := 9) rfl
  have k10 := HK1.out.at_ (i := 10) rfl
  have k11 := HK1.out.at_ (i := 11) rfl
  have k12 := HK1.out.at_ (i := 12) rfl
  go_wp2_with fail
  refine (refHas_lit [118, 108] 118 true 118 rfl (by decide) (by decide) _).mono ?_
  rintro e1 w2 ⟨rfl, rfl⟩
  go_wp2_with fail
  refine (refHas_lit [118, 108] 115 false 115 rfl (by decide) (by decide) _).mono ?_
  rintro e1 w2 ⟨rfl, rfl⟩
  by_cases z1 : s = 0
  rotate_left
  · have HV := Lib.hid (show ok = false from HOK.out.symm.trans (ok_no (m := (mgOf 12 v s c t e g d pf pn)) (p := 1) (by decide) rfl (decide_eq_false z1)))
    have b1 : (s != 0) = true := bne_iff_ne.2 z1
    clear z1
    go_wp2_with fail
    go_ret
    exact ⟨ret_bool HV.out.symm, HB1.out⟩
  have HZ1 := Lib.hid (show Mg.partNo (mgOf 12 v s c t e g d pf pn) 1 = true from decide_eq_true z1)
  have b1 : (s != 0) = false := bne_eq_false_iff_eq.2 z1
  have HT1 := Lib.hid (show wideB s = true by rw [z1]; rfl)
  clear z1
  go_wp2_with fail
  refine (refHas_lit [118, 108] 99 false 99 rfl (by decide) (by decide) _).mono ?_
  rintro e1 w2 ⟨rfl, rfl⟩
  by_cases z2 : c = 0
  rotate_left
  · have HV := Lib.hid (show ok = false from HOK.out.symm.trans (ok_no (m := (mgOf 12 v s c t e g d pf pn)) (p := 2) (by decide) rfl (decide_eq_false z2)))
    have b2 : (c != 0) = true := bne_iff_ne.2 z2
    clear z2
    go_wp2_with fail
    go_ret
    exact ⟨ret_bool HV.out.symm, HB1.out⟩
  have HZ2 := Lib.hid (show Mg.partNo (mgOf 12 v s c t e g d pf pn) 2 = true from decide_eq_true z2)
  have b2 : (c != 0) = false := bne_eq_false_iff_eq.2 z2
  have HT2 := Lib.hid (show peerB c = true by rw [z2]; rfl)
  clear z2
  go_wp2_with fail
  refine (refHas_lit [118, 108] 116 false 116 rfl (by decide) (by decide) _).mono ?_
  rintro e1 w2 ⟨rfl, rfl⟩
  by_cases z3 : t = 0
  rotate_left
  · have HV := Lib.hid (show ok = false from HOK.out.symm.trans (ok_no (m := (mgOf 12 v s c t e g d pf pn)) (p := 3) (by decide) rfl (decide_eq_false z3)))
    have b3 : (t != 0) = true := bne_iff_ne.2 z3
    clear z3
    go_wp2_with fail
    go_ret
    exact ⟨ret_bool HV.out.symm, HB1.out⟩
  have HZ3 := Lib.hid (show Mg.partNo (mgOf 12 v s c t e g d pf pn) 3 = true from decide_eq_true z3)
  have b3 : (t != 0) = false := bne_eq_false_iff_eq.2 z3
  have HT3 := Lib.hid (show wideB t = true by rw [z3]; rfl)
  clear z3
  go_wp2_with fail
  refine (refHas_lit [118, 108] 101 false 101 rfl (by decide) (by decide) _).mono ?_
  rintro e1 w2 ⟨rfl, rfl⟩
  go_wp2_with fail
  refine (sameEntry_any e En.zero q.ea none q.ec 0 F (fun _ => True) _ HR1.out.e (BF.nil_ _ _)).mono ?_
  rintro e1 w2 ⟨rfl, hb2⟩
  clear k0 k1 k2 k3 k4 k5 k6 k7 k8 k9 k10 k11 k12
  rw [en_no]
  have HB2 := Lib.hid (below_next HB1.out hb2 HB1.out.size)
  have HK2 := Lib.hid (HK1.out.kept hb2)
  have HR2 := Lib.hid (HR1.out.below hb2)
  clear hb2
  have k0 := HK2.out.at_ (i := 0) rfl
  have k1 := HK2.out.at_ (i := 1) rfl
  have k2 := HK2.out.at_ (i := 2) rfl
  have k3 := HK2.out.at_ (i := 3) rfl
  have k4 := HK2.out.at_ (i := 4) rfl
  have k5 := HK2.out.at_ (i := 5) rfl
  have k6 := HK2.out.at_ (i := 6) rfl
  have k7 := HK2.out.at_ (i := 7) rfl
  have k8 := HK2.out.at_ (i := 8) rfl
  have k9 := HK2.out.at_ (i := 9) rfl
  have k10 := HK2.out.at_ (i := 10) rfl
  have k11 := HK2.out.at_ (i := 11) rfl
  have k12 := HK2.out.at_ (i := 12) rfl
  generalize hz4 : decide (e.c = 0 ∧ e.s = 0 ∧ e.t = 0 ∧ e.dig.length = 0) = Z4
  cases Z4
  · have HV := Lib.hid (show ok = false from HOK.out.symm.trans (ok_no (m := (mgOf 12 v s c t e g d pf pn)) (p := 4) (by decide) rfl (hz4)))
    go_wp2_with fail
    go_ret
    exact ⟨ret_bool HV.out.symm, HB2.out⟩
  have HZ4 := Lib.hid hz4
  clear hz4
  go_wp2_with fail
  refine (refHas_lit [118, 108] 100 false 100 rfl (by decide) (by decide) _).mono ?_
  rintro e1 w2 ⟨rfl, rfl⟩
  by_cases z5 : g.length = 0
  rotate_left
  · have HV := Lib.hid (show ok = false from HOK.out.symm.trans (ok_no (m := (mgOf 12 v s c t e g d pf pn)) (p := 5) (by decide) rfl (decide_eq_false z5)))
    have b5 : ((g.length : Int) != 0) = true := by rw [bne_iff_ne]; omega
    clear z5
    go_wp2_with fail
    go_ret
    exact ⟨ret_bool HV.out.symm, HB2.out⟩
  have HZ5 := Lib.hid (show Mg.partNo (mgOf 12 v s c t e g d pf pn) 5 = true from decide_eq_true z5)
  have b5 : ((g.length : Int) != 0) = false := by rw [bne_eq_false_iff_eq]; omega
  have HL5 := Lib.hid z5
  clear z5
  go_wp2_with fail
  refine (refHas_lit [118, 108] 98 false 98 rfl (by decide) (by decide) _).mono ?_
  rintro e1 w2 ⟨rfl, rfl⟩
  by_cases z6 : d.length = 0
  rotate_left
  · have HV := Lib.hid (show ok = false from HOK.out.symm.trans (ok_no (m := (mgOf 12 v s c t e g d pf pn)) (p := 6) (by decide) rfl (decide_eq_false z6)))
    have b6 : ((d.length : Int) != 0) = true := by rw [bne_iff_ne]; omega
    clear z6
    go_wp2_with fail
    go_ret
    exact ⟨ret_bool HV.out.symm, HB2.out⟩
  have HZ6 := Lib.hid (show Mg.partNo (mgOf 12 v s c t e g d pf pn) 6 = true from decide_eq_true z6)
  have b6 : ((d.length : Int) != 0) = false := by rw [bne_eq_false_iff_eq]; omega
  have HL6 := Lib.hid z6
  clear z6
  go_wp2_with fail
  refine (refHas_lit [118, 108] 108 true 108 rfl (by decide) (by decide) _).mono ?_
  rintro e1 w2 ⟨rfl, rfl⟩
  go_wp2_with fail
  refine (refHas_lit [118, 108] 112 false 112 rfl (by decide) (by decide) _).mono ?_
  rintro e1 w2 ⟨rfl, rfl⟩
  by_cases z8 : pn.length = 0
  rotate_left
  · have HV := Lib.hid (show ok = false from HOK.out.symm.trans (ok_no (m := (mgOf 12 v s c t e g d pf pn)) (p := 8) (by decide) rfl (decide_eq_false z8)))
    have b8 : ((pn.length : Int) != 0) = true := by rw [bne_iff_ne]; omega
    clear z8
    go_wp2_with fail
    go_ret
    exact ⟨ret_bool HV.out.symm, HB2.out⟩
  have HZ8 := Lib.hid (show Mg.partNo (mgOf 12 v s c t e g d pf pn) 8 = true from decide_eq_true z8)
  have b8 : ((pn.length : Int) != 0) = false := by rw [bne_eq_false_iff_eq]; omega
  have HL8 := Lib.hid z8
  clear z8
  go_wp2_with fail
  refine (refWide_any v _).mono ?_
  rintro e1 w2 ⟨rfl, rfl⟩
  generalize ht0 : wideB v = T0
  cases T0
  · have HV := Lib.hid (show ok = false from HOK.out.symm.trans (ok_part (m := (mgOf 12 v s c t e g d pf pn)) (p := 0) rfl (ht0)))
    go_wp2_with fail
    go_ret
    exact ⟨ret_bool HV.out.symm, HB2.out⟩
  have HT0 := Lib.hid ht0
  clear ht0
  go_wp2_with fail
  refine (refWide_any s _).mono ?_
  rintro e1 w2 ⟨rfl, rfl⟩
  rw [HT1.out]
  go_wp2_with fail
  refine (refWide_any t _).mono ?_
  rintro e1 w2 ⟨rfl, rfl⟩
  rw [HT3.out]
  go_wp2_with fail
  refine (refPeer_any c _).mono ?_
  rintro e1 w2 ⟨rfl, rfl⟩
  rw [HT2.out]
  go_wp2_with fail
  refine (refHas_lit [118, 108] 101 false 101 rfl (by decide) (by decide) _).mono ?_
  rintro e1 w2 ⟨rfl, rfl⟩
  go_wp2_with fail
  refine (refHas_lit [118, 108] 100 false 100 rfl (by decide) (by decide) _).mono ?_
  rintro e1 w2 ⟨rfl, rfl⟩
  have y6 : (d.length : Int) ≤ 65536 := by have := HL6.out; omega
  go_wp2_with fail
  refine (refLetters_any q.pa q.pc pf F _ HR2.out.p).mono ?_
  rintro e1 w2 ⟨rfl, hb3⟩
  clear k0 k1 k2 k3 k4 k5 k6 k7 k8 k9 k10 k11 k12
  have HB3 := Lib.hid (below_next HB2.out hb3 HB2.out.size)
  have HK3 := Lib.hid (HK2.out.kept hb3)
  have HR3 := Lib.hid (HR2.out.below hb3)
  clear hb3
  have k0 := HK3.out.at_ (i := 0) rfl
  have k1 := HK3.out.at_ (i := 1) rfl
  have k2 := HK3.out.at_ (i := 2) rfl
  have k3 := HK3.out.at_ (i := 3) rfl
  have k4 := HK3.out.at_ (i := 4) rfl
  have k5 := HK3.out.at_ (i := 5) rfl
  have k6 := HK3.out.at_ (i := 6) rfl
  have k7 := HK3.out.at_ (i := 7) rfl
  have k8 := HK3.out.at_ (i := 8) rfl
  have k9 := HK3.out.at_ (i := 9) rfl
  have k10 := HK3.out.at_ (i := 10) rfl
  have k11 := HK3.out.at_ (i := 11) rfl
  have k12 := HK3.out.at_ (i := 12) rfl
  generalize ht7 : ltsOk pf = T7
  cases T7
  · have HV := Lib.hid (show ok = false from HOK.out.symm.trans (ok_part (m := (mgOf 12 v s c t e g d pf pn)) (p := 7) rfl (ht7)))
    go_wp2_with fail
    go_ret
    exact ⟨ret_bool HV.out.symm, HB3.out⟩
  have HT7 := Lib.hid ht7
  clear ht7
  have y8 : (pn.length : Int) ≤ 8 := by have := HL8.out; omega
  have HV := Lib.hid (show ok = true from HOK.out.symm.trans (ok_all (m := (mgOf 12 v s c t e g d pf pn)) (part_cases (HT0.out) (HZ1.out) (HZ2.out) (HZ3.out) (HZ4.out) (HZ5.out) (HZ6.out) (HT7.out) (HZ8.out)) (parts_lt _)))
  go_wp2_with fail
  go_loopw [4] (fun i wr => i = .int .i64 0 ∧ wr = w2) (fun _ _ => 0)
  case atStart => exact ⟨rfl, rfl⟩
  case round =>
    obtain ⟨rfl, rfl⟩ := hrel
    have hz8 : pn.length = 0 := HL8.out
    go_wp2_with fail
    go_ret
    exact ⟨ret_bool HV.out.symm, HB3.out⟩
set_option maxHeartbeats 3200000 in
theorem refRight_13 (v s c t : Int) (e : En) (g d : List UInt8) (pf : List Lt) (pn : List Pv) (q : Mad) (F : Nat → Prop) (w : World) (h : MgR F w (mgOf 13 v s c t e g d pf pn) q) :
    Calls Try.prog 40 #[.agg #[.int .i64 13, .int .i64 v, .int .i64 s, .int .i64 c, .int .i64 t, .int .i64 e.c, .int .i64 e.s, .int .i64 e.t, .slice q.ea e.dig.length q.ec, .slice q.ga g.length q.gc, .slice q.da d.length q.dc, .slice q.pa pf.length q.pc, .slice q.va pn.length q.vc]] w (Tells (.bool (mgOf 13 v s c t e g d pf pn).ok) w) := by
  have hB := (Below.refl w.heap.size w).alloc (Nat.le_refl _) (.cells #[.int .i64 13, .int .i64 v, .int .i64 s, .int .i64 c, .int .i64 t, .int .i64 e.c, .int .i64 e.s, .int .i64 e.t, .slice q.ea e.dig.length q.ec, .slice q.ga g.length q.gc, .slice q.da d.length q.dc, .slice q.pa pf.length q.pc, .slice q.va pn.length q.vc] 28)
  have HB := Lib.hid hB
  have HK := Lib.hid (Bk.new w 28 [.int .i64 13, .int .i64 v, .int .i64 s, .int .i64 c, .int .i64 t, .int .i64 e.c, .int .i64 e.s, .int .i64 e.t, .slice q.ea e.dig.length q.ec, .slice q.ga g.length q.gc, .slice q.da d.length q.dc, .slice q.pa pf.length q.pc, .slice q.va pn.length q.vc])
  have HR := Lib.hid (h.below hB)
  have HP := Lib.hid (show ∀ W, Calls Try.prog 39 #[.int .i64 13] W (Tells (.string ⟨([115] : List UInt8).toArray⟩) W) from fun W => refParts_any 13 W)
  have hd9 : d.length ≤ maxLen := Nat.le_trans h.d.sl.1 h.d.sl.2.1
  have hn9 : pn.length ≤ maxLen := Nat.le_trans h.v.1 h.v.2.1
  simp only [maxLen] at hd9 hn9
  clear h hB
  generalize hok : Mg.ok (mgOf 13 v s c t e g d pf pn) = ok
  have HOK := Lib.hid hok
  clear hok
  go_enter Try.func40, Try.ntmps40
  simp only [List.append]
  go_wp2_with fail
  refine (HP.out _).mono ?_
  rintro e1 w1 ⟨rfl, hb1⟩
  have HB1 := Lib.hid (below_next HB.out hb1 HB.out.size)
  have HK1 := Lib.hid (HK.out.kept hb1)
  have HR1 := Lib.hid (HR.out.below hb1)
  clear hb1
  have k0 := HK1.out.at_ (i := 0) rfl
  have k1 := HK1.out.at_ (i := 1) rfl
  have k2 := HK1.out.at_ (i := 2) rfl
  have k3 := HK1.out.at_ (i := 3) rfl
  have k4 := HK1.out.at_ (i := 4) rfl
  have k5 := HK1.out.at_ (i := 5) rfl
  have k6 := HK1.out.at_ (i := 6) rfl
  have k7 := HK1.out.at_ (i := 7) rfl
  have k8 := HK1.out.at_ (i := 8) rfl
  have k9 := HK1.out.at_ (i := 9) rfl
  have k10 := HK1.out.at_ (i := 10) rfl
  have k11 := HK1.out.at_ (i := 11) rfl
  have k12 := HK1.out.at_ (i := 12) rfl
  go_wp2_with fail
  refine (refHas_lit [115] 118 false 118 rfl (by decide) (by decide) _).mono ?_
  rintro e1 w2 ⟨rfl, rfl⟩
  by_cases z0 : v = 0
  rotate_left
  · have HV := Lib.hid (show ok = false from HOK.out.symm.trans (ok_no (m := (mgOf 13 v s c t e g d pf pn)) (p := 0) (by decide) rfl (decide_eq_false z0)))
    have b0 : (v != 0) = true := bne_iff_ne.2 z0
    clear z0
    go_wp2_with fail
    go_ret
    exact ⟨ret_bool HV.out.symm, HB1.out⟩
  have HZ0 := Lib.hid (show Mg.partNo (mgOf 13 v s c t e g d pf pn) 0 = true from decide_eq_true z0)
  have b0 : (v != 0) = false := bne_eq_false_iff_eq.2 z0
  have HT0 := Lib.hid (show wideB v = true by rw [z0]; rfl)
  clear z0
  go_wp2_with fail
  refine (refHas_lit [115] 115 true 115 rfl (by decide) (by decide) _).mono ?_
  rintro e1 w2 ⟨rfl, rfl⟩
  go_wp2_with fail
  refine (refHas_lit [115] 99 false 99 rfl (by decide) (by decide) _).mono ?_
  rintro e1 w2 ⟨rfl, rfl⟩
  by_cases z2 : c = 0
  rotate_left
  · have HV := Lib.hid (show ok = false from HOK.out.symm.trans (ok_no (m := (mgOf 13 v s c t e g d pf pn)) (p := 2) (by decide) rfl (decide_eq_false z2)))
    have b2 : (c != 0) = true := bne_iff_ne.2 z2
    clear z2
    go_wp2_with fail
    go_ret
    exact ⟨ret_bool HV.out.symm, HB1.out⟩
  have HZ2 := Lib.hid (show Mg.partNo (mgOf 13 v s c t e g d pf pn) 2 = true from decide_eq_true z2)
  have b2 : (c != 0) = false := bne_eq_false_iff_eq.2 z2
  have HT2 := Lib.hid (show peerB c = true by rw [z2]; rfl)
  clear z2
  go_wp2_with fail
  refine (refHas_lit [115] 116 false 116 rfl (by decide) (by decide) _).mono ?_
  rintro e1 w2 ⟨rfl, rfl⟩
  by_cases z3 : t = 0
  rotate_left
  · have HV := Lib.hid (show ok = false from HOK.out.symm.trans (ok_no (m := (mgOf 13 v s c t e g d pf pn)) (p := 3) (by decide) rfl (decide_eq_false z3)))
    have b3 : (t != 0) = true := bne_iff_ne.2 z3
    clear z3
    go_wp2_with fail
    go_ret
    exact ⟨ret_bool HV.out.symm, HB1.out⟩
  have HZ3 := Lib.hid (show Mg.partNo (mgOf 13 v s c t e g d pf pn) 3 = true from decide_eq_true z3)
  have b3 : (t != 0) = false := bne_eq_false_iff_eq.2 z3
  have HT3 := Lib.hid (show wideB t = true by rw [z3]; rfl)
  clear z3
  go_wp2_with fail
  refine (refHas_lit [115] 101 false 101 rfl (by decide) (by decide) _).mono ?_
  rintro e1 w2 ⟨rfl, rfl⟩
  go_wp2_with fail
  refine (sameEntry_any e En.zero q.ea none q.ec 0 F (fun _ => True) _ HR1.out.e (BF.nil_ _ _)).mono ?_
  rintro e1 w2 ⟨rfl, hb2⟩
  clear k0 k1 k2 k3 k4 k5 k6 k7 k8 k9 k10 k11 k12
  rw [en_no]
  have HB2 := Lib.hid (below_next HB1.out hb2 HB1.out.size)
  have HK2 := Lib.hid (HK1.out.kept hb2)
  have HR2 := Lib.hid (HR1.out.below hb2)
  clear hb2
  have k0 := HK2.out.at_ (i := 0) rfl
  have k1 := HK2.out.at_ (i := 1) rfl
  have k2 := HK2.out.at_ (i := 2) rfl
  have k3 := HK2.out.at_ (i := 3) rfl
  have k4 := HK2.out.at_ (i := 4) rfl
  have k5 := HK2.out.at_ (i := 5) rfl
  have k6 := HK2.out.at_ (i := 6) rfl
  have k7 := HK2.out.at_ (i := 7) rfl
  have k8 := HK2.out.at_ (i := 8) rfl
  have k9 := HK2.out.at_ (i := 9) rfl
  have k10 := HK2.out.at_ (i := 10) rfl
  have k11 := HK2.out.at_ (i := 11) rfl
  have k12 := HK2.out.at_ (i := 12) rfl
  generalize hz4 : decide (e.c = 0 ∧ e.s = 0 ∧ e.t = 0 ∧ e.dig.length = 0) = Z4
  cases Z4
  · have HV := Lib.hid (show ok = false from HOK.out.symm.trans (ok_no (m := (mgOf 13 v s c t e g d pf pn)) (p := 4) (by decide) rfl (hz4)))
    go_wp2_with fail
    go_ret
    exact ⟨ret_bool HV.out.symm, HB2.out⟩
  have HZ4 := Lib.hid hz4
  clear hz4
  go_wp2_with fail
  refine (refHas_lit [115] 100 false 100 rfl (by decide) (by decide) _).mono ?_
  rintro e1 w2 ⟨rfl, rfl⟩
  by_cases z5 : g.length = 0
  rotate_left
  · have HV := Lib.hid (show ok = false from HOK.out.symm.trans (ok_no (m := (mgOf 13 v s c t e g d pf pn)) (p := 5) (by decide) rfl (decide_eq_false z5)))
    have b5 : ((g.length : Int) != 0) = true := by rw [bne_iff_ne]; omega
    clear z5
    go_wp2_with fail
    go_ret
    exact ⟨ret_bool HV.out.symm, HB2.out⟩
  have HZ5 := Lib.hid (show Mg.partNo (mgOf 13 v s c t e g d pf pn) 5 = true from decide_eq_true z5)
  have b5 : ((g.length : Int) != 0) = false := by rw [bne_eq_false_iff_eq]; omega
  have HL5 := Lib.hid z5
  clear z5
  go_wp2_with fail
  refine (refHas_lit [115] 98 false 98 rfl (by decide) (by decide) _).mono ?_
  rintro e1 w2 ⟨rfl, rfl⟩
  by_cases z6 : d.length = 0
  rotate_left
  · have HV := Lib.hid (show ok = false from HOK.out.symm.trans (ok_no (m := (mgOf 13 v s c t e g d pf pn)) (p := 6) (by decide) rfl (decide_eq_false z6)))
    have b6 : ((d.length : Int) != 0) = true := by rw [bne_iff_ne]; omega
    clear z6
    go_wp2_with fail
    go_ret
    exact ⟨ret_bool HV.out.symm, HB2.out⟩
  have HZ6 := Lib.hid (show Mg.partNo (mgOf 13 v s c t e g d pf pn) 6 = true from decide_eq_true z6)
  have b6 : ((d.length : Int) != 0) = false := by rw [bne_eq_false_iff_eq]; omega
  have HL6 := Lib.hid z6
  clear z6
  go_wp2_with fail
  refine (refHas_lit [115] 108 false 108 rfl (by decide) (by decide) _).mono ?_
  rintro e1 w2 ⟨rfl, rfl⟩
  by_cases z7 : pf.length = 0
  rotate_left
  · have HV := Lib.hid (show ok = false from HOK.out.symm.trans (ok_no (m := (mgOf 13 v s c t e g d pf pn)) (p := 7) (by decide) rfl (decide_eq_false z7)))
    have b7 : ((pf.length : Int) != 0) = true := by rw [bne_iff_ne]; omega
    clear z7
    go_wp2_with fail
    go_ret
    exact ⟨ret_bool HV.out.symm, HB2.out⟩
  have HZ7 := Lib.hid (show Mg.partNo (mgOf 13 v s c t e g d pf pn) 7 = true from decide_eq_true z7)
  have b7 : ((pf.length : Int) != 0) = false := by rw [bne_eq_false_iff_eq]; omega
  have HL7 := Lib.hid z7
  clear z7
  go_wp2_with fail
  refine (refHas_lit [115] 112 false 112 rfl (by decide) (by decide) _).mono ?_
  rintro e1 w2 ⟨rfl, rfl⟩
  by_cases z8 : pn.length = 0
  rotate_left
  · have HV := Lib.hid (show ok = false from HOK.out.symm.trans (ok_no (m := (mgOf 13 v s c t e g d pf pn)) (p := 8) (by decide) rfl (decide_eq_false z8)))
    have b8 : ((pn.length : Int) != 0) = true := by rw [bne_iff_ne]; omega
    clear z8
    go_wp2_with fail
    go_ret
    exact ⟨ret_bool HV.out.symm, HB2.out⟩
  have HZ8 := Lib.hid (show Mg.partNo (mgOf 13 v s c t e g d pf pn) 8 = true from decide_eq_true z8)
  have b8 : ((pn.length : Int) != 0) = false := by rw [bne_eq_false_iff_eq]; omega
  have HL8 := Lib.hid z8
  clear z8
  go_wp2_with fail
  refine (refWide_any v _).mono ?_
  rintro e1 w2 ⟨rfl, rfl⟩
  rw [HT0.out]
  go_wp2_with fail
  refine (refWide_any s _).mono ?_
  rintro e1 w2 ⟨rfl, rfl⟩
  generalize ht1 : wideB s = T1
  cases T1
  · have HV := Lib.hid (show ok = false from HOK.out.symm.trans (ok_part (m := (mgOf 13 v s c t e g d pf pn)) (p := 1) rfl (ht1)))
    go_wp2_with fail
    go_ret
    exact ⟨ret_bool HV.out.symm, HB2.out⟩
  have HT1 := Lib.hid ht1
  clear ht1
  go_wp2_with fail
  refine (refWide_any t _).mono ?_
  rintro e1 w2 ⟨rfl, rfl⟩
  rw [HT3.out]
  go_wp2_with fail
  refine (refPeer_any c _).mono ?_
  rintro e1 w2 ⟨rfl, rfl⟩
  rw [HT2.out]
  go_wp2_with fail
  refine (refHas_lit [115] 101 false 101 rfl (by decide) (by decide) _).mono ?_
  rintro e1 w2 ⟨rfl, rfl⟩
  go_wp2_with fail
  refine (refHas_lit [115] 100 false 100 rfl (by decide) (by decide) _).mono ?_
  rintro e1 w2 ⟨rfl, rfl⟩
  have y6 : (d.length : Int) ≤ 65536 := by have := HL6.out; omega
  go_wp2_with fail
  refine (refLetters_any q.pa q.pc pf F _ HR2.out.p).mono ?_
  rintro e1 w2 ⟨rfl, hb3⟩
  clear k0 k1 k2 k3 k4 k5 k6 k7 k8 k9 k10 k11 k12
  have HB3 := Lib.hid (below_next HB2.out hb3 HB2.out.size)
  have HK3 := Lib.hid (HK2.out.kept hb3)
  have HR3 := Lib.hid (HR2.out.below hb3)
  clear hb3
  have k0 := HK3.out.at_ (i := 0) rfl
  have k1 := HK3.out.at_ (i := 1) rfl
  have k2 := HK3.out.at_ (i := 2) rfl
  have k3 := HK3.out.at_ (i := 3) rfl
  have k4 := HK3.out.at_ (i := 4) rfl
  have k5 := HK3.out.at_ (i := 5) rfl
  have k6 := HK3.out.at_ (i := 6) rfl
  have k7 := HK3.out.at_ (i := 7) rfl
  have k8 := HK3.out.at_ (i := 8) rfl
  have k9 := HK3.out.at_ (i := 9) rfl
  have k10 := HK3.out.at_ (i := 10) rfl
  have k11 := HK3.out.at_ (i := 11) rfl
  have k12 := HK3.out.at_ (i := 12) rfl
  rw [ltsOk_nil HL7.out]
  have y8 : (pn.length : Int) ≤ 8 := by have := HL8.out; omega
  have HV := Lib.hid (show ok = true from HOK.out.symm.trans (ok_all (m := (mgOf 13 v s c t e g d pf pn)) (part_cases (HZ0.out) (HT1.out) (HZ2.out) (HZ3.out) (HZ4.out) (HZ5.out) (HZ6.out) (HZ7.out) (HZ8.out)) (parts_lt _)))
  go_wp2_with fail
  go_loopw [4] (fun i wr => i = .int .i64 0 ∧ wr = w2) (fun _ _ => 0)
  case atStart => exact ⟨rfl, rfl⟩
  case round =>
    obtain ⟨rfl, rfl⟩ := hrel
    have hz8 : pn.length = 0 := HL8.out
    go_wp2_with fail
    go_ret
    exact ⟨ret_bool HV.out.symm, HB3.out⟩
set_option maxHeartbeats 3200000 in
theorem refRight_14 (v s c t : Int) (e : En) (g d : List UInt8) (pf : List Lt) (pn : List Pv) (q : Mad) (F : Nat → Prop) (w : World) (h : MgR F w (mgOf 14 v s c t e g d pf pn) q) :
    Calls Try.prog 40 #[.agg #[.int .i64 14, .int .i64 v, .int .i64 s, .int .i64 c, .int .i64 t, .int .i64 e.c, .int .i64 e.s, .int .i64 e.t, .slice q.ea e.dig.length q.ec, .slice q.ga g.length q.gc, .slice q.da d.length q.dc, .slice q.pa pf.length q.pc, .slice q.va pn.length q.vc]] w (Tells (.bool (mgOf 14 v s c t e g d pf pn).ok) w) := by
  have hB := (Below.refl w.heap.size w).alloc (Nat.le_refl _) (.cells #[.int .i64 14, .int .i64 v, .int .i64 s, .int .i64 c, .int .i64 t, .int .i64 e.c, .int .i64 e.s, .int .i64 e.t, .slice q.ea e.dig.length q.ec, .slice q.ga g.length q.gc, .slice q.da d.length q.dc, .slice q.pa pf.length q.pc, .slice q.va pn.length q.vc] 28)
  have HB := Lib.hid hB
  have HK := Lib.hid (Bk.new w 28 [.int .i64 14, .int .i64 v, .int .i64 s, .int .i64 c, .int .i64 t, .int .i64 e.c, .int .i64 e.s, .int .i64 e.t, .slice q.ea e.dig.length q.ec, .slice q.ga g.length q.gc, .slice q.da d.length q.dc, .slice q.pa pf.length q.pc, .slice q.va pn.length q.vc])
  have HR := Lib.hid (h.below hB)
  have HP := Lib.hid (show ∀ W, Calls Try.prog 39 #[.int .i64 14] W (Tells (.string ⟨([115, 98] : List UInt8).toArray⟩) W) from fun W => refParts_any 14 W)
  have hd9 : d.length ≤ maxLen := Nat.le_trans h.d.sl.1 h.d.sl.2.1
  have hn9 : pn.length ≤ maxLen := Nat.le_trans h.v.1 h.v.2.1
  simp only [maxLen] at hd9 hn9
  clear h hB
  generalize hok : Mg.ok (mgOf 14 v s c t e g d pf pn) = ok
  have HOK := Lib.hid hok
  clear hok
  go_enter Try.func40, Try.ntmps40
  simp only [List.append]
  go_wp2_with fail
  refine (HP.out _).mono ?_
  rintro e1 w1 ⟨rfl, hb1⟩
  have HB1 := Lib.hid (below_next HB.out hb1 HB.out.size)
  have HK1 := Lib.hid (HK.out.kept hb1)
  have HR1 := Lib.hid (HR.out.below hb1)
  clear hb1
  have k0 := HK1.out.at_ (i := 0) rfl
  have k1 := HK1.out.at_ (i := 1) rfl
  have k2 := HK1.out.at_ (i := 2) rfl
  have k3 := HK1.out.at_ (i := 3) rfl
  have k4 := HK1.out.at_ (i := 4) rfl
  have k5 := HK1.out.at_ (i := 5) rfl
  have k6 := HK1.out.at_ (i := 6) rfl
  have k7 := HK1.out.at_ (i := 7) rfl
  have k8 := HK1.out.at_ (i := 8) rfl
  have k9 := HK1.out.at_ (i := 9) rfl
  have k10 := HK1.out.at_ (i := 10) rfl
  have k11 := HK1.out.at_ (i := 11) rfl
  have k12 := HK1.out.at_ (i := 12) rfl
  go_wp2_with fail
  refine (refHas_lit [115, 98] 118 false 118 rfl (by decide) (by decide) _).mono ?_
  rintro e1 w2 ⟨rfl, rfl⟩
  by_cases z0 : v = 0
  rotate_left
  · have HV := Lib.hid (show ok = false from HOK.out.symm.trans (ok_no (m := (mgOf 14 v s c t e g d pf pn)) (p := 0) (by decide) rfl (decide_eq_false z0)))
    have b0 : (v != 0) = true := bne_iff_ne.2 z0
    clear z0
    go_wp2_with fail
    go_ret
    exact ⟨ret_bool HV.out.symm, HB1.out⟩
  have HZ0 := Lib.hid (show Mg.partNo (mgOf 14 v s c t e g d pf pn) 0 = true from decide_eq_true z0)
  have b0 : (v != 0) = false := bne_eq_false_iff_eq.2 z0
  have HT0 := Lib.hid (show wideB v = true by rw [z0]; rfl)
  clear z0
  go_wp2_with fail
  refine (refHas_lit [115, 98] 115 true 115 rfl (by decide) (by decide) _).mono ?_
  rintro e1 w2 ⟨rfl, rfl⟩
  go_wp2_with fail
  refine (refHas_lit [115, 98] 99 false 99 rfl (by decide) (by decide) _).mono ?_
  rintro e1 w2 ⟨rfl, rfl⟩
  by_cases z2 : c = 0
  rotate_left
  · have HV := Lib.hid (show ok = false from HOK.out.symm.trans (ok_no (m := (mgOf 14 v s c t e g d pf pn)) (p := 2) (by decide) rfl (decide_eq_false z2)))
    have b2 : (c != 0) = true := bne_iff_ne.2 z2
    clear z2
    go_wp2_with fail
    go_ret
    exact ⟨ret_bool HV.out.symm, HB1.out⟩
  have HZ2 := Lib.hid (show Mg.partNo (mgOf 14 v s c t e g d pf pn) 2 = true from decide_eq_true z2)
  have b2 : (c != 0) = false := bne_eq_false_iff_eq.2 z2
  have HT2 := Lib.hid (show peerB c = true by rw [z2]; rfl)
  clear z2
  go_wp2_with fail
  refine (refHas_lit [115, 98] 116 false 116 rfl (by decide) (by decide) _).mono ?_
  rintro e1 w2 ⟨rfl, rfl⟩
  by_cases z3 : t = 0
  rotate_left
  · have HV := Lib.hid (show ok = false from HOK.out.symm.trans (ok_no (m := (mgOf 14 v s c t e g d pf pn)) (p := 3) (by decide) rfl (decide_eq_false z3)))
    have b3 : (t != 0) = true := bne_iff_ne.2 z3
    clear z3
    go_wp2_with fail
    go_ret
    exact ⟨ret_bool HV.out.symm, HB1.out⟩
  have HZ3 := Lib.hid (show Mg.partNo (mgOf 14 v s c t e g d pf pn) 3 = true from decide_eq_true z3)
  have b3 : (t != 0) = false := bne_eq_false_iff_eq.2 z3
  have HT3 := Lib.hid (show wideB t = true by rw [z3]; rfl)
  clear z3
  go_wp2_with fail
  refine (refHas_lit [115, 98] 101 false 101 rfl (by decide) (by decide) _).mono ?_
  rintro e1 w2 ⟨rfl, rfl⟩
  go_wp2_with fail
  refine (sameEntry_any e En.zero q.ea none q.ec 0 F (fun _ => True) _ HR1.out.e (BF.nil_ _ _)).mono ?_
  rintro e1 w2 ⟨rfl, hb2⟩
  clear k0 k1 k2 k3 k4 k5 k6 k7 k8 k9 k10 k11 k12
  rw [en_no]
  have HB2 := Lib.hid (below_next HB1.out hb2 HB1.out.size)
  have HK2 := Lib.hid (HK1.out.kept hb2)
  have HR2 := Lib.hid (HR1.out.below hb2)
  clear hb2
  have k0 := HK2.out.at_ (i := 0) rfl
  have k1 := HK2.out.at_ (i := 1) rfl
  have k2 := HK2.out.at_ (i := 2) rfl
  have k3 := HK2.out.at_ (i := 3) rfl
  have k4 := HK2.out.at_ (i := 4) rfl
  have k5 := HK2.out.at_ (i := 5) rfl
  have k6 := HK2.out.at_ (i := 6) rfl
  have k7 := HK2.out.at_ (i := 7) rfl
  have k8 := HK2.out.at_ (i := 8) rfl
  have k9 := HK2.out.at_ (i := 9) rfl
  have k10 := HK2.out.at_ (i := 10) rfl
  have k11 := HK2.out.at_ (i := 11) rfl
  have k12 := HK2.out.at_ (i := 12) rfl
  generalize hz4 : decide (e.c = 0 ∧ e.s = 0 ∧ e.t = 0 ∧ e.dig.length = 0) = Z4
  cases Z4
  · have HV := Lib.hid (show ok = false from HOK.out.symm.trans (ok_no (m := (mgOf 14 v s c t e g d pf pn)) (p := 4) (by decide) rfl (hz4)))
    go_wp2_with fail
    go_ret
    exact ⟨ret_bool HV.out.symm, HB2.out⟩
  have HZ4 := Lib.hid hz4
  clear hz4
  go_wp2_with fail
  refine (refHas_lit [115, 98] 100 false 100 rfl (by decide) (by decide) _).mono ?_
  rintro e1 w2 ⟨rfl, rfl⟩
  by_cases z5 : g.length = 0
  rotate_left
  · have HV := Lib.hid (show ok = false from HOK.out.symm.trans (ok_no (m := (mgOf 14 v s c t e g d pf pn)) (p := 5) (by decide) rfl (decide_eq_false z5)))
    have b5 : ((g.length : Int) != 0) = true := by rw [bne_iff_ne]; omega
    clear z5
    go_wp2_with fail
    go_ret
    exact ⟨ret_bool HV.out.symm, HB2.out⟩
  have HZ5 := Lib.hid (show Mg.partNo (mgOf 14 v s c t e g d pf pn) 5 = true from decide_eq_true z5)
  have b5 : ((g.length : Int) != 0) = false := by rw [bne_eq_false_iff_eq]; omega
  have HL5 := Lib.hid z5
  clear z5
  go_wp2_with fail
  refine (refHas_lit [115, 98] 98 true 98 rfl (by decide) (by decide) _).mono ?_
  rintro e1 w2 ⟨rfl, rfl⟩
  go_wp2_with fail
  refine (refHas_lit [115, 98] 108 false 108 rfl (by decide) (by decide) _).mono ?_
  rintro e1 w2 ⟨rfl, rfl⟩
  by_cases z7 : pf.length = 0
  rotate_left
  · have HV := Lib.hid (show ok = false from HOK.out.symm.trans (ok_no (m := (mgOf 14 v s c t e g d pf pn)) (p := 7) (by decide) rfl (decide_eq_false z7)))
    have b7 : ((pf.length : Int) != 0) = true := by rw [bne_iff_ne]; omega
    clear z7
    go_wp2_with fail
    go_ret
    exact ⟨ret_bool HV.out.symm, HB2.out⟩
  have HZ7 := Lib.hid (show Mg.partNo (mgOf 14 v s c t e g d pf pn) 7 = true from decide_eq_true z7)
  have b7 : ((pf.length : Int) != 0) = false := by rw [bne_eq_false_iff_eq]; omega
  have HL7 := Lib.hid z7
  clear z7
  go_wp2_with fail
  refine (refHas_lit [115, 98] 112 false 112 rfl (by decide) (by decide) _).mono ?_
  rintro e1 w2 ⟨rfl, rfl⟩
  by_cases z8 : pn.length = 0
  rotate_left
  · have HV := Lib.hid (show ok = false from HOK.out.symm.trans (ok_no (m := (mgOf 14 v s c t e g d pf pn)) (p := 8) (by decide) rfl (decide_eq_false z8)))
    have b8 : ((pn.length : Int) != 0) = true := by rw [bne_iff_ne]; omega
    clear z8
    go_wp2_with fail
    go_ret
    exact ⟨ret_bool HV.out.symm, HB2.out⟩
  have HZ8 := Lib.hid (show Mg.partNo (mgOf 14 v s c t e g d pf pn) 8 = true from decide_eq_true z8)
  have b8 : ((pn.length : Int) != 0) = false := by rw [bne_eq_false_iff_eq]; omega
  have HL8 := Lib.hid z8
  clear z8
  go_wp2_with fail
  refine (refWide_any v _).mono ?_
  rintro e1 w2 ⟨rfl, rfl⟩
  rw [HT0.out]
  go_wp2_with fail
  refine (refWide_any s _).mono ?_
  rintro e1 w2 ⟨rfl, rfl⟩
  generalize ht1 : wideB s = T1
  cases T1
  · have HV := Lib.hid (show ok = false from HOK.out.symm.trans (ok_part (m := (mgOf 14 v s c t e g d pf pn)) (p := 1) rfl (ht1)))
    go_wp2_with fail
    go_ret
    exact ⟨ret_bool HV.out.symm, HB2.out⟩
  have HT1 := Lib.hid ht1
  clear ht1
  go_wp2_with fail
  refine (refWide_any t _).mono ?_
  rintro e1 w2 ⟨rfl, rfl⟩
  rw [HT3.out]
  go_wp2_with fail
  refine (refPeer_any c _).mono ?_
  rintro e1 w2 ⟨rfl, rfl⟩
  rw [HT2.out]
  go_wp2_with fail
  refine (refHas_lit [115, 98] 101 false 101 rfl (by decide) (by decide) _).mono ?_
  rintro e1 w2 ⟨rfl, rfl⟩
  go_wp2_with fail
  refine (refHas_lit [115, 98] 100 false 100 rfl (by decide) (by decide) _).mono ?_
  rintro e1 w2 ⟨rfl, rfl⟩
  by_cases z6 : 65536 < d.length
  · have HV := Lib.hid (show ok = false from HOK.out.symm.trans (ok_part (m := (mgOf 14 v s c t e g d pf pn)) (p := 6) rfl (decide_eq_false (show ¬ d.length ≤ 65536 by omega))))
    have y6 : (65536 : Int) < (d.length : Int) := by omega
    clear z6
    go_wp2_with fail
    go_ret
    exact ⟨ret_bool HV.out.symm, HB2.out⟩
  have y6 : (d.length : Int) ≤ 65536 := by omega
  go_wp2_with fail
  refine (refLetters_any q.pa q.pc pf F _ HR2.out.p).mono ?_
  rintro e1 w2 ⟨rfl, hb3⟩
  clear k0 k1 k2 k3 k4 k5 k6 k7 k8 k9 k10 k11 k12
  have HB3 := Lib.hid (below_next HB2.out hb3 HB2.out.size)
  have HK3 := Lib.hid (HK2.out.kept hb3)
  have HR3 := Lib.hid (HR2.out.below hb3)
  clear hb3
  have k0 := HK3.out.at_ (i := 0) rfl
  have k1 := HK3.out.at_ (i := 1) rfl
  have k2 := HK3.out.at_ (i := 2) rfl
  have k3 := HK3.out.at_ (i := 3) rfl
  have k4 := HK3.out.at_ (i := 4) rfl
  have k5 := HK3.out.at_ (i := 5) rfl
  have k6 := HK3.out.at_ (i := 6) rfl
  have k7 := HK3.out.at_ (i := 7) rfl
  have k8 := HK3.out.at_ (i := 8) rfl
  have k9 := HK3.out.at_ (i := 9) rfl
  have k10 := HK3.out.at_ (i := 10) rfl
  have k11 := HK3.out.at_ (i := 11) rfl
  have k12 := HK3.out.at_ (i := 12) rfl
  rw [ltsOk_nil HL7.out]
  have y8 : (pn.length : Int) ≤ 8 := by have := HL8.out; omega
  have HT6 := Lib.hid (show Mg.partOk (mgOf 14 v s c t e g d pf pn) 6 = true from decide_eq_true (show d.length ≤ 65536 by omega))
  clear z6
  have HV := Lib.hid (show ok = true from HOK.out.symm.trans (ok_all (m := (mgOf 14 v s c t e g d pf pn)) (part_cases (HZ0.out) (HT1.out) (HZ2.out) (HZ3.out) (HZ4.out) (HZ5.out) (HT6.out) (HZ7.out) (HZ8.out)) (parts_lt _)))
  go_wp2_with fail
  go_loopw [4] (fun i wr => i = .int .i64 0 ∧ wr = w2) (fun _ _ => 0)
  case atStart => exact ⟨rfl, rfl⟩
  case round =>
    obtain ⟨rfl, rfl⟩ := hrel
    have hz8 : pn.length = 0 := HL8.out
    go_wp2_with fail
    go_ret
    exact ⟨ret_bool HV.out.symm, HB3.out⟩
end Go.Proofs.Ytmgmmbgjmnklkaa
