/-
  The disk's Trim. Walks; no statement.
-/
import Derived.Test.YtmiejaohkgemnaaDoorDiskApp
namespace Go.Proofs.YtmiejaohkgemnaaDoor
open Go.RowKit
set_option linter.unusedVariables false

set_option maxHeartbeats 1000000 in
theorem trim_0 (g : Nat) (P : PD) (F : Nat → Prop) (A0 A1 : Option Addr) (n0 c0 n1 c1 : Nat) (k : Nat) (w : World) (h : DkAt w F g P A0 n0 c0 A1 n1 c1) (hkn : k ≤ n0) :
    Calls Tryd.prog 53 #[.pointer (some ⟨g, 0, none⟩), .int .i64 0, .int .i64 (k : Int)] w (Did F g (P.trim 0 k) w) := by
  have hb := (Below.refl w.heap.size w).alloc (Nat.le_refl _) (.cells #[.int .i64 0] 3)
  have hk := h.kept hb
  have HB := Lib.hid hb
  have HH := Lib.hid h
  have HKD := Lib.hid hk
  have HM := Lib.hid (missing_in (some ⟨w.heap.size, 0, none⟩) 1 1 [0] (w.alloc (.cells #[.int .i64 0] 3)) (Rd.new w ([0].map iv) 3) (by simp [maxLen]))
  have HSP := Lib.hid (spend_any g (.slice A0 n0 c0) (.int .i64 P.s0) (.slice A1 n1 c1) (.int .i64 P.s1) P.power _ hk.bk hk.pw)
  have HK := Lib.hid (show (!([0] : List Int).all known) = false from rfl)
  have hl0 := h.r0.len
  have hcap := (own_cap h.r0).1
  have hcm := (own_cap h.r0).2
  unfold maxLen at hcm
  have y0 : ¬ ((k : Int) < 0) := by omega
  have y1 : ¬ ((n0 : Int) < (k : Int)) := by omega
  have y2 : (k : Int) ≤ (c0 : Int) := by omega
  have y3 : (0 : Int) ≤ (k : Int) := by omega
  obtain ⟨q0, q1, q2, q3, q4⟩ := hk.bk.five
  by_cases hz : P.power = 0
  · have HE := Lib.hid (show decide (P.power ≠ 0) = false by simp [hz])
    have HZ := Lib.hid hz
    have HR := Lib.hid (show P.trim 0 k = (P, 40) by
      unfold PD.trim PD.data
      have : k ≤ n0 := hkn
      simp [known, hz, hl0, this])
    rw [HR.out]
    clear h hb hk hz hl0 hkn
    go_enter Tryd.func53, Tryd.ntmps53
    go_wp2_with fail
    refine HM.out.mono ?_
    rintro e w' ⟨rfl, rfl⟩
    rw [HK.out]
    go_wp2_with fail
    refine HSP.out.mono ?_
    rintro e w1 ⟨rfl, kb, hg, hs⟩
    rw [HE.out]
    have HKB := Lib.hid kb
    have HG := Lib.hid hg
    clear kb hg hs
    go_wp2_with fail
    go_ret
    exact Did.down HB.out HKD.out HKB.out HG.out HZ.out
  · have HE := Lib.hid (show decide (P.power ≠ 0) = true by simp [hz])
    have hr : P.trim 0 k = ((P.drew.setData 0 (P.d0.take k)).setSafe 0 (if (k : Int) < P.s0 then k else P.s0), 0) := by
      unfold PD.trim PD.data
      have : k ≤ n0 := hkn
      simp [known, hz, hl0, this, PD.safe]
    by_cases hs0 : (k : Int) < P.s0
    · have HR := Lib.hid (show P.trim 0 k = ((P.drew.setData 0 (P.d0.take k)).setSafe 0 (k : Int), 0) by rw [hr, if_pos hs0])
      rw [HR.out]
      have HKN := Lib.hid hkn
      have HL0 := Lib.hid hl0
      have HMIN := Lib.hid hs0
      have ym : min P.s0 (k : Int) = (k : Int) := by omega
      clear h hb hk hz hl0 hkn hr
      go_enter Tryd.func53, Tryd.ntmps53
      go_wp2_with fail
      refine HM.out.mono ?_
      rintro e w' ⟨rfl, rfl⟩
      rw [HK.out]
      go_wp2_with fail
      refine HSP.out.mono ?_
      rintro e w1 ⟨rfl, kb, hg, hs⟩
      rw [HE.out]
      have HD1 := Lib.hid (HKD.out.spent kb hg)
      have HC1 := Lib.hid (Chg.behind HB.out (HKD.out.chg hg))
      have HKB := Lib.hid kb
      clear q0 q1 q2 q3 q4
      obtain ⟨q0, q1, q2, q3, q4⟩ := kb.five
      have u0 := kb.frozen 0
      have u1 := kb.frozen 1
      clear kb hg hs
      go_wp2_with fail
      go_ret
      have kb2 := (HKB.out.set 0 (.slice A0 k c0)).set 1 (.int .i64 (k : Int))
      have hgr := grown_set (grown_set (grown_refl w1 (some g)) 0 (.slice A0 k c0)) 1 (.int .i64 (k : Int))
      have ho := (own_front HD1.out.r0 HKN.out).off HKB.out (by decide) hgr
      have hr1 := HD1.out.r1.off HKB.out (by decide) hgr
      obtain ⟨F', hd, hF'⟩ := HD1.out.put0 (Q := (P.drew.setData 0 (P.d0.take k)).setSafe 0 (k : Int)) kb2 ho hr1 hgr.size (fun b e => .inl (by cases A0 <;> exact e)) (by
        have := HD1.out.fine
        have := HMIN.out
        have := HKN.out
        have := HL0.out
        unfold PD.Fine PD.drew PD.setData PD.setSafe at *
        simp at *
        omega) (drawn_in HH.out.pw)
      exact ⟨rfl, F', hd, fun i hi => (hF' i hi).imp id (fun hh => Nat.le_trans HC1.out.size hh), HC1.out.same (HD1.out.chg hgr)⟩
    · have HR := Lib.hid (show P.trim 0 k = ((P.drew.setData 0 (P.d0.take k)).setSafe 0 P.s0, 0) by rw [hr, if_neg hs0])
      rw [HR.out]
      have HKN := Lib.hid hkn
      have HL0 := Lib.hid hl0
      have HMIN := Lib.hid (show P.s0 ≤ (k : Int) by omega)
      have ym : min P.s0 (k : Int) = P.s0 := by omega
      have ym2 : P.s0 ≤ (k : Int) := by omega
      clear h hb hk hz hl0 hkn hr hs0
      go_enter Tryd.func53, Tryd.ntmps53
      go_wp2_with fail
      refine HM.out.mono ?_
      rintro e w' ⟨rfl, rfl⟩
      rw [HK.out]
      go_wp2_with fail
      refine HSP.out.mono ?_
      rintro e w1 ⟨rfl, kb, hg, hs⟩
      rw [HE.out]
      have HD1 := Lib.hid (HKD.out.spent kb hg)
      have HC1 := Lib.hid (Chg.behind HB.out (HKD.out.chg hg))
      have HKB := Lib.hid kb
      clear q0 q1 q2 q3 q4
      obtain ⟨q0, q1, q2, q3, q4⟩ := kb.five
      have u0 := kb.frozen 0
      have u1 := kb.frozen 1
      clear kb hg hs
      go_wp2_with fail
      go_ret
      have kb2 := (HKB.out.set 0 (.slice A0 k c0)).set 1 (.int .i64 P.s0)
      have hgr := grown_set (grown_set (grown_refl w1 (some g)) 0 (.slice A0 k c0)) 1 (.int .i64 P.s0)
      have ho := (own_front HD1.out.r0 HKN.out).off HKB.out (by decide) hgr
      have hr1 := HD1.out.r1.off HKB.out (by decide) hgr
      obtain ⟨F', hd, hF'⟩ := HD1.out.put0 (Q := (P.drew.setData 0 (P.d0.take k)).setSafe 0 P.s0) kb2 ho hr1 hgr.size (fun b e => .inl (by cases A0 <;> exact e)) (by
        have := HD1.out.fine
        have := HMIN.out
        have := HKN.out
        have := HL0.out
        unfold PD.Fine PD.drew PD.setData PD.setSafe at *
        simp at *
        omega) (drawn_in HH.out.pw)
      exact ⟨rfl, F', hd, fun i hi => (hF' i hi).imp id (fun hh => Nat.le_trans HC1.out.size hh), HC1.out.same (HD1.out.chg hgr)⟩
set_option maxHeartbeats 1000000 in
theorem trim_1 (g : Nat) (P : PD) (F : Nat → Prop) (A0 A1 : Option Addr) (n0 c0 n1 c1 : Nat) (k : Nat) (w : World) (h : DkAt w F g P A0 n0 c0 A1 n1 c1) (hkn : k ≤ n1) :
    Calls Tryd.prog 53 #[.pointer (some ⟨g, 0, none⟩), .int .i64 1, .int .i64 (k : Int)] w (Did F g (P.trim 1 k) w) := by
  have hb := (Below.refl w.heap.size w).alloc (Nat.le_refl _) (.cells #[.int .i64 1] 3)
  have hk := h.kept hb
  have HB := Lib.hid hb
  have HH := Lib.hid h
  have HKD := Lib.hid hk
  have HM := Lib.hid (missing_in (some ⟨w.heap.size, 0, none⟩) 1 1 [1] (w.alloc (.cells #[.int .i64 1] 3)) (Rd.new w ([1].map iv) 3) (by simp [maxLen]))
  have HSP := Lib.hid (spend_any g (.slice A0 n0 c0) (.int .i64 P.s0) (.slice A1 n1 c1) (.int .i64 P.s1) P.power _ hk.bk hk.pw)
  have HK := Lib.hid (show (!([1] : List Int).all known) = false from rfl)
  have hl0 := h.r1.len
  have hcap := (own_cap h.r1).1
  have hcm := (own_cap h.r1).2
  unfold maxLen at hcm
  have y0 : ¬ ((k : Int) < 0) := by omega
  have y1 : ¬ ((n1 : Int) < (k : Int)) := by omega
  have y2 : (k : Int) ≤ (c1 : Int) := by omega
  have y3 : (0 : Int) ≤ (k : Int) := by omega
  obtain ⟨q0, q1, q2, q3, q4⟩ := hk.bk.five
  by_cases hz : P.power = 0
  · have HE := Lib.hid (show decide (P.power ≠ 0) = false by simp [hz])
    have HZ := Lib.hid hz
    have HR := Lib.hid (show P.trim 1 k = (P, 40) by
      unfold PD.trim PD.data
      have : k ≤ n1 := hkn
      simp [known, hz, hl0, this])
    rw [HR.out]
    clear h hb hk hz hl0 hkn
    go_enter Tryd.func53, Tryd.ntmps53
    go_wp2_with fail
    refine HM.out.mono ?_
    rintro e w' ⟨rfl, rfl⟩
    rw [HK.out]
    go_wp2_with fail
    refine HSP.out.mono ?_
    rintro e w1 ⟨rfl, kb, hg, hs⟩
    rw [HE.out]
    have HKB := Lib.hid kb
    have HG := Lib.hid hg
    clear kb hg hs
    go_wp2_with fail
    go_ret
    exact Did.down HB.out HKD.out HKB.out HG.out HZ.out
  · have HE := Lib.hid (show decide (P.power ≠ 0) = true by simp [hz])
    have hr : P.trim 1 k = ((P.drew.setData 1 (P.d1.take k)).setSafe 1 (if (k : Int) < P.s1 then k else P.s1), 0) := by
      unfold PD.trim PD.data
      have : k ≤ n1 := hkn
      simp [known, hz, hl0, this, PD.safe]
    by_cases hs0 : (k : Int) < P.s1
    · have HR := Lib.hid (show P.trim 1 k = ((P.drew.setData 1 (P.d1.take k)).setSafe 1 (k : Int), 0) by rw [hr, if_pos hs0])
      rw [HR.out]
      have HKN := Lib.hid hkn
      have HL0 := Lib.hid hl0
      have HMIN := Lib.hid hs0
      have ym : min P.s1 (k : Int) = (k : Int) := by omega
      clear h hb hk hz hl0 hkn hr
      go_enter Tryd.func53, Tryd.ntmps53
      go_wp2_with fail
      refine HM.out.mono ?_
      rintro e w' ⟨rfl, rfl⟩
      rw [HK.out]
      go_wp2_with fail
      refine HSP.out.mono ?_
      rintro e w1 ⟨rfl, kb, hg, hs⟩
      rw [HE.out]
      have HD1 := Lib.hid (HKD.out.spent kb hg)
      have HC1 := Lib.hid (Chg.behind HB.out (HKD.out.chg hg))
      have HKB := Lib.hid kb
      clear q0 q1 q2 q3 q4
      obtain ⟨q0, q1, q2, q3, q4⟩ := kb.five
      have u2 := kb.frozen 2
      have u3 := kb.frozen 3
      clear kb hg hs
      go_wp2_with fail
      go_ret
      have kb2 := (HKB.out.set 2 (.slice A1 k c1)).set 3 (.int .i64 (k : Int))
      have hgr := grown_set (grown_set (grown_refl w1 (some g)) 2 (.slice A1 k c1)) 3 (.int .i64 (k : Int))
      have ho := (own_front HD1.out.r1 HKN.out).off HKB.out (by decide) hgr
      have hr0 := HD1.out.r0.off HKB.out (by decide) hgr
      obtain ⟨F', hd, hF'⟩ := HD1.out.put1 (Q := (P.drew.setData 1 (P.d1.take k)).setSafe 1 (k : Int)) kb2 hr0 ho hgr.size (fun b e => .inl (by cases A1 <;> exact e)) (by
        have := HD1.out.fine
        have := HMIN.out
        have := HKN.out
        have := HL0.out
        unfold PD.Fine PD.drew PD.setData PD.setSafe at *
        simp at *
        omega) (drawn_in HH.out.pw)
      exact ⟨rfl, F', hd, fun i hi => (hF' i hi).imp id (fun hh => Nat.le_trans HC1.out.size hh), HC1.out.same (HD1.out.chg hgr)⟩
    · have HR := Lib.hid (show P.trim 1 k = ((P.drew.setData 1 (P.d1.take k)).setSafe 1 P.s1, 0) by rw [hr, if_neg hs0])
      rw [HR.out]
      have HKN := Lib.hid hkn
      have HL0 := Lib.hid hl0
      have HMIN := Lib.hid (show P.s1 ≤ (k : Int) by omega)
      have ym : min P.s1 (k : Int) = P.s1 := by omega
      have ym2 : P.s1 ≤ (k : Int) := by omega
      clear h hb hk hz hl0 hkn hr hs0
      go_enter Tryd.func53, Tryd.ntmps53
      go_wp2_with fail
      refine HM.out.mono ?_
      rintro e w' ⟨rfl, rfl⟩
      rw [HK.out]
      go_wp2_with fail
      refine HSP.out.mono ?_
      rintro e w1 ⟨rfl, kb, hg, hs⟩
      rw [HE.out]
      have HD1 := Lib.hid (HKD.out.spent kb hg)
      have HC1 := Lib.hid (Chg.behind HB.out (HKD.out.chg hg))
      have HKB := Lib.hid kb
      clear q0 q1 q2 q3 q4
      obtain ⟨q0, q1, q2, q3, q4⟩ := kb.five
      have u2 := kb.frozen 2
      have u3 := kb.frozen 3
      clear kb hg hs
      go_wp2_with fail
      go_ret
      have kb2 := (HKB.out.set 2 (.slice A1 k c1)).set 3 (.int .i64 P.s1)
      have hgr := grown_set (grown_set (grown_refl w1 (some g)) 2 (.slice A1 k c1)) 3 (.int .i64 P.s1)
      have ho := (own_front HD1.out.r1 HKN.out).off HKB.out (by decide) hgr
      have hr0 := HD1.out.r0.off HKB.out (by decide) hgr
      obtain ⟨F', hd, hF'⟩ := HD1.out.put1 (Q := (P.drew.setData 1 (P.d1.take k)).setSafe 1 P.s1) kb2 hr0 ho hgr.size (fun b e => .inl (by cases A1 <;> exact e)) (by
        have := HD1.out.fine
        have := HMIN.out
        have := HKN.out
        have := HL0.out
        unfold PD.Fine PD.drew PD.setData PD.setSafe at *
        simp at *
        omega) (drawn_in HH.out.pw)
      exact ⟨rfl, F', hd, fun i hi => (hF' i hi).imp id (fun hh => Nat.le_trans HC1.out.size hh), HC1.out.same (HD1.out.chg hgr)⟩
theorem disk_trim (g : Nat) (a n : Int) (P : PD) (F : Nat → Prop) (w : World) (h : Dk w F g P) :
    Calls Tryd.prog 53 #[.pointer (some ⟨g, 0, none⟩), .int .i64 a, .int .i64 n] w (Did F g (P.trim a n) w) := by
  have HDK := Lib.hid h
  obtain ⟨A0, n0, c0, A1, n1, c1, h⟩ := h
  have hb := (Below.refl w.heap.size w).alloc (Nat.le_refl _) (.cells #[.int .i64 a] 3)
  have hk := h.kept hb
  have HB := Lib.hid hb
  have HKD := Lib.hid hk
  have HM := Lib.hid (missing_in (some ⟨w.heap.size, 0, none⟩) 1 1 [a] (w.alloc (.cells #[.int .i64 a] 3)) (Rd.new w ([a].map iv) 3) (by simp [maxLen]))
  obtain ⟨q0, q1, q2, q3, q4⟩ := hk.bk.five
  rw [known_one] at HM
  cases hkn : known a
  · rw [hkn] at HM
    have HR := Lib.hid (show P.trim a n = (P, 41) by unfold PD.trim; rw [hkn]; rfl)
    rw [HR.out]
    clear hkn h hk hb
    go_enter Tryd.func53, Tryd.ntmps53
    go_wp2_with fail
    refine HM.out.mono ?_
    rintro e w' ⟨rfl, rfl⟩
    go_wp2_with fail
    go_ret
    exact Did.none HDK.out HB.out
  · rw [hkn] at HM
    by_cases hn : n < 0
    · have HR := Lib.hid (show P.trim a n = (P, 41) by
        unfold PD.trim
        have : ¬ 0 ≤ n := by omega
        simp [this])
      rw [HR.out]
      clear hkn h hk hb
      go_enter Tryd.func53, Tryd.ntmps53
      go_wp2_with fail
      refine HM.out.mono ?_
      rintro e w' ⟨rfl, rfl⟩
      go_wp2_with fail
      go_ret
      exact Did.none HDK.out HB.out
    · rcases known_cases hkn with rfl | rfl
      · have hl0 := h.r0.len
        by_cases hk0 : n ≤ (n0 : Int)
        · obtain ⟨k, rfl⟩ : ∃ k : Nat, n = k := ⟨n.toNat, by omega⟩
          exact trim_0 g P F A0 A1 n0 c0 n1 c1 k w h (by omega)
        · have y1 : (n0 : Int) < n := by omega
          have HR := Lib.hid (show P.trim 0 n = (P, 41) by
            unfold PD.trim PD.data
            simp [hl0, hk0])
          rw [HR.out]
          clear hkn h hk hb hl0 hk0
          go_enter Tryd.func53, Tryd.ntmps53
          go_wp2_with fail
          refine HM.out.mono ?_
          rintro e w' ⟨rfl, rfl⟩
          go_wp2_with fail
          go_ret
          exact Did.none HDK.out HB.out
      · have hl1 := h.r1.len
        by_cases hk1 : n ≤ (n1 : Int)
        · obtain ⟨k, rfl⟩ : ∃ k : Nat, n = k := ⟨n.toNat, by omega⟩
          exact trim_1 g P F A0 A1 n0 c0 n1 c1 k w h (by omega)
        · have y1 : (n1 : Int) < n := by omega
          have HR := Lib.hid (show P.trim 1 n = (P, 41) by
            unfold PD.trim PD.data
            simp [hl1, hk1])
          rw [HR.out]
          clear hkn h hk hb hl1 hk1
          go_enter Tryd.func53, Tryd.ntmps53
          go_wp2_with fail
          refine HM.out.mono ?_
          rintro e w' ⟨rfl, rfl⟩
          go_wp2_with fail
          go_ret
          exact Did.none HDK.out HB.out
end Go.Proofs.YtmiejaohkgemnaaDoor
