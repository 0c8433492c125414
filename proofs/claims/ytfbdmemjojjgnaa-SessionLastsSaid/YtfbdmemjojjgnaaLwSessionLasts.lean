/-
  SessionLasts: a walk over the calls' contracts; no statement.
-/
import Derived.Test.YtfbdmemjojjgnaaSessFacts
import Derived.Test.YtfbdmemjojjgnaaOpenInts
import Derived.Deep.CutRange
namespace Go.Proofs.Ytfbdmemjojjgnaa
set_option maxRecDepth 100000
open Go.RowKit
set_option linter.unusedVariables false
set_option maxRecDepth 100000

theorem take_dec {c : Int} {cs : List Int} {k : Nat} (hk : k < cs.length) : decide (c ∈ cs.take (k + 1)) = (decide (c ∈ cs.take k) || (cs[k] == c)) := by
  rw [List.take_succ_eq_append_getElem hk, Bool.eq_iff_iff]
  simp only [List.mem_append, List.mem_singleton, decide_eq_true_iff, Bool.or_eq_true, beq_iff_eq]
  exact ⟨fun h => h.imp id Eq.symm, fun h => h.imp id Eq.symm⟩
set_option maxHeartbeats 12800000 in
theorem sessionLasts_walk (HC0 : BookCalls) (w : World) (client : Int) (wc : (Lit.int .i64 client).wf = true) (span : Int) (ws : (Lit.int .i64 span).wf = true) (now0 : Int) (wn : (Lit.int .i64 now0).wf = true) (v3 : Value) (gaps : List Int) (h3 : InIn w v3 gaps) (other : Int) (wo : (Lit.int .i64 other).wf = true) :
    Calls Try.prog 4 #[.int .i64 client, .int .i64 span, .int .i64 now0, v3, .int .i64 other] w (Tr w) := by
  obtain ⟨GA, gc, rfl, hgs, -⟩ := h3
  have HAL := Lib.hid (aliveS_ok HC0 w)
  have HC := Lib.hid HC0
  have HGS := Lib.hid hgs
  have HWC := Lib.hid wc
  obtain ⟨n, hn⟩ : ∃ n, n = gaps.length := ⟨_, rfl⟩
  have HNX := Lib.hid hn
  rw [← hn]
  clear hgs HC0 hn wc ws wn wo
  go_enter Try.func4, Try.ntmps4
  go_wp2_with fail
  refine (HAL.out).mono ?_
  rintro e w1 ⟨rfl, hb1⟩
  have HB1 := Lib.hid hb1
  clear hb1 HAL
  by_cases a1 : client < 0
  · go_wp2_with fail
    go_ret
    exact ⟨rfl, HB1.out⟩
  by_cases a2 : client > 7
  · go_wp2_with fail
    go_ret
    exact ⟨rfl, HB1.out⟩
  by_cases a3 : span < 1
  · go_wp2_with fail
    go_ret
    exact ⟨rfl, HB1.out⟩
  by_cases a4 : span > 1000000
  · go_wp2_with fail
    go_ret
    exact ⟨rfl, HB1.out⟩
  by_cases a5 : now0 < 0
  · go_wp2_with fail
    go_ret
    exact ⟨rfl, HB1.out⟩
  by_cases a6 : now0 > 274877906944
  · go_wp2_with fail
    go_ret
    exact ⟨rfl, HB1.out⟩
  by_cases a7 : (n : Int) > 100
  · go_wp2_with fail
    go_ret
    exact ⟨rfl, HB1.out⟩
  by_cases a8 : other = client
  · have b8 : (other == client) = true := by simpa using a8
    clear a8
    go_wp2_with fail
    go_ret
    exact ⟨rfl, HB1.out⟩
  have b8 : (other == client) = false := by simpa using a8
  have HNW := Lib.hid (HC.out.new_ w1)
  have hn100 : n ≤ 100 := by omega
  have HR := Lib.hid (show seRight ⟨client, span, now0⟩ = true from decide_eq_true (by simp only; omega))
  have HLO := Lib.hid (show 0 ≤ client ∧ client < 8 ∧ 1 ≤ span ∧ span ≤ 1000000 ∧ 0 ≤ now0 ∧ now0 ≤ 274877906944 by omega)
  clear a8
  go_wp2_with fail
  refine (HNW.out).mono ?_
  intro e w2 h2
  obtain ⟨g, F2, rfl, t2, -, -⟩ := SOn.of_new HB1.out h2
  have T2 := Lib.hid t2
  clear h2 t2 HNW a1 a2 a3 a4 a5 a6 a7
  have HOP := Lib.hid (show Calls _ _ _ _ (MvS F2 w g [⟨client, span, now0⟩] (.int .i64 0) w2) from by
    have h := T2.out.open_ HC.out ⟨client, span, now0⟩
    have e : seOpen ⟨client, span, now0⟩ [] = ([⟨client, span, now0⟩], 0) := by unfold seOpen; rw [HR.out]; rfl
    rwa [e] at h)
  go_wp2_with fail
  refine HOP.out.mono ?_
  rintro e w3 ⟨rfl, F3, t3, -, -⟩
  have T3 := Lib.hid t3
  clear t3 HOP
  have HO2 := Lib.hid (T3.out.open_ HC.out ⟨other, 1, now0⟩)
  have HM := Lib.hid (mem_opened (x := ⟨client, span, now0⟩) (t := [⟨client, span, now0⟩]) (by simp) ⟨other, 1, now0⟩)
  generalize seOpen ⟨other, 1, now0⟩ [⟨client, span, now0⟩] = so at *
  obtain ⟨TO, ro⟩ := so
  have HM := Lib.hid (show (⟨client, span, now0⟩ : Se) ∈ TO from HM.out)
  go_wp2_with fail
  refine HO2.out.mono ?_
  rintro e w4 ⟨rfl, F4, t4, -, -⟩
  have T4 := Lib.hid (show SOn F4 w g TO w4 from t4)
  clear t4 HO2 b8
  go_wp2_with fail
  go_loopw [2, 12] (fun s i wr => ∃ (k : Nat) (G : Nat → Prop) (T : List Se) (now : Int), k ≤ n ∧ s = .int .i64 now ∧ i = .int .i64 k ∧ SOn G w g T wr ∧ (⟨client, span, now⟩ : Se) ∈ T ∧ 0 ≤ now ∧ now ≤ 274877906944 + k * 2097151) (fun _ i _ => n - (intOf i).toNat)
  case atStart => exact ⟨0, F4, TO, now0, Nat.zero_le _, rfl, rfl, T4.out, HM.out, HLO.out.2.2.2.2.1, by have := HLO.out.2.2.2.2.2; omega⟩
  case round =>
    obtain ⟨k, G, T, now, hk, rfl, rfl, htt, hmem, hn0, hn1⟩ := hrel
    have htk := htt.ok
    by_cases hlt : k < n
    · have hkx : k < gaps.length := by have := HNX.out; omega
      have hrg : Rd wr GA n (gaps.map (.int .i64 ·)) := by have := HGS.out.below htt.be; rwa [← HNX.out] at this
      obtain ⟨a, rfl, hab, hac⟩ := hrg.at_ hlt
      have hac2 : wr.cell? (a.add k) = some (.int .i64 gaps[k]) := by rw [hac]; simp [List.getD, hkx]
      generalize gaps[k] = z at *
      obtain ⟨gap, hgap⟩ : ∃ gap, gap = z % 2097152 := ⟨_, rfl⟩
      have hand : bits .and .i64 z 2097151 = gap := by rw [i64_and21, hgap]
      have p0 : 0 ≤ gap := by omega
      have p1 : gap ≤ 2097151 := by omega
      have hkb : (k : Int) * 2097151 ≤ 209715100 := by omega
      have q0 : 0 ≤ now := hn0
      have q1 : now ≤ 275087622044 := by omega
      have HQ := Lib.hid (show now + gap ≤ 274877906944 + ((k + 1 : Nat) : Int) * 2097151 by omega)
      have HTT := Lib.hid htt
      have HTK := Lib.hid htk
      have HME := Lib.hid hmem
      have HLT := Lib.hid hlt
      have y1 : (0 : Int) ≤ (k : Int) := by omega
      have y2 : (k : Int) < (n : Int) := by omega
      have HEX := Lib.hid (htt.expire_ HC.out (now + gap))
      have HEN := Lib.hid (show seEnds (now + gap) ⟨client, span, now⟩ = decide (gap ≥ span) by unfold seEnds; simp only; rw [Bool.eq_iff_iff]; simp only [decide_eq_true_iff]; omega)
      clear hgap hac hab hrg hkx hlt htt htk hmem hk hn0 hn1 hkb
      generalize hp : seEnds (now + gap) = p at *
      have HGI := Lib.hid (gone_iff (p := p) HTK.out.1 HME.out)
      by_cases hs : gap ≥ span
      · have dge : decide (gap ≥ span) = true := decide_eq_true hs
        have HPX := Lib.hid (show p ⟨client, span, now⟩ = true by rw [HEN.out, dge])
        have HDEAD := Lib.hid (left_dead HTK.out.1 HME.out HPX.out)
        clear hp HEN
        go_wp2_with fail
        refine HEX.out.mono ?_
        rintro e w5 ⟨A5, c5, F5, rfl, ho5, -, t5, -, -⟩
        have T5 := Lib.hid t5
        have HIN := Lib.hid (show decide (client ∈ seGone p T) = true from decide_eq_true (HGI.out.2 HPX.out))
        generalize seGone p T = cs at *
        generalize seLeft p T = TL at *
        obtain ⟨m, hm⟩ : ∃ m, m = cs.length := ⟨_, rfl⟩
        have HMX := Lib.hid hm
        rw [← hm] at ho5 ⊢
        have HO5 := Lib.hid ho5.rd
        have hm8 : m ≤ 9223372036854775807 := by have := ho5.cap; simp only [maxLen] at this; omega
        have HLV := Lib.hid (T5.out.live_ HC.out client HWC.out)
        rw [HDEAD.out] at HLV
        have HTN := Lib.hid (touch_none (now := now) HDEAD.out)
        clear ho5 t5 hm HEX hac2 hand
        go_wp2_with fail
        go_loopw [15, 16] (fun s i wz => ∃ j : Nat, j ≤ m ∧ s = .bool (decide (client ∈ cs.take j)) ∧ i = .int .i64 j ∧ wz = w5) (fun _ i _ => m - (intOf i).toNat)
        case atStart => exact ⟨0, Nat.zero_le _, by simp, rfl, rfl⟩
        case round =>
          obtain ⟨j, hj, rfl, rfl, rfl⟩ := hrel
          by_cases hlt2 : j < m
          · have hjx : j < cs.length := by have := HMX.out; omega
            obtain ⟨a5, rfl, _, hac5⟩ := HO5.out.at_ hlt2
            have ht := take_dec (c := client) hjx
            have hac6 : wr.cell? (a5.add j) = some (.int .i64 cs[j]) := by rw [hac5]; simp [List.getD, hjx, iv]
            generalize cs[j] = zc at *
            have HJ := Lib.hid hlt2
            have z1 : (0 : Int) ≤ (j : Int) := by omega
            have z2 : (j : Int) < (m : Int) := by omega
            cases hin : decide (client ∈ cs.take j) with
            | true =>
              rw [hin] at ht
              have HT1 := Lib.hid (show decide (client ∈ cs.take (j + 1)) = true from ht)
              clear ht hin hac5 hjx hlt2 hj
              go_wp2_with fail
              go_roundw
              case rel => exact ⟨j + 1, HJ.out, by rw [HT1.out], by go_num, by trivial⟩
              case measure => have := HJ.out; simp [intOf]; omega
            | false =>
              rw [hin] at ht
              obtain ⟨bz, hbz⟩ : ∃ bz, bz = (zc == client) := ⟨_, rfl⟩
              have hbz2 : (zc == client) = bz := hbz.symm
              rw [← hbz] at ht
              have HT1 := Lib.hid (show decide (client ∈ cs.take (j + 1)) = bz from ht)
              clear ht hin hac5 hjx hlt2 hj hbz
              go_wp2_with fail
              go_roundw
              case rel => exact ⟨j + 1, HJ.out, by rw [HT1.out], by go_num, by trivial⟩
              case measure => have := HJ.out; simp [intOf]; omega
          · have hin : decide (client ∈ cs.take j) = true := by rw [List.take_of_length_le (by have := HMX.out; omega)]; exact HIN.out
            rw [hin]
            clear hin
            go_wp2_with fail
            refine HLV.out.mono ?_
            rintro e w6 ⟨rfl, hb6⟩
            have T6 := Lib.hid (T5.out.kept hb6)
            clear hb6 HLV
            have HTC := Lib.hid (show Calls _ _ _ _ (MvS F5 w g TL (.int .i64 120) w6) from by
              have h := T6.out.touch_ HC.out client now HWC.out
              rwa [HTN.out] at h)
            go_wp2_with fail
            refine HTC.out.mono ?_
            rintro e w7 ⟨rfl, F7, t7, -, -⟩
            have HB7 := Lib.hid t7.be
            clear t7
            go_wp2_with fail
            go_ret
            exact ⟨rfl, HB7.out⟩
      · have dge : decide (gap ≥ span) = false := decide_eq_false hs
        have HPX := Lib.hid (show p ⟨client, span, now⟩ = false by rw [HEN.out, dge])
        have HML := Lib.hid (left_mem HME.out HPX.out)
        have HLIV := Lib.hid (live_of HML.out)
        have HTC2 := Lib.hid (touch_some (now := now + gap) HML.out (by omega) (by omega) (by show now ≤ now + gap; omega))
        clear hp HEN
        go_wp2_with fail
        refine HEX.out.mono ?_
        rintro e w5 ⟨A5, c5, F5, rfl, ho5, -, t5, -, -⟩
        have T5 := Lib.hid t5
        have HIN := Lib.hid (show decide (client ∈ seGone p T) = false from decide_eq_false (fun q => by have := HGI.out.1 q; rw [HPX.out] at this; cases this))
        generalize seGone p T = cs at *
        generalize seLeft p T = TL at *
        obtain ⟨m, hm⟩ : ∃ m, m = cs.length := ⟨_, rfl⟩
        have HMX := Lib.hid hm
        rw [← hm] at ho5 ⊢
        have HO5 := Lib.hid ho5.rd
        have hm8 : m ≤ 9223372036854775807 := by have := ho5.cap; simp only [maxLen] at this; omega
        have HLV := Lib.hid (T5.out.live_ HC.out client HWC.out)
        rw [HLIV.out] at HLV
        clear ho5 t5 hm HEX hac2 hand
        go_wp2_with fail
        go_loopw [15, 16] (fun s i wz => ∃ j : Nat, j ≤ m ∧ s = .bool (decide (client ∈ cs.take j)) ∧ i = .int .i64 j ∧ wz = w5) (fun _ i _ => m - (intOf i).toNat)
        case atStart => exact ⟨0, Nat.zero_le _, by simp, rfl, rfl⟩
        case round =>
          obtain ⟨j, hj, rfl, rfl, rfl⟩ := hrel
          by_cases hlt2 : j < m
          · have hjx : j < cs.length := by have := HMX.out; omega
            obtain ⟨a5, rfl, _, hac5⟩ := HO5.out.at_ hlt2
            have ht := take_dec (c := client) hjx
            have hac6 : wr.cell? (a5.add j) = some (.int .i64 cs[j]) := by rw [hac5]; simp [List.getD, hjx, iv]
            generalize cs[j] = zc at *
            have HJ := Lib.hid hlt2
            have z1 : (0 : Int) ≤ (j : Int) := by omega
            have z2 : (j : Int) < (m : Int) := by omega
            cases hin : decide (client ∈ cs.take j) with
            | true =>
              rw [hin] at ht
              have HT1 := Lib.hid (show decide (client ∈ cs.take (j + 1)) = true from ht)
              clear ht hin hac5 hjx hlt2 hj
              go_wp2_with fail
              go_roundw
              case rel => exact ⟨j + 1, HJ.out, by rw [HT1.out], by go_num, by trivial⟩
              case measure => have := HJ.out; simp [intOf]; omega
            | false =>
              rw [hin] at ht
              obtain ⟨bz, hbz⟩ : ∃ bz, bz = (zc == client) := ⟨_, rfl⟩
              have hbz2 : (zc == client) = bz := hbz.symm
              rw [← hbz] at ht
              have HT1 := Lib.hid (show decide (client ∈ cs.take (j + 1)) = bz from ht)
              clear ht hin hac5 hjx hlt2 hj hbz
              go_wp2_with fail
              go_roundw
              case rel => exact ⟨j + 1, HJ.out, by rw [HT1.out], by go_num, by trivial⟩
              case measure => have := HJ.out; simp [intOf]; omega
          · have hin : decide (client ∈ cs.take j) = false := by rw [List.take_of_length_le (by have := HMX.out; omega)]; exact HIN.out
            rw [hin]
            clear hin
            go_wp2_with fail
            refine HLV.out.mono ?_
            rintro e w6 ⟨rfl, hb6⟩
            have T6 := Lib.hid (T5.out.kept hb6)
            clear hb6 HLV
            have HTC := Lib.hid (show Calls _ _ _ _ (MvS F5 w g (seTouched client (now + gap) TL) (.int .i64 0) w6) from by
              have h := T6.out.touch_ HC.out client (now + gap) HWC.out
              have e : seTouch client (now + gap) TL = (seTouched client (now + gap) TL, 0) := HTC2.out.1
              rwa [e] at h)
            go_wp2_with fail
            refine HTC.out.mono ?_
            rintro e w7 ⟨rfl, F7, t7, -, -⟩
            have T7 := Lib.hid t7
            clear t7
            go_wp2_with fail
            go_roundw
            case rel => exact ⟨k + 1, F7, _, now + gap, HLT.out, rfl, by go_num, T7.out, HTC2.out.2, by omega, HQ.out⟩
            case measure => have := HLT.out; simp [intOf]; omega
    · have hkb : (k : Int) * 2097151 ≤ 209715100 := by omega
      have HRN := Lib.hid (show seRight ⟨client, span, now⟩ = true from decide_eq_true (by have := HLO.out; simp only; omega))
      have HOT := Lib.hid (show Calls _ _ _ _ (MvS G w g T (.int .i64 101) wr) from by
        have h := htt.open_ HC.out ⟨client, span, now⟩
        rwa [open_there hmem HRN.out rfl] at h)
      have HGO := Lib.hid (gone_only htk.1 hmem)
      have HDD := Lib.hid (left_dead (p := seIn [client, client]) htk.1 hmem (by simp [seIn]))
      clear htt htk hmem hkb hn0 hn1 hk
      go_wp2_with fail
      refine HOT.out.mono ?_
      rintro e w5 ⟨rfl, F5, t5, -, -⟩
      have hba := (Below.refl w5.heap.size w5).alloc (Nat.le_refl _) (.cells #[.int .i64 client, .int .i64 client] 3)
      have HCL := Lib.hid (show Calls Try.prog 21 #[.pointer (some ⟨g, 0, none⟩), .slice (some ⟨w5.heap.size, 0, none⟩) 2 2] (w5.alloc (.cells #[.int .i64 client, .int .i64 client] 3)) (GoneS F5 w g (seLeft (seIn [client, client]) T) [client] (w5.alloc (.cells #[.int .i64 client, .int .i64 client] 3))) from by
        have h := (t5.kept hba).close_ HC.out (some ⟨w5.heap.size, 0, none⟩) 2 2 [client, client] (Rd.new w5 [.int .i64 client, .int .i64 client] 3) (by decide)
        have e : seGone (seIn [client, client]) T = [client] := HGO.out
        rwa [e] at h)
      clear t5 hba HOT
      go_wp2_with fail
      refine HCL.out.mono ?_
      rintro e w6 ⟨A6, c6, F6, rfl, ho6, -, t6, -, -⟩
      have hba := (Below.refl w6.heap.size w6).alloc (Nat.le_refl _) (.cells #[.int .i64 client] 3)
      have T6 := Lib.hid (t6.kept hba)
      have HSI := Lib.hid (show Calls Try.prog 23 #[.slice A6 1 c6, .slice (some ⟨w6.heap.size, 0, none⟩) 1 1] (w6.alloc (.cells #[.int .i64 client] 3)) (Quiet (.bool true) (w6.alloc (.cells #[.int .i64 client] 3))) from by
        have h := sameInts_eq A6 (some ⟨w6.heap.size, 0, none⟩) 1 c6 1 _ [client] [client] ((ho6.rd).below hba) (Rd.new w6 [.int .i64 client] 3) (by decide)
        rwa [decide_eq_true rfl] at h)
      clear t6 ho6 hba HCL
      go_wp2_with fail
      refine HSI.out.mono ?_
      rintro e w7 ⟨rfl, q7, hw7⟩
      have T7 := Lib.hid (show SOn F6 w g _ w7 by rw [hw7]; exact T6.out.kept (below_drewN (Below.refl _ _) q7))
      clear hw7 HSI
      have HLV := Lib.hid (show Calls _ _ _ _ (Ans (.bool false) w7) from by
        have h := T7.out.live_ HC.out client HWC.out
        rwa [HDD.out] at h)
      go_wp2_with fail
      refine HLV.out.mono ?_
      rintro e w8 ⟨rfl, hb8⟩
      have HB8 := Lib.hid (T7.out.be.trans (hb8.mono T7.out.be.size))
      clear hb8
      go_wp2_with fail
      go_ret
      exact ⟨rfl, HB8.out⟩
end Go.Proofs.Ytfbdmemjojjgnaa
