/-
  The reference's Decode. A walk; no statement.
-/
import Derived.Test.YtmgmmbgjmnklkaaMMsgDec
import Derived.Deep.CutRange
namespace Go.Proofs.Ytmgmmbgjmnklkaa
set_option maxRecDepth 100000
open Go.RowKit
open Pk
set_option linter.unusedVariables false

set_option maxHeartbeats 6400000 in
theorem refDecodeA2_any (L : Option Addr) (ln lc : Nat) (l : List UInt8) (w : World) (h : Sl w L ln lc l) (hn : ln ≤ 4294967296) (hq : IsK l [1, 2, 7, 8, 9, 10, 13, 14]) :
    Calls Try.prog 19 #[.slice L ln lc] w (DecM l w) := by
  have HZ0 := Lib.hid (show (splitN l).1 = 0 by obtain ⟨_, _, _, h1, _⟩ := hq; exact h1)
  have HN0 := Lib.hid (show (splitN l).2 ≠ [] by obtain ⟨_, _, _, _, h1, _⟩ := hq; rw [h1]; exact List.cons_ne_nil _ _)
  have HQ := Lib.hid (show ∀ g0 gs, (splitN l).2 = g0 :: gs → ∃ kd, rdNum g0 = some kd ∧ kd ∈ ([1, 2, 7, 8, 9, 10, 13, 14] : List Int) by
    intro g0 gs h1
    obtain ⟨f0, fs, kd, _, h2, h3, h4⟩ := hq
    rw [h1] at h2
    injection h2 with h2 _
    rw [h2]
    exact ⟨kd, h3, h4⟩)
  clear hq
  obtain ⟨r, hr⟩ : ∃ r, r = decMg l := ⟨_, rfl⟩
  have HRL := Lib.hid hr
  clear hr
  obtain ⟨i0, hi, hz0, hz1, hz2⟩ := info_parts info_provenA
  have s1 : (w.alloc (.cells #[.int .i64 0, .int .i64 0, .int .i64 0, .int .i64 0, .int .i64 0, .int .i64 0, .int .i64 0, .int .i64 0, .slice none 0 0, .slice none 0 0, .slice none 0 0, .slice none 0 0, .slice none 0 0] 28)).heap.size = w.heap.size + 1 := by simp
  obtain ⟨X, hX⟩ : ∃ X, X = (w.alloc (.cells #[.int .i64 0, .int .i64 0, .int .i64 0, .int .i64 0, .int .i64 0, .int .i64 0, .int .i64 0, .int .i64 0, .slice none 0 0, .slice none 0 0, .slice none 0 0, .slice none 0 0, .slice none 0 0] 28)).alloc (.cells #[.int .i64 0, .int .i64 0, .int .i64 0, .int .i64 0, .int .i64 0, .int .i64 0, .int .i64 0, .int .i64 0, .slice none 0 0, .slice none 0 0, .slice none 0 0, .slice none 0 0, .slice none 0 0] 28) := ⟨_, rfl⟩
  have hB : Below w.heap.size w X := by rw [hX]; exact ((Below.refl w.heap.size w).alloc (Nat.le_refl _) (.cells #[.int .i64 0, .int .i64 0, .int .i64 0, .int .i64 0, .int .i64 0, .int .i64 0, .int .i64 0, .int .i64 0, .slice none 0 0, .slice none 0 0, .slice none 0 0, .slice none 0 0, .slice none 0 0] 28)).alloc (by rw [s1]; omega) (.cells #[.int .i64 0, .int .i64 0, .int .i64 0, .int .i64 0, .int .i64 0, .int .i64 0, .int .i64 0, .int .i64 0, .slice none 0 0, .slice none 0 0, .slice none 0 0, .slice none 0 0, .slice none 0 0] 28)
  have HB := Lib.hid hB
  have HK2 := Lib.hid (show Bk X w.heap.size 28 [.int .i64 0, .int .i64 0, .int .i64 0, .int .i64 0, .int .i64 0, .int .i64 0, .int .i64 0, .int .i64 0, .slice none 0 0, .slice none 0 0, .slice none 0 0, .slice none 0 0, .slice none 0 0] by rw [hX]; exact (Bk.new w 28 [.int .i64 0, .int .i64 0, .int .i64 0, .int .i64 0, .int .i64 0, .int .i64 0, .int .i64 0, .int .i64 0, .slice none 0 0, .slice none 0 0, .slice none 0 0, .slice none 0 0, .slice none 0 0]).alloc _)
  have HK4 := Lib.hid (show Bk X (w.heap.size + 1) 28 [.int .i64 0, .int .i64 0, .int .i64 0, .int .i64 0, .int .i64 0, .int .i64 0, .int .i64 0, .int .i64 0, .slice none 0 0, .slice none 0 0, .slice none 0 0, .slice none 0 0, .slice none 0 0] by rw [hX]; exact bk_new2 w _ _ _)
  have HC := Lib.hid (refSplit_any L ln lc l X (h.below hB).rd h.1 h.2.1 (by omega))
  clear h hn hB s1
  go_enter Try.func19, Try.ntmps19
  go_upto_region 2 with fail
  rw [← hX]
  clear hX
  go_wp2_with fail
  refine HC.out.mono ?_
  rintro e w1 ⟨hb1, ⟨hz, rfl⟩ | ⟨hz, A1, n1, c1, rfl, ho1⟩⟩
  · exact absurd HZ0.out hz
  have HD := Lib.hid (HRL.out.trans (dec_some hz))
  have hk0 : (((splitN l).1 : Int) != 0) = false := by rw [bne_eq_false_iff_eq]; omega
  have HB1 := Lib.hid (below_next HB.out hb1 HB.out.size)
  have HK12 := Lib.hid (HK2.out.kept hb1)
  have HK14 := Lib.hid (HK4.out.kept hb1)
  have HF := Lib.hid ((RdS.of_own ho1).keep (F' := GD w.heap.size w1.heap.size) ⟨Nat.le_refl _, fun _ _ _ => rfl⟩ fun b hb hl => ⟨by have := HK4.out.lt; unfold From at hb; omega, by omega⟩)
  have HSF := Lib.hid (split_fields hz)
  have hfn := split_len hz
  obtain rfl : (splitN l).2.length = n1 := ho1.1
  clear hz hb1 ho1 HC HB HK2 HK4
  generalize (splitN l).2 = ss at *
  match ss with
  | [] =>
    have hF : False := HN0.out rfl
    cases hF
  | f0 :: fs =>
    obtain ⟨x, B0, d0, rfl, hxb, hc0, hB0⟩ := HF.out.b1 (k := 0) rfl
    have hc0' : w1.cell? x = some (.slice B0 f0.length d0) := by simpa [Addr.add] using hc0
    have y1 : (0 : Int) < ((fs.length : Int) + 1) := by omega
    have y0 : (((fs.length : Int) + 1) == 0) = false := by rw [beq_eq_false_iff_ne]; omega
    have HX := Lib.hid (show x.block < w1.heap.size from hxb)
    obtain ⟨X1, hX1⟩ : ∃ X1, X1 = w1.alloc (.cells #[.int .i64 0, .int .i64 0, .int .i64 0, .int .i64 0, .int .i64 0, .int .i64 0, .int .i64 0, .int .i64 0, .slice none 0 0, .slice none 0 0, .slice none 0 0, .slice none 0 0, .slice none 0 0] 28) := ⟨_, rfl⟩
    have hb1 : Below w1.heap.size w1 X1 := by rw [hX1]; exact (Below.refl _ _).alloc (Nat.le_refl _) _
    have HKM := Lib.hid (show Bk X1 w1.heap.size 28 [.int .i64 0, .int .i64 0, .int .i64 0, .int .i64 0, .int .i64 0, .int .i64 0, .int .i64 0, .int .i64 0, .slice none 0 0, .slice none 0 0, .slice none 0 0, .slice none 0 0, .slice none 0 0] by rw [hX1]; exact Bk.new w1 _ _)
    have HBX := Lib.hid (below_next HB1.out hb1 HB1.out.size)
    have HKX2 := Lib.hid (HK12.out.kept hb1)
    have HKX4 := Lib.hid (HK14.out.kept hb1)
    have HFX := Lib.hid (HF.out.below hb1)
    have HCX := Lib.hid (refOne_any B0 f0.length d0 f0 X1 (hB0.below hb1).sl (by have := HSF.out f0 (List.mem_cons_self ..); omega))
    have hc1 := kept_cell hc0' hb1
    have HGW := Lib.hid (show w.heap.size + 1 < w1.heap.size from HK14.out.lt)
    clear hxb hc0 hB0 hb1 hc0' HB1 HK12 HK14 HF
    go_upto_region 6 with fail
    rw [← hX1]
    clear hX1
    go_wp2_with fail
    refine HCX.out.mono ?_
    rintro e w2 ⟨hb2, ⟨kd, hkd, rfl⟩ | ⟨hkd, rfl⟩⟩
    rotate_left
    · obtain ⟨kd, h1, _⟩ := HQ.out f0 fs rfl
      rw [hkd] at h1
      cases h1
    have HBXb := Lib.hid (below_next HBX.out hb2 HBX.out.size)
    have HKX2b := Lib.hid (HKX2.out.kept hb2)
    have HKX4b := Lib.hid (HKX4.out.kept hb2)
    have HKMb := Lib.hid (HKM.out.kept hb2)
    have HFXb := Lib.hid (HFX.out.below hb2)
    have HD2 := Lib.hid (show r = okX Mg.ok (if kindB kd then (kindMg kd).puts (partsN kd) fs else none) by rw [HD.out]; simp only [hkd])
    have HKD := Lib.hid (show kd ∈ ([1, 2, 7, 8, 9, 10, 13, 14] : List Int) by obtain ⟨k9, h1, h2⟩ := HQ.out f0 fs rfl; rw [hkd] at h1; injection h1 with h1; rw [h1]; exact h2)
    clear hb2 hkd HD hc1
    go_wp2_with fail
    refine (refParts_any kd _).mono ?_
    rintro e w3 ⟨rfl, hb3⟩
    have HBXc := Lib.hid (below_next HBXb.out hb3 HBXb.out.size)
    have HKX2c := Lib.hid (HKX2b.out.kept hb3)
    have HKX4c := Lib.hid (HKX4b.out.kept hb3)
    have HKMc := Lib.hid (HKMb.out.kept hb3)
    have HFXc := Lib.hid (HFXb.out.below hb3)
    clear hb3
    have hll := letters_len kd
    by_cases hkb : kindB kd = true
    rotate_left
    · exact absurd ((show ∀ kd ∈ ([1, 2, 7, 8, 9, 10, 13, 14] : List Int), kindB kd = true by decide) kd HKD.out) hkb
    have HD3 := Lib.hid (show r = okX Mg.ok ((kindMg kd).puts (partsN kd) fs) by rw [HD2.out, hkb]; rfl)
    have HLA := Lib.hid (fun (i p : Nat) (h : (partsN kd)[i]? = some p) => letters_at h)
    have hls := letters_some hkb
    have HKB := Lib.hid hkb
    have HPL := Lib.hid (parts_lt kd)
    have HPN := Lib.hid (parts_len kd)
    obtain ⟨ps, hps⟩ : ∃ ps, ps = partsN kd := ⟨_, rfl⟩
    rw [← hps] at HD3 HLA HPL HPN hll
    have HPS := Lib.hid hps
    generalize lettersOf kd = ls at *
    have hle : ls.isEmpty = false := by cases ls with | nil => exact absurd rfl hls | cons a b => rfl
    clear hls HD2 hkb hps
    have HLL := Lib.hid hll
    have hp4 : ps.length ≤ 4 := HPN.out
    have y6 : IntKind.i64.wrap (1 + (ls.length : Int)) = 1 + (ls.length : Int) := by rw [IntKind.wrap_i64]; omega
    by_cases hlen : fs.length = ps.length
    rotate_left
    · have HD4 := Lib.hid (show r = none by
        rw [HD3.out]
        cases hp : (kindMg kd).puts ps fs with
        | none => rfl
        | some m' => exact absurd (puts_len _ _ _ _ hp).symm hlen)
      have y5 : (((fs.length : Int) + 1) != 1 + (ls.length : Int)) = true := by rw [bne_iff_ne]; omega
      clear hlen hll
      go_wp2_with (first
        | (refine wpList_load_row rfl 28 _ rfl (w.heap.size + 1) rfl 28 #[.int .i64 0, .int .i64 0, .int .i64 0, .int .i64 0, .int .i64 0, .int .i64 0, .int .i64 0, .int .i64 0, .slice none 0 0, .slice none 0 0, .slice none 0 0, .slice none 0 0, .slice none 0 0] (0, 0) _ HKX4c.out Try.underlying28 rfl info1_M ?_)
        | (refine wpList_store_bk8 rfl 28 _ _ rfl w.heap.size [.int .i64 0, .int .i64 0, .int .i64 0, .int .i64 0, .int .i64 0, .int .i64 0, .int .i64 0, .int .i64 0, .slice none 0 0, .slice none 0 0, .slice none 0 0, .slice none 0 0, .slice none 0 0] rfl rfl 28 [.int .i64 0, .int .i64 0, .int .i64 0, .int .i64 0, .int .i64 0, .int .i64 0, .int .i64 0, .int .i64 0, .slice none 0 0, .slice none 0 0, .slice none 0 0, .slice none 0 0, .slice none 0 0] HKX2c.out rfl info1_M rfl ?_
           intro w99 hk99 hg99))
      refine bodyPost_ret_by (results_row_tmp rfl _ _ w.heap.size 28 _ _ rfl hk99.out Try.underlying28 rfl info1_M) rfl ?_
      exact ⟨HBXc.out.grown hg99.out HBXc.out.size (fun g hg => by cases hg; omega), .inr ⟨HRL.out.symm.trans HD4.out, rfl⟩⟩
    have y5 : (((fs.length : Int) + 1) != 1 + (ls.length : Int)) = false := by rw [bne_eq_false_iff_eq]; omega
    have HLEN := Lib.hid hlen
    obtain ⟨w4, hw4⟩ : ∃ w4, w4 = w3.setCell ⟨w1.heap.size, 0, none⟩ (.int .i64 kd) := ⟨_, rfl⟩
    have hg4 : w3.grownBy w4 (some w1.heap.size) := by rw [hw4]; exact grown_set (grown_refl _ _) _ _
    have HB4 := Lib.hid (show Below w.heap.size w w4 from HBXc.out.grown hg4 HBXc.out.size (fun g hg => by cases hg; have := HGW.out; omega))
    have HDB := Lib.hid (show DBase w.heap.size w1.heap.size x c1 (f0 :: fs) w4 w4 from ⟨HKX2c.out.grown hg4 (fun e => by injection e with e; have := HGW.out; omega), HKX4c.out.grown hg4 (fun e => by injection e with e; have := HGW.out; omega), grown_refl _ _, HFXc.out.keep (Kp.of_grown hg4 fun b hb e => hb.2 (Option.some.inj e)) fun _ h _ => h⟩)
    have HDG := Lib.hid (show DGood r w.heap.size w1.heap.size ps fs kd 0 (kindMg kd) ⟨none, 0, none, 0, none, 0, none, 0, none, 0⟩ w4 from kind_good (by rw [hw4]; exact HKMc.out.set 0 (.int .i64 kd)) HD3.out.symm)
    have j0 := HKMc.out.at_ (i := 0) rfl
    have z0 := HKMc.out.frozen 0
    go_upto_region 11 with fail
    rw [← hw4]
    clear hw4 hg4 hlen hll j0 z0 HBX HBXb HBXc HKX2 HKX2b HKX2c HKX4 HKX4b HKX4c HKM HKMb HKMc HFX HFXb HFXc HD3 y5
    go_wp2_with fail
    go_loopw [9, 11] (fun okv i wr => ∃ (k : Nat) (ok : Bool), okv = .bool ok ∧ i = .int .i64 k ∧ k ≤ ps.length ∧ DSt r w.heap.size w1.heap.size x c1 f0 ps fs kd w4 k ok wr) (fun _ i _ => ps.length - (intOf i).toNat)
    case atStart => exact ⟨0, true, rfl, rfl, by omega, HDB.out, fun _ => ⟨_, _, HDG.out⟩, fun h => by cases h⟩
    case round =>
      obtain ⟨k, ok, rfl, rfl, hk, hdb, hgood, hbad⟩ := hrel
      have HDBW := Lib.hid hdb
      have HBW := Lib.hid (show Below w.heap.size w wr from HB4.out.grown hdb.grown HB4.out.size (fun g hg => by cases hg; have := HGW.out; omega))
      have HR2 := Lib.hid hdb.two
      have HR4 := Lib.hid hdb.four
      clear hdb
      cases ok with
      | false =>
        have HDN := Lib.hid (hbad rfl)
        clear hgood hbad
        by_cases hlt : k < ps.length
        · have y7 : (k : Int) < (ls.length : Int) := by have := HLL.out; omega
          go_wp2_with (first
            | (refine wpList_load_row rfl 28 _ rfl (w.heap.size + 1) rfl 28 #[.int .i64 0, .int .i64 0, .int .i64 0, .int .i64 0, .int .i64 0, .int .i64 0, .int .i64 0, .int .i64 0, .slice none 0 0, .slice none 0 0, .slice none 0 0, .slice none 0 0, .slice none 0 0] (0, 0) _ HR4.out Try.underlying28 rfl info1_M ?_)
            | (refine wpList_store_bk8 rfl 28 _ _ rfl w.heap.size [.int .i64 0, .int .i64 0, .int .i64 0, .int .i64 0, .int .i64 0, .int .i64 0, .int .i64 0, .int .i64 0, .slice none 0 0, .slice none 0 0, .slice none 0 0, .slice none 0 0, .slice none 0 0] rfl rfl 28 [.int .i64 0, .int .i64 0, .int .i64 0, .int .i64 0, .int .i64 0, .int .i64 0, .int .i64 0, .int .i64 0, .slice none 0 0, .slice none 0 0, .slice none 0 0, .slice none 0 0, .slice none 0 0] HR2.out rfl info1_M rfl ?_
               intro w99 hk99 hg99))
          refine bodyPost_ret_by (results_row_tmp rfl _ _ w.heap.size 28 _ _ rfl hk99.out Try.underlying28 rfl info1_M) rfl ?_
          exact ⟨HBW.out.grown hg99.out HBW.out.size (fun g hg => by cases hg; omega), .inr ⟨HRL.out.symm.trans HDN.out, rfl⟩⟩
        · have y7 : ¬ ((k : Int) < (ls.length : Int)) := by have := HLL.out; omega
          go_wp2_with (first
            | (refine wpList_load_row rfl 28 _ rfl (w.heap.size + 1) rfl 28 #[.int .i64 0, .int .i64 0, .int .i64 0, .int .i64 0, .int .i64 0, .int .i64 0, .int .i64 0, .int .i64 0, .slice none 0 0, .slice none 0 0, .slice none 0 0, .slice none 0 0, .slice none 0 0] (0, 0) _ HR4.out Try.underlying28 rfl info1_M ?_)
            | (refine wpList_store_bk8 rfl 28 _ _ rfl w.heap.size [.int .i64 0, .int .i64 0, .int .i64 0, .int .i64 0, .int .i64 0, .int .i64 0, .int .i64 0, .int .i64 0, .slice none 0 0, .slice none 0 0, .slice none 0 0, .slice none 0 0, .slice none 0 0] rfl rfl 28 [.int .i64 0, .int .i64 0, .int .i64 0, .int .i64 0, .int .i64 0, .int .i64 0, .int .i64 0, .int .i64 0, .slice none 0 0, .slice none 0 0, .slice none 0 0, .slice none 0 0, .slice none 0 0] HR2.out rfl info1_M rfl ?_
               intro w99 hk99 hg99))
          refine bodyPost_ret_by (results_row_tmp rfl _ _ w.heap.size 28 _ _ rfl hk99.out Try.underlying28 rfl info1_M) rfl ?_
          exact ⟨HBW.out.grown hg99.out HBW.out.size (fun g hg => by cases hg; omega), .inr ⟨HRL.out.symm.trans HDN.out, rfl⟩⟩
      | true =>
        obtain ⟨mk, qk, hg⟩ := hgood rfl
        have HG := Lib.hid hg
        have HGB := Lib.hid (show Bk wr w1.heap.size 28 [.int .i64 mk.kind, .int .i64 mk.view, .int .i64 mk.seq, .int .i64 mk.client, .int .i64 mk.stamp, .int .i64 mk.e.c, .int .i64 mk.e.s, .int .i64 mk.e.t, .slice qk.ea mk.e.dig.length qk.ec, .slice qk.ga mk.dig.length qk.gc, .slice qk.da mk.data.length qk.dc, .slice qk.pa mk.proof.length qk.pc, .slice qk.va mk.proven.length qk.vc] from hg.box)
        clear hgood hbad hg
        by_cases hlt : k < ps.length
        rotate_left
        · have y7 : ¬ ((k : Int) < (ls.length : Int)) := by have := HLL.out; omega
          have HRE := Lib.hid (show okX Mg.ok (some mk) = r by
            have := HG.out.puts
            rw [List.drop_of_length_le (by omega), List.drop_of_length_le (by have := HLEN.out; omega)] at this
            exact this)
          have HKI := Lib.hid (show kindB mk.kind = true by rw [HG.out.kind]; exact HKB.out)
          have q0 := HGB.out.at_ (i := 0) rfl
          have q1 := HGB.out.at_ (i := 1) rfl
          have q2 := HGB.out.at_ (i := 2) rfl
          have q3 := HGB.out.at_ (i := 3) rfl
          have q4 := HGB.out.at_ (i := 4) rfl
          have q5 := HGB.out.at_ (i := 5) rfl
          have q6 := HGB.out.at_ (i := 6) rfl
          have q7 := HGB.out.at_ (i := 7) rfl
          have q8 := HGB.out.at_ (i := 8) rfl
          have q9 := HGB.out.at_ (i := 9) rfl
          have q10 := HGB.out.at_ (i := 10) rfl
          have q11 := HGB.out.at_ (i := 11) rfl
          have q12 := HGB.out.at_ (i := 12) rfl
          go_wp2_with fail
          refine (refRight_any mk qk _ _ HG.out.read HKI.out).mono ?_
          rintro e w5 ⟨rfl, hb5⟩
          have HB5 := Lib.hid (below_next HBW.out hb5 HBW.out.size)
          have HR52 := Lib.hid (HR2.out.kept hb5)
          have HR54 := Lib.hid (HR4.out.kept hb5)
          have HG5 := Lib.hid (HGB.out.kept hb5)
          have HM5 := Lib.hid (HG.out.read.below hb5)
          clear hb5 q0 q1 q2 q3 q4 q5 q6 q7 q8 q9 q10 q11 q12
          cases hok : mk.ok
          · have HDN := Lib.hid (show r = none by rw [← HRE.out]; simp [okX, hok])
            clear hok
            go_wp2_with (first
              | (refine wpList_load_row rfl 28 _ rfl (w.heap.size + 1) rfl 28 #[.int .i64 0, .int .i64 0, .int .i64 0, .int .i64 0, .int .i64 0, .int .i64 0, .int .i64 0, .int .i64 0, .slice none 0 0, .slice none 0 0, .slice none 0 0, .slice none 0 0, .slice none 0 0] (0, 0) _ HR54.out Try.underlying28 rfl info1_M ?_)
              | (refine wpList_store_bk8 rfl 28 _ _ rfl w.heap.size [.int .i64 0, .int .i64 0, .int .i64 0, .int .i64 0, .int .i64 0, .int .i64 0, .int .i64 0, .int .i64 0, .slice none 0 0, .slice none 0 0, .slice none 0 0, .slice none 0 0, .slice none 0 0] rfl rfl 28 [.int .i64 0, .int .i64 0, .int .i64 0, .int .i64 0, .int .i64 0, .int .i64 0, .int .i64 0, .int .i64 0, .slice none 0 0, .slice none 0 0, .slice none 0 0, .slice none 0 0, .slice none 0 0] HR52.out rfl info1_M rfl ?_
                 intro w99 hk99 hg99))
            refine bodyPost_ret_by (results_row_tmp rfl _ _ w.heap.size 28 _ _ rfl hk99.out Try.underlying28 rfl info1_M) rfl ?_
            exact ⟨HB5.out.grown hg99.out HB5.out.size (fun g hg => by cases hg; omega), .inr ⟨HRL.out.symm.trans HDN.out, rfl⟩⟩
          have HDN := Lib.hid (show r = some mk by rw [← HRE.out]; simp [okX, hok])
          clear hok
          go_wp2_with (first
            | (refine wpList_load_row rfl 28 _ rfl w1.heap.size rfl 28 #[.int .i64 mk.kind, .int .i64 mk.view, .int .i64 mk.seq, .int .i64 mk.client, .int .i64 mk.stamp, .int .i64 mk.e.c, .int .i64 mk.e.s, .int .i64 mk.e.t, .slice qk.ea mk.e.dig.length qk.ec, .slice qk.ga mk.dig.length qk.gc, .slice qk.da mk.data.length qk.dc, .slice qk.pa mk.proof.length qk.pc, .slice qk.va mk.proven.length qk.vc] (0, 0) _ HG5.out Try.underlying28 rfl info1_M ?_)
            | (refine wpList_store_bk8 rfl 28 _ _ rfl w.heap.size [.int .i64 mk.kind, .int .i64 mk.view, .int .i64 mk.seq, .int .i64 mk.client, .int .i64 mk.stamp, .int .i64 mk.e.c, .int .i64 mk.e.s, .int .i64 mk.e.t, .slice qk.ea mk.e.dig.length qk.ec, .slice qk.ga mk.dig.length qk.gc, .slice qk.da mk.data.length qk.dc, .slice qk.pa mk.proof.length qk.pc, .slice qk.va mk.proven.length qk.vc] rfl rfl 28 [.int .i64 0, .int .i64 0, .int .i64 0, .int .i64 0, .int .i64 0, .int .i64 0, .int .i64 0, .int .i64 0, .slice none 0 0, .slice none 0 0, .slice none 0 0, .slice none 0 0, .slice none 0 0] HR52.out rfl info1_M rfl ?_
               intro w99 hk99 hg99))
          have hr := HM5.out.keep (F' := From w.heap.size) (Kp.of_grown hg99.out fun b hb e => by injection e with e; have := hb.1; omega) (fun b hb _ => by have := hb.1; unfold From; omega)
          refine bodyPost_ret_by (results_row_tmp rfl _ _ w.heap.size 28 _ _ rfl hk99.out Try.underlying28 rfl info1_M) rfl ?_
          exact ⟨HB5.out.grown hg99.out HB5.out.size (fun g hg => by cases hg; omega), .inl ⟨mk, qk, HRL.out.symm.trans HDN.out, rfl, hr⟩⟩
        have hx : ps[k]? = some ps[k] := List.getElem?_eq_getElem hlt
        obtain ⟨f, hf⟩ : ∃ f, fs[k]? = some f := ⟨_, List.getElem?_eq_getElem (by have := HLEN.out; omega)⟩
        obtain ⟨x9, B, d, ea, hxb, hcf, hBf⟩ := HDBW.out.rows.b1 (k := k + 1) (l := f) (by simpa using hf)
        obtain rfl := Option.some.inj ea
        have hcf : wr.cell? ⟨x.block, x.off + (k + 1), none⟩ = some (.slice B f.length d) := by simpa [Addr.add] using hcf
        have hq := HLA.out k _ hx
        have hkl : k < ls.length := by have := HLL.out; omega
        have hp9 := HPL.out _ (List.getElem_mem hlt)
        have hsz : f.length ≤ 4294967296 := by
          have h1 : f ∈ f0 :: fs := List.mem_cons_of_mem _ (List.mem_of_getElem? hf)
          have := HSF.out f h1
          omega
        have HFP := Lib.hid hf
        have HXP := Lib.hid hx
        generalize ps[k] = p at *
        have hlk : ls[k] = letterB p := by rw [List.getElem?_eq_getElem hkl] at hq; exact Option.some.inj hq
        have HLK := Lib.hid hlk
        have HBF := Lib.hid hBf
        have HSZ := Lib.hid hsz
        have HGG := Lib.hid (show ∀ b, wr.heap.size ≤ b → GD w.heap.size w1.heap.size b from fun b hb => by have h1 := HG.out.box.lt; have h2 := HGW.out; exact ⟨by omega, by omega⟩)
        have y7 : (k : Int) < (ls.length : Int) := by omega
        have y8 : (0 : Int) ≤ (k : Int) := by omega
        have y9 : (k : Int) < (fs.length : Int) := by have := HLEN.out; omega
        have y10 : ls.length ≤ 4 := by have := HLL.out; omega
        have y11 : fs.length ≤ 4 := by have := HLEN.out; omega
        have hks : k < ByteArray.size ⟨ls.toArray⟩ := hkl
        have h9 : p ≤ 8 := by omega
        clear hx hf ea hxb hq hp9 hsz hlk hBf
        rcases nine8 h9 with rfl | rfl | rfl | rfl | rfl | rfl | rfl | rfl | rfl
        · skip
          have hF : False := (show ∀ kd ∈ ([1, 2, 7, 8, 9, 10, 13, 14] : List Int), 0 ∉ partsN kd by decide) kd HKD.out (by rw [← HPS.out]; exact List.mem_of_getElem? HXP.out)
          cases hF
        · skip
          have hlk : ((⟨ls.toArray⟩ : ByteArray)[k]'hks).toNat = 115 := by show (ls[k]).toNat = _; rw [HLK.out]; rfl
          have b0 : ((((⟨ls.toArray⟩ : ByteArray)[k]'hks).toNat : Int) == 118) = false := by rw [hlk]; rfl
          have b1 : ((((⟨ls.toArray⟩ : ByteArray)[k]'hks).toNat : Int) == 115) = true := by rw [hlk]; rfl
          clear hlk h9
          have HC := Lib.hid (refOne_any B f.length d f wr HBF.out.sl HSZ.out)
          go_wp2_with fail
          refine HC.out.mono ?_
          rintro e w5 ⟨hb5, ⟨v, hv, rfl⟩ | ⟨hv, rfl⟩⟩
          · have HG5 := Lib.hid (HG.out.box.kept hb5)
            have k2 := (HGB.out.kept hb5).at_ (i := 2) rfl
            have z2 := (HGB.out.kept hb5).frozen 2
            have HV := Lib.hid hv
            have HB5 := Lib.hid hb5
            clear hb5 hv
            go_wp2_with fail
            go_roundw
            case rel =>
              refine ⟨k + 1, true, rfl, by go_num, by omega, ?_⟩
              have gr := grown_set (below_grown HB5.out (some w1.heap.size)) 2 (.int .i64 v)
              have gr1 := grown_set (grown_refl w5 (some w1.heap.size)) 2 (.int .i64 v)
              have hm := HG.out.read.keep (Kp.of_grown gr fun b hb e => hb.2 (Option.some.inj e)) fun _ h _ => h
              exact ⟨HDBW.out.step gr HGW.out, fun _ => ⟨{ mk with seq := v }, qk, HG.out.next HXP.out HFP.out (show mk.put 1 f = some _ by show (rdNum f).map _ = _; rw [HV.out]; rfl) (HG5.out.set 2 (.int .i64 v)) (show MgR _ _ { mk with seq := v } qk from ⟨hm.e, hm.g, hm.d, hm.p, hm.v⟩) (fun h8 => ⟨rfl, rfl, rfl⟩)⟩, fun h => by cases h⟩
            case measure => simp [intOf]; omega
          · have HG5 := Lib.hid (HG.out.box.kept hb5)
            have k2 := (HGB.out.kept hb5).at_ (i := 2) rfl
            have z2 := (HGB.out.kept hb5).frozen 2
            have HV := Lib.hid hv
            have HB5 := Lib.hid hb5
            clear hb5 hv
            go_wp2_with fail
            go_roundw
            case rel =>
              refine ⟨k + 1, false, rfl, by go_num, by omega, ?_⟩
              have gr := grown_set (below_grown HB5.out (some w1.heap.size)) 2 (.int .i64 0)
              exact ⟨HDBW.out.step gr HGW.out, fun h => (by cases h), fun _ => HG.out.none_ HXP.out HFP.out (show mk.put 1 f = none by show (rdNum f).map _ = _; rw [HV.out]; rfl)⟩
            case measure => simp [intOf]; omega
        · skip
          have hlk : ((⟨ls.toArray⟩ : ByteArray)[k]'hks).toNat = 99 := by show (ls[k]).toNat = _; rw [HLK.out]; rfl
          have b0 : ((((⟨ls.toArray⟩ : ByteArray)[k]'hks).toNat : Int) == 118) = false := by rw [hlk]; rfl
          have b1 : ((((⟨ls.toArray⟩ : ByteArray)[k]'hks).toNat : Int) == 115) = false := by rw [hlk]; rfl
          have b2 : ((((⟨ls.toArray⟩ : ByteArray)[k]'hks).toNat : Int) == 99) = true := by rw [hlk]; rfl
          clear hlk h9
          have HC := Lib.hid (refOne_any B f.length d f wr HBF.out.sl HSZ.out)
          go_wp2_with fail
          refine HC.out.mono ?_
          rintro e w5 ⟨hb5, ⟨v, hv, rfl⟩ | ⟨hv, rfl⟩⟩
          · have HG5 := Lib.hid (HG.out.box.kept hb5)
            have k3 := (HGB.out.kept hb5).at_ (i := 3) rfl
            have z3 := (HGB.out.kept hb5).frozen 3
            have HV := Lib.hid hv
            have HB5 := Lib.hid hb5
            clear hb5 hv
            go_wp2_with fail
            go_roundw
            case rel =>
              refine ⟨k + 1, true, rfl, by go_num, by omega, ?_⟩
              have gr := grown_set (below_grown HB5.out (some w1.heap.size)) 3 (.int .i64 v)
              have gr1 := grown_set (grown_refl w5 (some w1.heap.size)) 3 (.int .i64 v)
              have hm := HG.out.read.keep (Kp.of_grown gr fun b hb e => hb.2 (Option.some.inj e)) fun _ h _ => h
              exact ⟨HDBW.out.step gr HGW.out, fun _ => ⟨{ mk with client := v }, qk, HG.out.next HXP.out HFP.out (show mk.put 2 f = some _ by show (rdNum f).map _ = _; rw [HV.out]; rfl) (HG5.out.set 3 (.int .i64 v)) (show MgR _ _ { mk with client := v } qk from ⟨hm.e, hm.g, hm.d, hm.p, hm.v⟩) (fun h8 => ⟨rfl, rfl, rfl⟩)⟩, fun h => by cases h⟩
            case measure => simp [intOf]; omega
          · have HG5 := Lib.hid (HG.out.box.kept hb5)
            have k3 := (HGB.out.kept hb5).at_ (i := 3) rfl
            have z3 := (HGB.out.kept hb5).frozen 3
            have HV := Lib.hid hv
            have HB5 := Lib.hid hb5
            clear hb5 hv
            go_wp2_with fail
            go_roundw
            case rel =>
              refine ⟨k + 1, false, rfl, by go_num, by omega, ?_⟩
              have gr := grown_set (below_grown HB5.out (some w1.heap.size)) 3 (.int .i64 0)
              exact ⟨HDBW.out.step gr HGW.out, fun h => (by cases h), fun _ => HG.out.none_ HXP.out HFP.out (show mk.put 2 f = none by show (rdNum f).map _ = _; rw [HV.out]; rfl)⟩
            case measure => simp [intOf]; omega
        · skip
          have hlk : ((⟨ls.toArray⟩ : ByteArray)[k]'hks).toNat = 116 := by show (ls[k]).toNat = _; rw [HLK.out]; rfl
          have b0 : ((((⟨ls.toArray⟩ : ByteArray)[k]'hks).toNat : Int) == 118) = false := by rw [hlk]; rfl
          have b1 : ((((⟨ls.toArray⟩ : ByteArray)[k]'hks).toNat : Int) == 115) = false := by rw [hlk]; rfl
          have b2 : ((((⟨ls.toArray⟩ : ByteArray)[k]'hks).toNat : Int) == 99) = false := by rw [hlk]; rfl
          have b3 : ((((⟨ls.toArray⟩ : ByteArray)[k]'hks).toNat : Int) == 116) = true := by rw [hlk]; rfl
          clear hlk h9
          have HC := Lib.hid (refOne_any B f.length d f wr HBF.out.sl HSZ.out)
          go_wp2_with fail
          refine HC.out.mono ?_
          rintro e w5 ⟨hb5, ⟨v, hv, rfl⟩ | ⟨hv, rfl⟩⟩
          · have HG5 := Lib.hid (HG.out.box.kept hb5)
            have k4 := (HGB.out.kept hb5).at_ (i := 4) rfl
            have z4 := (HGB.out.kept hb5).frozen 4
            have HV := Lib.hid hv
            have HB5 := Lib.hid hb5
            clear hb5 hv
            go_wp2_with fail
            go_roundw
            case rel =>
              refine ⟨k + 1, true, rfl, by go_num, by omega, ?_⟩
              have gr := grown_set (below_grown HB5.out (some w1.heap.size)) 4 (.int .i64 v)
              have gr1 := grown_set (grown_refl w5 (some w1.heap.size)) 4 (.int .i64 v)
              have hm := HG.out.read.keep (Kp.of_grown gr fun b hb e => hb.2 (Option.some.inj e)) fun _ h _ => h
              exact ⟨HDBW.out.step gr HGW.out, fun _ => ⟨{ mk with stamp := v }, qk, HG.out.next HXP.out HFP.out (show mk.put 3 f = some _ by show (rdNum f).map _ = _; rw [HV.out]; rfl) (HG5.out.set 4 (.int .i64 v)) (show MgR _ _ { mk with stamp := v } qk from ⟨hm.e, hm.g, hm.d, hm.p, hm.v⟩) (fun h8 => ⟨rfl, rfl, rfl⟩)⟩, fun h => by cases h⟩
            case measure => simp [intOf]; omega
          · have HG5 := Lib.hid (HG.out.box.kept hb5)
            have k4 := (HGB.out.kept hb5).at_ (i := 4) rfl
            have z4 := (HGB.out.kept hb5).frozen 4
            have HV := Lib.hid hv
            have HB5 := Lib.hid hb5
            clear hb5 hv
            go_wp2_with fail
            go_roundw
            case rel =>
              refine ⟨k + 1, false, rfl, by go_num, by omega, ?_⟩
              have gr := grown_set (below_grown HB5.out (some w1.heap.size)) 4 (.int .i64 0)
              exact ⟨HDBW.out.step gr HGW.out, fun h => (by cases h), fun _ => HG.out.none_ HXP.out HFP.out (show mk.put 3 f = none by show (rdNum f).map _ = _; rw [HV.out]; rfl)⟩
            case measure => simp [intOf]; omega
        · skip
          have hF : False := (show ∀ kd ∈ ([1, 2, 7, 8, 9, 10, 13, 14] : List Int), 4 ∉ partsN kd by decide) kd HKD.out (by rw [← HPS.out]; exact List.mem_of_getElem? HXP.out)
          cases hF
        · skip
          have hlk : ((⟨ls.toArray⟩ : ByteArray)[k]'hks).toNat = 100 := by show (ls[k]).toNat = _; rw [HLK.out]; rfl
          have b0 : ((((⟨ls.toArray⟩ : ByteArray)[k]'hks).toNat : Int) == 118) = false := by rw [hlk]; rfl
          have b1 : ((((⟨ls.toArray⟩ : ByteArray)[k]'hks).toNat : Int) == 115) = false := by rw [hlk]; rfl
          have b2 : ((((⟨ls.toArray⟩ : ByteArray)[k]'hks).toNat : Int) == 99) = false := by rw [hlk]; rfl
          have b3 : ((((⟨ls.toArray⟩ : ByteArray)[k]'hks).toNat : Int) == 116) = false := by rw [hlk]; rfl
          have b4 : ((((⟨ls.toArray⟩ : ByteArray)[k]'hks).toNat : Int) == 101) = false := by rw [hlk]; rfl
          have b5 : ((((⟨ls.toArray⟩ : ByteArray)[k]'hks).toNat : Int) == 100) = true := by rw [hlk]; rfl
          clear hlk h9
          have HG5 := Lib.hid HG.out.box
          have k9 := (HGB.out).at_ (i := 9) rfl
          have z9 := (HGB.out).frozen 9
          go_wp2_with fail
          go_roundw
          case rel =>
            refine ⟨k + 1, true, rfl, by go_num, by omega, ?_⟩
            have gr := grown_set (grown_refl wr (some w1.heap.size)) 9 (.slice B f.length d)
            have gr1 := grown_set (grown_refl wr (some w1.heap.size)) 9 (.slice B f.length d)
            have hm := HG.out.read.keep (Kp.of_grown gr fun b hb e => hb.2 (Option.some.inj e)) fun _ h _ => h
            exact ⟨HDBW.out.step gr HGW.out, fun _ => ⟨{ mk with dig := f }, { qk with ga := B, gc := d }, HG.out.next HXP.out HFP.out (show mk.put 5 f = some _ from rfl) (HG5.out.set 9 (.slice B f.length d)) (show MgR _ _ { mk with dig := f } { qk with ga := B, gc := d } from ⟨hm.e, HBF.out.keep (Kp.of_grown gr fun b hb e => hb.2 (Option.some.inj e)) fun _ h _ => h, hm.d, hm.p, hm.v⟩) (fun h8 => ⟨rfl, rfl, rfl⟩)⟩, fun h => by cases h⟩
          case measure => simp [intOf]; omega
        · skip
          have hlk : ((⟨ls.toArray⟩ : ByteArray)[k]'hks).toNat = 98 := by show (ls[k]).toNat = _; rw [HLK.out]; rfl
          have b0 : ((((⟨ls.toArray⟩ : ByteArray)[k]'hks).toNat : Int) == 118) = false := by rw [hlk]; rfl
          have b1 : ((((⟨ls.toArray⟩ : ByteArray)[k]'hks).toNat : Int) == 115) = false := by rw [hlk]; rfl
          have b2 : ((((⟨ls.toArray⟩ : ByteArray)[k]'hks).toNat : Int) == 99) = false := by rw [hlk]; rfl
          have b3 : ((((⟨ls.toArray⟩ : ByteArray)[k]'hks).toNat : Int) == 116) = false := by rw [hlk]; rfl
          have b4 : ((((⟨ls.toArray⟩ : ByteArray)[k]'hks).toNat : Int) == 101) = false := by rw [hlk]; rfl
          have b5 : ((((⟨ls.toArray⟩ : ByteArray)[k]'hks).toNat : Int) == 100) = false := by rw [hlk]; rfl
          have b6 : ((((⟨ls.toArray⟩ : ByteArray)[k]'hks).toNat : Int) == 98) = true := by rw [hlk]; rfl
          clear hlk h9
          have HG5 := Lib.hid HG.out.box
          have k10 := (HGB.out).at_ (i := 10) rfl
          have z10 := (HGB.out).frozen 10
          go_wp2_with fail
          go_roundw
          case rel =>
            refine ⟨k + 1, true, rfl, by go_num, by omega, ?_⟩
            have gr := grown_set (grown_refl wr (some w1.heap.size)) 10 (.slice B f.length d)
            have gr1 := grown_set (grown_refl wr (some w1.heap.size)) 10 (.slice B f.length d)
            have hm := HG.out.read.keep (Kp.of_grown gr fun b hb e => hb.2 (Option.some.inj e)) fun _ h _ => h
            exact ⟨HDBW.out.step gr HGW.out, fun _ => ⟨{ mk with data := f }, { qk with da := B, dc := d }, HG.out.next HXP.out HFP.out (show mk.put 6 f = some _ from rfl) (HG5.out.set 10 (.slice B f.length d)) (show MgR _ _ { mk with data := f } { qk with da := B, dc := d } from ⟨hm.e, hm.g, HBF.out.keep (Kp.of_grown gr fun b hb e => hb.2 (Option.some.inj e)) fun _ h _ => h, hm.p, hm.v⟩) (fun h8 => ⟨rfl, rfl, rfl⟩)⟩, fun h => by cases h⟩
          case measure => simp [intOf]; omega
        · skip
          have hF : False := (show ∀ kd ∈ ([1, 2, 7, 8, 9, 10, 13, 14] : List Int), 7 ∉ partsN kd by decide) kd HKD.out (by rw [← HPS.out]; exact List.mem_of_getElem? HXP.out)
          cases hF
        · skip
          have hF : False := (show ∀ kd ∈ ([1, 2, 7, 8, 9, 10, 13, 14] : List Int), 8 ∉ partsN kd by decide) kd HKD.out (by rw [← HPS.out]; exact List.mem_of_getElem? HXP.out)
          cases hF
end Go.Proofs.Ytmgmmbgjmnklkaa
