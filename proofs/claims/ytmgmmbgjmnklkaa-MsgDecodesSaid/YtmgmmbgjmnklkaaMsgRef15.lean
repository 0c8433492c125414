/-
  The reference's Decode. A walk; no statement.
-/
import Derived.Test.YtmgmmbgjmnklkaaMMsgDec
import Derived.Deep.CutRange
namespace Go.Proofs.Ytmgmmbgjmnklkaa
set_option maxRecDepth 100000
open Go.RowKit
open Pk
set_option linter.unusedVariables false

/-- an entry's reading, in one form -/
theorem decE_one {l : List UInt8} {w w' : World} {e : Ending} (h : DecE l w e w') : ∃ (eb : Bool) (ec es et code : Int) (A9 : Option Addr) (c9 : Nat) (lE : List UInt8), e = .returned (.tuple #[.agg #[.int .i64 ec, .int .i64 es, .int .i64 et, .slice A9 lE.length c9], .int .i64 code]) ∧ Below w.heap.size w w' ∧
    (code == 0) = eb ∧ BF (From w.heap.size) w' A9 c9 lE ∧ (eb = true → decEn l = some ⟨ec, es, et, lE⟩) ∧ (eb = false → decEn l = none) := by
  rcases h with ⟨hb, ⟨v, A, c, hv, rfl, hr⟩ | ⟨hv, rfl⟩⟩
  · exact ⟨true, v.c, v.s, v.t, 0, A, c, v.dig, rfl, hb, rfl, hr, fun _ => hv, fun h => by cases h⟩
  · exact ⟨false, 0, 0, 0, 12, none, 0, [], rfl, hb, rfl, BF.nil_ _ _, fun h => (by cases h), fun _ => hv⟩
/-- letters' reading, in one form -/
theorem ltsP_one {l : List UInt8} {w w' : World} {e : Ending} (h : LtsP l w e w') : ∃ (ok : Bool) (A : Option Addr) (c : Nat) (lV : List Lt), e = .returned (.tuple #[.slice A lV.length c, .bool ok]) ∧ Below w.heap.size w w' ∧
    RdS RLt (From w.heap.size) w' A c lV ∧ (ok = true → rdLts l = some lV ∧ ∀ x ∈ lV, x.ok = true) ∧ (ok = false → ∀ xs, rdLts l = some xs → (∀ x ∈ xs, x.ok = true) → False) := by
  rcases h with ⟨hb, ⟨v, hv, hall, A, c, rfl, hr⟩ | ⟨hv, rfl⟩⟩
  · exact ⟨true, A, c, v, rfl, hb, hr, fun _ => ⟨hv, hall⟩, fun h => by cases h⟩
  · exact ⟨false, none, 0, [], rfl, hb, RdS.nil_ _ _ _, fun h => (by cases h), fun _ => hv⟩
set_option maxHeartbeats 6400000 in
theorem refDecodeB_any (L : Option Addr) (ln lc : Nat) (l : List UInt8) (w : World) (h : Sl w L ln lc l) (hn : ln ≤ 4294967296) (hq : IsK l [11]) :
    Calls Try.prog 19 #[.slice L ln lc] w (DecM l w) := by
  have HZ0 := Lib.hid (show (splitN l).1 = 0 by obtain ⟨_, _, _, h1, _⟩ := hq; exact h1)
  have HN0 := Lib.hid (show (splitN l).2 ≠ [] by obtain ⟨_, _, _, _, h1, _⟩ := hq; rw [h1]; exact List.cons_ne_nil _ _)
  have HQ := Lib.hid (show ∀ g0 gs, (splitN l).2 = g0 :: gs → ∃ kd, rdNum g0 = some kd ∧ kd ∈ ([11] : List Int) by
    intro g0 gs h1
    obtain ⟨f0, fs, kd, _, h2, h3, h4⟩ := hq
    rw [h1] at h2
    injection h2 with h2 _
    rw [h2]
    exact ⟨kd, h3, h4⟩)
  clear hq
  obtain ⟨r, hr⟩ : ∃ r, r = decMg l := ⟨_, rfl⟩
  have HRL := Lib.hid hr
  clear hr
  obtain ⟨i0, hi, hz0, hz1, hz2⟩ := info_parts info_provenA
  have s1 : (w.alloc (.cells #[.int .i64 0, .int .i64 0, .int .i64 0, .int .i64 0, .int .i64 0, .int .i64 0, .int .i64 0, .int .i64 0, .slice none 0 0, .slice none 0 0, .slice none 0 0, .slice none 0 0, .slice none 0 0] 28)).heap.size = w.heap.size + 1 := by simp
  obtain ⟨X, hX⟩ : ∃ X, X = (w.alloc (.cells #[.int .i64 0, .int .i64 0, .int .i64 0, .int .i64 0, .int .i64 0, .int .i64 0, .int .i64 0, .int .i64 0, .slice none 0 0, .slice none 0 0, .slice none 0 0, .slice none 0 0, .slice none 0 0] 28)).alloc (.cells #[.int .i64 0, .int .i64 0, .int .i64 0, .int .i64 0, .int .i64 0, .int .i64 0, .int .i64 0, .int .i64 0, .slice none 0 0, .slice none 0 0, .slice none 0 0, .slice none 0 0, .slice none 0 0] 28) := ⟨_, rfl⟩
  have hB : Below w.heap.size w X := by rw [hX]; exact ((Below.refl w.heap.size w).alloc (Nat.le_refl _) (.cells #[.int .i64 0, .int .i64 0, .int .i64 0, .int .i64 0, .int .i64 0, .int .i64 0, .int .i64 0, .int .i64 0, .slice none 0 0, .slice none 0 0, .slice none 0 0, .slice none 0 0, .slice none 0 0] 28)).alloc (by rw [s1]; omega) (.cells #[.int .i64 0, .int .i64 0, .int .i64 0, .int .i64 0, .int .i64 0, .int .i64 0, .int .i64 0, .int .i64 0, .slice none 0 0, .slice none 0 0, .slice none 0 0, .slice none 0 0, .slice none 0 0] 28)
  have HB := Lib.hid hB
  have HK2 := Lib.hid (show Bk X w.heap.size 28 [.int .i64 0, .int .i64 0, .int .i64 0, .int .i64 0, .int .i64 0, .int .i64 0, .int .i64 0, .int .i64 0, .slice none 0 0, .slice none 0 0, .slice none 0 0, .slice none 0 0, .slice none 0 0] by rw [hX]; exact (Bk.new w 28 [.int .i64 0, .int .i64 0, .int .i64 0, .int .i64 0, .int .i64 0, .int .i64 0, .int .i64 0, .int .i64 0, .slice none 0 0, .slice none 0 0, .slice none 0 0, .slice none 0 0, .slice none 0 0]).alloc _)
  have HK4 := Lib.hid (show Bk X (w.heap.size + 1) 28 [.int .i64 0, .int .i64 0, .int .i64 0, .int .i64 0, .int .i64 0, .int .i64 0, .int .i64 0, .int .i64 0, .slice none 0 0, .slice none 0 0, .slice none 0 0, .slice none 0 0, .slice none 0 0] by rw [hX]; exact bk_new2 w _ _ _)
  have HC := Lib.hid (refSplit_any L ln lc l X (h.below hB).rd h.1 h.2.1 (by omega))
  clear h hn hB s1
  go_enter Try.func19, Try.ntmps19
  go_upto_region 2 with fail
  rw [← hX]
  clear hX
  go_wp2_with fail
  refine HC.out.mono ?_
  rintro e w1 ⟨hb1, ⟨hz, rfl⟩ | ⟨hz, A1, n1, c1, rfl, ho1⟩⟩
  · exact absurd HZ0.out hz
  have HD := Lib.hid (HRL.out.trans (dec_some hz))
  have hk0 : (((splitN l).1 : Int) != 0) = false := by rw [bne_eq_false_iff_eq]; omega
  have HB1 := Lib.hid (below_next HB.out hb1 HB.out.size)
  have HK12 := Lib.hid (HK2.out.kept hb1)
  have HK14 := Lib.hid (HK4.out.kept hb1)
  have HF := Lib.hid ((RdS.of_own ho1).keep (F' := GD w.heap.size w1.heap.size) ⟨Nat.le_refl _, fun _ _ _ => rfl⟩ fun b hb hl => ⟨by have := HK4.out.lt; unfold From at hb; omega, by omega⟩)
  have HSF := Lib.hid (split_fields hz)
  have hfn := split_len hz
  obtain rfl : (splitN l).2.length = n1 := ho1.1
  clear hz hb1 ho1 HC HB HK2 HK4
  generalize (splitN l).2 = ss at *
  match ss with
  | [] =>
    have hF : False := HN0.out rfl
    cases hF
  | f0 :: fs =>
    obtain ⟨x, B0, d0, rfl, hxb, hc0, hB0⟩ := HF.out.b1 (k := 0) rfl
    have hc0' : w1.cell? x = some (.slice B0 f0.length d0) := by simpa [Addr.add] using hc0
    have y1 : (0 : Int) < ((fs.length : Int) + 1) := by omega
    have y0 : (((fs.length : Int) + 1) == 0) = false := by rw [beq_eq_false_iff_ne]; omega
    have HX := Lib.hid (show x.block < w1.heap.size from hxb)
    obtain ⟨X1, hX1⟩ : ∃ X1, X1 = w1.alloc (.cells #[.int .i64 0, .int .i64 0, .int .i64 0, .int .i64 0, .int .i64 0, .int .i64 0, .int .i64 0, .int .i64 0, .slice none 0 0, .slice none 0 0, .slice none 0 0, .slice none 0 0, .slice none 0 0] 28) := ⟨_, rfl⟩
    have hb1 : Below w1.heap.size w1 X1 := by rw [hX1]; exact (Below.refl _ _).alloc (Nat.le_refl _) _
    have HKM := Lib.hid (show Bk X1 w1.heap.size 28 [.int .i64 0, .int .i64 0, .int .i64 0, .int .i64 0, .int .i64 0, .int .i64 0, .int .i64 0, .int .i64 0, .slice none 0 0, .slice none 0 0, .slice none 0 0, .slice none 0 0, .slice none 0 0] by rw [hX1]; exact Bk.new w1 _ _)
    have HBX := Lib.hid (below_next HB1.out hb1 HB1.out.size)
    have HKX2 := Lib.hid (HK12.out.kept hb1)
    have HKX4 := Lib.hid (HK14.out.kept hb1)
    have HFX := Lib.hid (HF.out.below hb1)
    have HCX := Lib.hid (refOne_any B0 f0.length d0 f0 X1 (hB0.below hb1).sl (by have := HSF.out f0 (List.mem_cons_self ..); omega))
    have hc1 := kept_cell hc0' hb1
    have HGW := Lib.hid (show w.heap.size + 1 < w1.heap.size from HK14.out.lt)
    clear hxb hc0 hB0 hb1 hc0' HB1 HK12 HK14 HF
    go_upto_region 6 with fail
    rw [← hX1]
    clear hX1
    go_wp2_with fail
    refine HCX.out.mono ?_
    rintro e w2 ⟨hb2, ⟨kd, hkd, rfl⟩ | ⟨hkd, rfl⟩⟩
    rotate_left
    · obtain ⟨kd, h1, _⟩ := HQ.out f0 fs rfl
      rw [hkd] at h1
      cases h1
    have HBXb := Lib.hid (below_next HBX.out hb2 HBX.out.size)
    have HKX2b := Lib.hid (HKX2.out.kept hb2)
    have HKX4b := Lib.hid (HKX4.out.kept hb2)
    have HKMb := Lib.hid (HKM.out.kept hb2)
    have HFXb := Lib.hid (HFX.out.below hb2)
    have HD2 := Lib.hid (show r = okX Mg.ok (if kindB kd then (kindMg kd).puts (partsN kd) fs else none) by rw [HD.out]; simp only [hkd])
    have HKD := Lib.hid (show kd ∈ ([11] : List Int) by obtain ⟨k9, h1, h2⟩ := HQ.out f0 fs rfl; rw [hkd] at h1; injection h1 with h1; rw [h1]; exact h2)
    clear hb2 hkd HD hc1
    go_wp2_with fail
    refine (refParts_any kd _).mono ?_
    rintro e w3 ⟨rfl, hb3⟩
    have HBXc := Lib.hid (below_next HBXb.out hb3 HBXb.out.size)
    have HKX2c := Lib.hid (HKX2b.out.kept hb3)
    have HKX4c := Lib.hid (HKX4b.out.kept hb3)
    have HKMc := Lib.hid (HKMb.out.kept hb3)
    have HFXc := Lib.hid (HFXb.out.below hb3)
    clear hb3
    have hll := letters_len kd
    by_cases hkb : kindB kd = true
    rotate_left
    · exact absurd ((show ∀ kd ∈ ([11] : List Int), kindB kd = true by decide) kd HKD.out) hkb
    have HD3 := Lib.hid (show r = okX Mg.ok ((kindMg kd).puts (partsN kd) fs) by rw [HD2.out, hkb]; rfl)
    have HLA := Lib.hid (fun (i p : Nat) (h : (partsN kd)[i]? = some p) => letters_at h)
    have hls := letters_some hkb
    have HKB := Lib.hid hkb
    have HPL := Lib.hid (parts_lt kd)
    have HPN := Lib.hid (parts_len kd)
    obtain ⟨ps, hps⟩ : ∃ ps, ps = partsN kd := ⟨_, rfl⟩
    rw [← hps] at HD3 HLA HPL HPN hll
    have HPS := Lib.hid hps
    generalize lettersOf kd = ls at *
    have hle : ls.isEmpty = false := by cases ls with | nil => exact absurd rfl hls | cons a b => rfl
    clear hls HD2 hkb hps
    have HLL := Lib.hid hll
    have hp4 : ps.length ≤ 4 := HPN.out
    have y6 : IntKind.i64.wrap (1 + (ls.length : Int)) = 1 + (ls.length : Int) := by rw [IntKind.wrap_i64]; omega
    by_cases hlen : fs.length = ps.length
    rotate_left
    · have HD4 := Lib.hid (show r = none by
        rw [HD3.out]
        cases hp : (kindMg kd).puts ps fs with
        | none => rfl
        | some m' => exact absurd (puts_len _ _ _ _ hp).symm hlen)
      have y5 : (((fs.length : Int) + 1) != 1 + (ls.length : Int)) = true := by rw [bne_iff_ne]; omega
      clear hlen hll
      go_wp2_with (first
        | (refine wpList_load_row rfl 28 _ rfl (w.heap.size + 1) rfl 28 #[.int .i64 0, .int .i64 0, .int .i64 0, .int .i64 0, .int .i64 0, .int .i64 0, .int .i64 0, .int .i64 0, .slice none 0 0, .slice none 0 0, .slice none 0 0, .slice none 0 0, .slice none 0 0] (0, 0) _ HKX4c.out Try.underlying28 rfl info1_M ?_)
        | (refine wpList_store_bk8 rfl 28 _ _ rfl w.heap.size [.int .i64 0, .int .i64 0, .int .i64 0, .int .i64 0, .int .i64 0, .int .i64 0, .int .i64 0, .int .i64 0, .slice none 0 0, .slice none 0 0, .slice none 0 0, .slice none 0 0, .slice none 0 0] rfl rfl 28 [.int .i64 0, .int .i64 0, .int .i64 0, .int .i64 0, .int .i64 0, .int .i64 0, .int .i64 0, .int .i64 0, .slice none 0 0, .slice none 0 0, .slice none 0 0, .slice none 0 0, .slice none 0 0] HKX2c.out rfl info1_M rfl ?_
           intro w99 hk99 hg99))
      refine bodyPost_ret_by (results_row_tmp rfl _ _ w.heap.size 28 _ _ rfl hk99.out Try.underlying28 rfl info1_M) rfl ?_
      exact ⟨HBXc.out.grown hg99.out HBXc.out.size (fun g hg => by cases hg; omega), .inr ⟨HRL.out.symm.trans HD4.out, rfl⟩⟩
    have y5 : (((fs.length : Int) + 1) != 1 + (ls.length : Int)) = false := by rw [bne_eq_false_iff_eq]; omega
    have HLEN := Lib.hid hlen
    obtain ⟨w4, hw4⟩ : ∃ w4, w4 = w3.setCell ⟨w1.heap.size, 0, none⟩ (.int .i64 kd) := ⟨_, rfl⟩
    have hg4 : w3.grownBy w4 (some w1.heap.size) := by rw [hw4]; exact grown_set (grown_refl _ _) _ _
    have HB4 := Lib.hid (show Below w.heap.size w w4 from HBXc.out.grown hg4 HBXc.out.size (fun g hg => by cases hg; have := HGW.out; omega))
    have HDB := Lib.hid (show DBase w.heap.size w1.heap.size x c1 (f0 :: fs) w4 w4 from ⟨HKX2c.out.grown hg4 (fun e => by injection e with e; have := HGW.out; omega), HKX4c.out.grown hg4 (fun e => by injection e with e; have := HGW.out; omega), grown_refl _ _, HFXc.out.keep (Kp.of_grown hg4 fun b hb e => hb.2 (Option.some.inj e)) fun _ h _ => h⟩)
    have HDG := Lib.hid (show DGood r w.heap.size w1.heap.size ps fs kd 0 (kindMg kd) ⟨none, 0, none, 0, none, 0, none, 0, none, 0⟩ w4 from kind_good (by rw [hw4]; exact HKMc.out.set 0 (.int .i64 kd)) HD3.out.symm)
    have j0 := HKMc.out.at_ (i := 0) rfl
    have z0 := HKMc.out.frozen 0
    go_upto_region 11 with fail
    rw [← hw4]
    clear hw4 hg4 hlen hll j0 z0 HBX HBXb HBXc HKX2 HKX2b HKX2c HKX4 HKX4b HKX4c HKM HKMb HKMc HFX HFXb HFXc HD3 y5
    go_wp2_with fail
    go_loopw [9, 11] (fun okv i wr => ∃ (k : Nat) (ok : Bool), okv = .bool ok ∧ i = .int .i64 k ∧ k ≤ ps.length ∧ DSt r w.heap.size w1.heap.size x c1 f0 ps fs kd w4 k ok wr) (fun _ i _ => ps.length - (intOf i).toNat)
    case atStart => exact ⟨0, true, rfl, rfl, by omega, HDB.out, fun _ => ⟨_, _, HDG.out⟩, fun h => by cases h⟩
    case round =>
      obtain ⟨k, ok, rfl, rfl, hk, hdb, hgood, hbad⟩ := hrel
      have HDBW := Lib.hid hdb
      have HBW := Lib.hid (show Below w.heap.size w wr from HB4.out.grown hdb.grown HB4.out.size (fun g hg => by cases hg; have := HGW.out; omega))
      have HR2 := Lib.hid hdb.two
      have HR4 := Lib.hid hdb.four
      clear hdb
      cases ok with
      | false =>
        have HDN := Lib.hid (hbad rfl)
        clear hgood hbad
        by_cases hlt : k < ps.length
        · have y7 : (k : Int) < (ls.length : Int) := by have := HLL.out; omega
          go_wp2_with (first
            | (refine wpList_load_row rfl 28 _ rfl (w.heap.size + 1) rfl 28 #[.int .i64 0, .int .i64 0, .int .i64 0, .int .i64 0, .int .i64 0, .int .i64 0, .int .i64 0, .int .i64 0, .slice none 0 0, .slice none 0 0, .slice none 0 0, .slice none 0 0, .slice none 0 0] (0, 0) _ HR4.out Try.underlying28 rfl info1_M ?_)
            | (refine wpList_store_bk8 rfl 28 _ _ rfl w.heap.size [.int .i64 0, .int .i64 0, .int .i64 0, .int .i64 0, .int .i64 0, .int .i64 0, .int .i64 0, .int .i64 0, .slice none 0 0, .slice none 0 0, .slice none 0 0, .slice none 0 0, .slice none 0 0] rfl rfl 28 [.int .i64 0, .int .i64 0, .int .i64 0, .int .i64 0, .int .i64 0, .int .i64 0, .int .i64 0, .int .i64 0, .slice none 0 0, .slice none 0 0, .slice none 0 0, .slice none 0 0, .slice none 0 0] HR2.out rfl info1_M rfl ?_
               intro w99 hk99 hg99))
          refine bodyPost_ret_by (results_row_tmp rfl _ _ w.heap.size 28 _ _ rfl hk99.out Try.underlying28 rfl info1_M) rfl ?_
          exact ⟨HBW.out.grown hg99.out HBW.out.size (fun g hg => by cases hg; omega), .inr ⟨HRL.out.symm.trans HDN.out, rfl⟩⟩
        · have y7 : ¬ ((k : Int) < (ls.length : Int)) := by have := HLL.out; omega
          go_wp2_with (first
            | (refine wpList_load_row rfl 28 _ rfl (w.heap.size + 1) rfl 28 #[.int .i64 0, .int .i64 0, .int .i64 0, .int .i64 0, .int .i64 0, .int .i64 0, .int .i64 0, .int .i64 0, .slice none 0 0, .slice none 0 0, .slice none 0 0, .slice none 0 0, .slice none 0 0] (0, 0) _ HR4.out Try.underlying28 rfl info1_M ?_)
            | (refine wpList_store_bk8 rfl 28 _ _ rfl w.heap.size [.int .i64 0, .int .i64 0, .int .i64 0, .int .i64 0, .int .i64 0, .int .i64 0, .int .i64 0, .int .i64 0, .slice none 0 0, .slice none 0 0, .slice none 0 0, .slice none 0 0, .slice none 0 0] rfl rfl 28 [.int .i64 0, .int .i64 0, .int .i64 0, .int .i64 0, .int .i64 0, .int .i64 0, .int .i64 0, .int .i64 0, .slice none 0 0, .slice none 0 0, .slice none 0 0, .slice none 0 0, .slice none 0 0] HR2.out rfl info1_M rfl ?_
               intro w99 hk99 hg99))
          refine bodyPost_ret_by (results_row_tmp rfl _ _ w.heap.size 28 _ _ rfl hk99.out Try.underlying28 rfl info1_M) rfl ?_
          exact ⟨HBW.out.grown hg99.out HBW.out.size (fun g hg => by cases hg; omega), .inr ⟨HRL.out.symm.trans HDN.out, rfl⟩⟩
      | true =>
        obtain ⟨mk, qk, hg⟩ := hgood rfl
        have HG := Lib.hid hg
        have HGB := Lib.hid (show Bk wr w1.heap.size 28 [.int .i64 mk.kind, .int .i64 mk.view, .int .i64 mk.seq, .int .i64 mk.client, .int .i64 mk.stamp, .int .i64 mk.e.c, .int .i64 mk.e.s, .int .i64 mk.e.t, .slice qk.ea mk.e.dig.length qk.ec, .slice qk.ga mk.dig.length qk.gc, .slice qk.da mk.data.length qk.dc, .slice qk.pa mk.proof.length qk.pc, .slice qk.va mk.proven.length qk.vc] from hg.box)
        clear hgood hbad hg
        by_cases hlt : k < ps.length
        rotate_left
        · have y7 : ¬ ((k : Int) < (ls.length : Int)) := by have := HLL.out; omega
          have HRE := Lib.hid (show okX Mg.ok (some mk) = r by
            have := HG.out.puts
            rw [List.drop_of_length_le (by omega), List.drop_of_length_le (by have := HLEN.out; omega)] at this
            exact this)
          have HKI := Lib.hid (show kindB mk.kind = true by rw [HG.out.kind]; exact HKB.out)
          have q0 := HGB.out.at_ (i := 0) rfl
          have q1 := HGB.out.at_ (i := 1) rfl
          have q2 := HGB.out.at_ (i := 2) rfl
          have q3 := HGB.out.at_ (i := 3) rfl
          have q4 := HGB.out.at_ (i := 4) rfl
          have q5 := HGB.out.at_ (i := 5) rfl
          have q6 := HGB.out.at_ (i := 6) rfl
          have q7 := HGB.out.at_ (i := 7) rfl
          have q8 := HGB.out.at_ (i := 8) rfl
          have q9 := HGB.out.at_ (i := 9) rfl
          have q10 := HGB.out.at_ (i := 10) rfl
          have q11 := HGB.out.at_ (i := 11) rfl
          have q12 := HGB.out.at_ (i := 12) rfl
          go_wp2_with fail
          refine (refRight_any mk qk _ _ HG.out.read HKI.out).mono ?_
          rintro e w5 ⟨rfl, hb5⟩
          have HB5 := Lib.hid (below_next HBW.out hb5 HBW.out.size)
          have HR52 := Lib.hid (HR2.out.kept hb5)
          have HR54 := Lib.hid (HR4.out.kept hb5)
          have HG5 := Lib.hid (HGB.out.kept hb5)
          have HM5 := Lib.hid (HG.out.read.below hb5)
          clear hb5 q0 q1 q2 q3 q4 q5 q6 q7 q8 q9 q10 q11 q12
          cases hok : mk.ok
          · have HDN := Lib.hid (show r = none by rw [← HRE.out]; simp [okX, hok])
            clear hok
            go_wp2_with (first
              | (refine wpList_load_row rfl 28 _ rfl (w.heap.size + 1) rfl 28 #[.int .i64 0, .int .i64 0, .int .i64 0, .int .i64 0, .int .i64 0, .int .i64 0, .int .i64 0, .int .i64 0, .slice none 0 0, .slice none 0 0, .slice none 0 0, .slice none 0 0, .slice none 0 0] (0, 0) _ HR54.out Try.underlying28 rfl info1_M ?_)
              | (refine wpList_store_bk8 rfl 28 _ _ rfl w.heap.size [.int .i64 0, .int .i64 0, .int .i64 0, .int .i64 0, .int .i64 0, .int .i64 0, .int .i64 0, .int .i64 0, .slice none 0 0, .slice none 0 0, .slice none 0 0, .slice none 0 0, .slice none 0 0] rfl rfl 28 [.int .i64 0, .int .i64 0, .int .i64 0, .int .i64 0, .int .i64 0, .int .i64 0, .int .i64 0, .int .i64 0, .slice none 0 0, .slice none 0 0, .slice none 0 0, .slice none 0 0, .slice none 0 0] HR52.out rfl info1_M rfl ?_
                 intro w99 hk99 hg99))
            refine bodyPost_ret_by (results_row_tmp rfl _ _ w.heap.size 28 _ _ rfl hk99.out Try.underlying28 rfl info1_M) rfl ?_
            exact ⟨HB5.out.grown hg99.out HB5.out.size (fun g hg => by cases hg; omega), .inr ⟨HRL.out.symm.trans HDN.out, rfl⟩⟩
          have HDN := Lib.hid (show r = some mk by rw [← HRE.out]; simp [okX, hok])
          clear hok
          go_wp2_with (first
            | (refine wpList_load_row rfl 28 _ rfl w1.heap.size rfl 28 #[.int .i64 mk.kind, .int .i64 mk.view, .int .i64 mk.seq, .int .i64 mk.client, .int .i64 mk.stamp, .int .i64 mk.e.c, .int .i64 mk.e.s, .int .i64 mk.e.t, .slice qk.ea mk.e.dig.length qk.ec, .slice qk.ga mk.dig.length qk.gc, .slice qk.da mk.data.length qk.dc, .slice qk.pa mk.proof.length qk.pc, .slice qk.va mk.proven.length qk.vc] (0, 0) _ HG5.out Try.underlying28 rfl info1_M ?_)
            | (refine wpList_store_bk8 rfl 28 _ _ rfl w.heap.size [.int .i64 mk.kind, .int .i64 mk.view, .int .i64 mk.seq, .int .i64 mk.client, .int .i64 mk.stamp, .int .i64 mk.e.c, .int .i64 mk.e.s, .int .i64 mk.e.t, .slice qk.ea mk.e.dig.length qk.ec, .slice qk.ga mk.dig.length qk.gc, .slice qk.da mk.data.length qk.dc, .slice qk.pa mk.proof.length qk.pc, .slice qk.va mk.proven.length qk.vc] rfl rfl 28 [.int .i64 0, .int .i64 0, .int .i64 0, .int .i64 0, .int .i64 0, .int .i64 0, .int .i64 0, .int .i64 0, .slice none 0 0, .slice none 0 0, .slice none 0 0, .slice none 0 0, .slice none 0 0] HR52.out rfl info1_M rfl ?_
               intro w99 hk99 hg99))
          have hr := HM5.out.keep (F' := From w.heap.size) (Kp.of_grown hg99.out fun b hb e => by injection e with e; have := hb.1; omega) (fun b hb _ => by have := hb.1; unfold From; omega)
          refine bodyPost_ret_by (results_row_tmp rfl _ _ w.heap.size 28 _ _ rfl hk99.out Try.underlying28 rfl info1_M) rfl ?_
          exact ⟨HB5.out.grown hg99.out HB5.out.size (fun g hg => by cases hg; omega), .inl ⟨mk, qk, HRL.out.symm.trans HDN.out, rfl, hr⟩⟩
        have hx : ps[k]? = some ps[k] := List.getElem?_eq_getElem hlt
        obtain ⟨f, hf⟩ : ∃ f, fs[k]? = some f := ⟨_, List.getElem?_eq_getElem (by have := HLEN.out; omega)⟩
        obtain ⟨x9, B, d, ea, hxb, hcf, hBf⟩ := HDBW.out.rows.b1 (k := k + 1) (l := f) (by simpa using hf)
        obtain rfl := Option.some.inj ea
        have hcf : wr.cell? ⟨x.block, x.off + (k + 1), none⟩ = some (.slice B f.length d) := by simpa [Addr.add] using hcf
        have hq := HLA.out k _ hx
        have hkl : k < ls.length := by have := HLL.out; omega
        have hp9 := HPL.out _ (List.getElem_mem hlt)
        have hsz : f.length ≤ 4294967296 := by
          have h1 : f ∈ f0 :: fs := List.mem_cons_of_mem _ (List.mem_of_getElem? hf)
          have := HSF.out f h1
          omega
        have HFP := Lib.hid hf
        have HXP := Lib.hid hx
        generalize ps[k] = p at *
        have hlk : ls[k] = letterB p := by rw [List.getElem?_eq_getElem hkl] at hq; exact Option.some.inj hq
        have HLK := Lib.hid hlk
        have HBF := Lib.hid hBf
        have HSZ := Lib.hid hsz
        have HGG := Lib.hid (show ∀ b, wr.heap.size ≤ b → GD w.heap.size w1.heap.size b from fun b hb => by have h1 := HG.out.box.lt; have h2 := HGW.out; exact ⟨by omega, by omega⟩)
        have y7 : (k : Int) < (ls.length : Int) := by omega
        have y8 : (0 : Int) ≤ (k : Int) := by omega
        have y9 : (k : Int) < (fs.length : Int) := by have := HLEN.out; omega
        have y10 : ls.length ≤ 4 := by have := HLL.out; omega
        have y11 : fs.length ≤ 4 := by have := HLEN.out; omega
        have hks : k < ByteArray.size ⟨ls.toArray⟩ := hkl
        have h9 : p ≤ 8 := by omega
        clear hx hf ea hxb hq hp9 hsz hlk hBf
        rcases nine8 h9 with rfl | rfl | rfl | rfl | rfl | rfl | rfl | rfl | rfl
        · skip
          have hlk : ((⟨ls.toArray⟩ : ByteArray)[k]'hks).toNat = 118 := by show (ls[k]).toNat = _; rw [HLK.out]; rfl
          have b0 : ((((⟨ls.toArray⟩ : ByteArray)[k]'hks).toNat : Int) == 118) = true := by rw [hlk]; rfl
          clear hlk h9
          have HC := Lib.hid (refOne_any B f.length d f wr HBF.out.sl HSZ.out)
          go_wp2_with fail
          refine HC.out.mono ?_
          rintro e w5 ⟨hb5, ⟨v, hv, rfl⟩ | ⟨hv, rfl⟩⟩
          · have HG5 := Lib.hid (HG.out.box.kept hb5)
            have k1 := (HGB.out.kept hb5).at_ (i := 1) rfl
            have z1 := (HGB.out.kept hb5).frozen 1
            have HV := Lib.hid hv
            have HB5 := Lib.hid hb5
            clear hb5 hv
            go_wp2_with fail
            go_roundw
            case rel =>
              refine ⟨k + 1, true, rfl, by go_num, by omega, ?_⟩
              have gr := grown_set (below_grown HB5.out (some w1.heap.size)) 1 (.int .i64 v)
              have gr1 := grown_set (grown_refl w5 (some w1.heap.size)) 1 (.int .i64 v)
              have hm := HG.out.read.keep (Kp.of_grown gr fun b hb e => hb.2 (Option.some.inj e)) fun _ h _ => h
              exact ⟨HDBW.out.step gr HGW.out, fun _ => ⟨{ mk with view := v }, qk, HG.out.next HXP.out HFP.out (show mk.put 0 f = some _ by show (rdNum f).map _ = _; rw [HV.out]; rfl) (HG5.out.set 1 (.int .i64 v)) (show MgR _ _ { mk with view := v } qk from ⟨hm.e, hm.g, hm.d, hm.p, hm.v⟩) (fun h8 => ⟨rfl, rfl, rfl⟩)⟩, fun h => by cases h⟩
            case measure => simp [intOf]; omega
          · have HG5 := Lib.hid (HG.out.box.kept hb5)
            have k1 := (HGB.out.kept hb5).at_ (i := 1) rfl
            have z1 := (HGB.out.kept hb5).frozen 1
            have HV := Lib.hid hv
            have HB5 := Lib.hid hb5
            clear hb5 hv
            go_wp2_with fail
            go_roundw
            case rel =>
              refine ⟨k + 1, false, rfl, by go_num, by omega, ?_⟩
              have gr := grown_set (below_grown HB5.out (some w1.heap.size)) 1 (.int .i64 0)
              exact ⟨HDBW.out.step gr HGW.out, fun h => (by cases h), fun _ => HG.out.none_ HXP.out HFP.out (show mk.put 0 f = none by show (rdNum f).map _ = _; rw [HV.out]; rfl)⟩
            case measure => simp [intOf]; omega
        · skip
          have hlk : ((⟨ls.toArray⟩ : ByteArray)[k]'hks).toNat = 115 := by show (ls[k]).toNat = _; rw [HLK.out]; rfl
          have b0 : ((((⟨ls.toArray⟩ : ByteArray)[k]'hks).toNat : Int) == 118) = false := by rw [hlk]; rfl
          have b1 : ((((⟨ls.toArray⟩ : ByteArray)[k]'hks).toNat : Int) == 115) = true := by rw [hlk]; rfl
          clear hlk h9
          have HC := Lib.hid (refOne_any B f.length d f wr HBF.out.sl HSZ.out)
          go_wp2_with fail
          refine HC.out.mono ?_
          rintro e w5 ⟨hb5, ⟨v, hv, rfl⟩ | ⟨hv, rfl⟩⟩
          · have HG5 := Lib.hid (HG.out.box.kept hb5)
            have k2 := (HGB.out.kept hb5).at_ (i := 2) rfl
            have z2 := (HGB.out.kept hb5).frozen 2
            have HV := Lib.hid hv
            have HB5 := Lib.hid hb5
            clear hb5 hv
            go_wp2_with fail
            go_roundw
            case rel =>
              refine ⟨k + 1, true, rfl, by go_num, by omega, ?_⟩
              have gr := grown_set (below_grown HB5.out (some w1.heap.size)) 2 (.int .i64 v)
              have gr1 := grown_set (grown_refl w5 (some w1.heap.size)) 2 (.int .i64 v)
              have hm := HG.out.read.keep (Kp.of_grown gr fun b hb e => hb.2 (Option.some.inj e)) fun _ h _ => h
              exact ⟨HDBW.out.step gr HGW.out, fun _ => ⟨{ mk with seq := v }, qk, HG.out.next HXP.out HFP.out (show mk.put 1 f = some _ by show (rdNum f).map _ = _; rw [HV.out]; rfl) (HG5.out.set 2 (.int .i64 v)) (show MgR _ _ { mk with seq := v } qk from ⟨hm.e, hm.g, hm.d, hm.p, hm.v⟩) (fun h8 => ⟨rfl, rfl, rfl⟩)⟩, fun h => by cases h⟩
            case measure => simp [intOf]; omega
          · have HG5 := Lib.hid (HG.out.box.kept hb5)
            have k2 := (HGB.out.kept hb5).at_ (i := 2) rfl
            have z2 := (HGB.out.kept hb5).frozen 2
            have HV := Lib.hid hv
            have HB5 := Lib.hid hb5
            clear hb5 hv
            go_wp2_with fail
            go_roundw
            case rel =>
              refine ⟨k + 1, false, rfl, by go_num, by omega, ?_⟩
              have gr := grown_set (below_grown HB5.out (some w1.heap.size)) 2 (.int .i64 0)
              exact ⟨HDBW.out.step gr HGW.out, fun h => (by cases h), fun _ => HG.out.none_ HXP.out HFP.out (show mk.put 1 f = none by show (rdNum f).map _ = _; rw [HV.out]; rfl)⟩
            case measure => simp [intOf]; omega
        · skip
          have hF : False := (show ∀ kd ∈ ([11] : List Int), 2 ∉ partsN kd by decide) kd HKD.out (by rw [← HPS.out]; exact List.mem_of_getElem? HXP.out)
          cases hF
        · skip
          have hF : False := (show ∀ kd ∈ ([11] : List Int), 3 ∉ partsN kd by decide) kd HKD.out (by rw [← HPS.out]; exact List.mem_of_getElem? HXP.out)
          cases hF
        · skip
          have hF : False := (show ∀ kd ∈ ([11] : List Int), 4 ∉ partsN kd by decide) kd HKD.out (by rw [← HPS.out]; exact List.mem_of_getElem? HXP.out)
          cases hF
        · skip
          have hF : False := (show ∀ kd ∈ ([11] : List Int), 5 ∉ partsN kd by decide) kd HKD.out (by rw [← HPS.out]; exact List.mem_of_getElem? HXP.out)
          cases hF
        · skip
          have hF : False := (show ∀ kd ∈ ([11] : List Int), 6 ∉ partsN kd by decide) kd HKD.out (by rw [← HPS.out]; exact List.mem_of_getElem? HXP.out)
          cases hF
        · skip
          have hlk : ((⟨ls.toArray⟩ : ByteArray)[k]'hks).toNat = 108 := by show (ls[k]).toNat = _; rw [HLK.out]; rfl
          have b0 : ((((⟨ls.toArray⟩ : ByteArray)[k]'hks).toNat : Int) == 118) = false := by rw [hlk]; rfl
          have b1 : ((((⟨ls.toArray⟩ : ByteArray)[k]'hks).toNat : Int) == 115) = false := by rw [hlk]; rfl
          have b2 : ((((⟨ls.toArray⟩ : ByteArray)[k]'hks).toNat : Int) == 99) = false := by rw [hlk]; rfl
          have b3 : ((((⟨ls.toArray⟩ : ByteArray)[k]'hks).toNat : Int) == 116) = false := by rw [hlk]; rfl
          have b4 : ((((⟨ls.toArray⟩ : ByteArray)[k]'hks).toNat : Int) == 101) = false := by rw [hlk]; rfl
          have b5 : ((((⟨ls.toArray⟩ : ByteArray)[k]'hks).toNat : Int) == 100) = false := by rw [hlk]; rfl
          have b6 : ((((⟨ls.toArray⟩ : ByteArray)[k]'hks).toNat : Int) == 98) = false := by rw [hlk]; rfl
          have b7 : ((((⟨ls.toArray⟩ : ByteArray)[k]'hks).toNat : Int) == 108) = true := by rw [hlk]; rfl
          clear hlk h9
          have HC := Lib.hid (refReads_any B f.length d f wr HBF.out.sl HSZ.out)
          go_wp2_with fail
          refine HC.out.mono ?_
          rintro e w5 ⟨hb5, ⟨v, hv, hall, A5, c5, rfl, hr5⟩ | ⟨hv, rfl⟩⟩
          · have HG5 := Lib.hid (HG.out.box.kept hb5)
            have k11 := (HGB.out.kept hb5).at_ (i := 11) rfl
            have z11 := (HGB.out.kept hb5).frozen 11
            have HV := Lib.hid hv
            have HB5 := Lib.hid hb5
            have HR5 := Lib.hid hr5
            clear hb5 hv hr5 hall
            go_wp2_with fail
            go_roundw
            case rel =>
              refine ⟨k + 1, true, rfl, by go_num, by omega, ?_⟩
              have gr := grown_set (below_grown HB5.out (some w1.heap.size)) 11 (.slice A5 v.length c5)
              have gr1 := grown_set (grown_refl w5 (some w1.heap.size)) 11 (.slice A5 v.length c5)
              have hm := HG.out.read.keep (Kp.of_grown gr fun b hb e => hb.2 (Option.some.inj e)) fun _ h _ => h
              exact ⟨HDBW.out.step gr HGW.out, fun _ => ⟨{ mk with proof := v }, { qk with pa := A5, pc := c5 }, HG.out.next HXP.out HFP.out (show mk.put 7 f = some _ by show (rdLts f).map _ = _; rw [HV.out]; rfl) (HG5.out.set 11 (.slice A5 v.length c5)) (show MgR _ _ { mk with proof := v } { qk with pa := A5, pc := c5 } from ⟨hm.e, hm.g, hm.d, HR5.out.keep (F' := GD w.heap.size w1.heap.size) (Kp.of_grown gr1 fun b hb e => (HGG.out b hb).2 (Option.some.inj e)) fun b hb _ => HGG.out b hb, hm.v⟩) (fun h8 => ⟨rfl, rfl, rfl⟩)⟩, fun h => by cases h⟩
            case measure => simp [intOf]; omega
          · have HG5 := Lib.hid (HG.out.box.kept hb5)
            have k11 := (HGB.out.kept hb5).at_ (i := 11) rfl
            have z11 := (HGB.out.kept hb5).frozen 11
            have HV := Lib.hid hv
            have HB5 := Lib.hid hb5
            clear hb5 hv
            go_wp2_with fail
            go_roundw
            case rel =>
              refine ⟨k + 1, false, rfl, by go_num, by omega, ?_⟩
              have gr := grown_set (below_grown HB5.out (some w1.heap.size)) 11 (.slice none 0 0)
              exact ⟨HDBW.out.step gr HGW.out, fun h => (by cases h), fun _ => HG.out.stuck HPS.out HXP.out HFP.out (bad7 HV.out)⟩
            case measure => simp [intOf]; omega
        · skip
          have hlk : ((⟨ls.toArray⟩ : ByteArray)[k]'hks).toNat = 112 := by show (ls[k]).toNat = _; rw [HLK.out]; rfl
          have b0 : ((((⟨ls.toArray⟩ : ByteArray)[k]'hks).toNat : Int) == 118) = false := by rw [hlk]; rfl
          have b1 : ((((⟨ls.toArray⟩ : ByteArray)[k]'hks).toNat : Int) == 115) = false := by rw [hlk]; rfl
          have b2 : ((((⟨ls.toArray⟩ : ByteArray)[k]'hks).toNat : Int) == 99) = false := by rw [hlk]; rfl
          have b3 : ((((⟨ls.toArray⟩ : ByteArray)[k]'hks).toNat : Int) == 116) = false := by rw [hlk]; rfl
          have b4 : ((((⟨ls.toArray⟩ : ByteArray)[k]'hks).toNat : Int) == 101) = false := by rw [hlk]; rfl
          have b5 : ((((⟨ls.toArray⟩ : ByteArray)[k]'hks).toNat : Int) == 100) = false := by rw [hlk]; rfl
          have b6 : ((((⟨ls.toArray⟩ : ByteArray)[k]'hks).toNat : Int) == 98) = false := by rw [hlk]; rfl
          have b7 : ((((⟨ls.toArray⟩ : ByteArray)[k]'hks).toNat : Int) == 108) = false := by rw [hlk]; rfl
          have b8 : ((((⟨ls.toArray⟩ : ByteArray)[k]'hks).toNat : Int) == 112) = true := by rw [hlk]; rfl
          clear hlk h9
          rename World => wo
          obtain ⟨hva, hvc, hpr⟩ := HG.out.prov (nodup_take8 HPS.out HXP.out)
          have HGB12 := Lib.hid (show Bk wo w1.heap.size 28 [.int .i64 mk.kind, .int .i64 mk.view, .int .i64 mk.seq, .int .i64 mk.client, .int .i64 mk.stamp, .int .i64 mk.e.c, .int .i64 mk.e.s, .int .i64 mk.e.t, .slice qk.ea mk.e.dig.length qk.ec, .slice qk.ga mk.dig.length qk.gc, .slice qk.da mk.data.length qk.dc, .slice qk.pa mk.proof.length qk.pc, .slice none 0 0] by have := HGB.out; rw [hva, hvc, hpr] at this; exact this)
          have HC := Lib.hid (refSplit_any B f.length d f wo HBF.out.rd HBF.out.1.1 HBF.out.1.2.1 (by have := HSZ.out; omega))
          have HWG := Lib.hid (show w1.heap.size < wo.heap.size from HGB.out.lt)
          clear hva hvc hpr
          go_wp2_with fail
          refine HC.out.mono ?_
          rintro e w5 ⟨hb5, ⟨hz, rfl⟩ | ⟨hz, A5, n5, c5, rfl, ho5⟩⟩
          · have hk5 : (((splitN f).1 : Int) == 0) = false := by rw [beq_eq_false_iff_ne]; omega
            have HN := Lib.hid (show r = none from HG.out.stuck HPS.out HXP.out HFP.out (bad8 (fun xs hx _ => by rw [show rdPvs f = none by unfold rdPvs rdList rdSplit; rw [if_neg hz]] at hx; cases hx)))
            have HB5 := Lib.hid hb5
            clear hz hb5 HC
            go_wp2_with fail
            go_loopw [9, 16] (fun okv i wx => okv = .bool false ∧ i = .int .i64 0 ∧ wx = w5) (fun _ _ _ => 0)
            case atStart => exact ⟨rfl, rfl, rfl⟩
            case round =>
              obtain ⟨rfl, rfl, hw⟩ := hrel
              subst hw
              go_wp2_with fail
              go_roundw
              case rel => exact ⟨k + 1, false, rfl, by go_num, by omega, HDBW.out.step (below_grown HB5.out _) HGW.out, fun h => (by cases h), fun _ => HN.out⟩
              case measure => simp [intOf]; omega
          have hk5 : (((splitN f).1 : Int) == 0) = true := by rw [beq_iff_eq]; omega
          have HRS := Lib.hid (show rdPvs f = allX rdPv (splitN f).2 by unfold rdPvs rdList rdSplit; rw [if_pos hz])
          have HSF2 := Lib.hid (split_fields hz)
          have hfn2 := split_len hz
          obtain rfl : (splitN f).2.length = n5 := ho5.1
          have HF5 := Lib.hid (RdS.of_own ho5)
          have HB5 := Lib.hid hb5
          have HG5 := Lib.hid (HGB12.out.kept hb5)
          clear hz hb5 ho5 HC
          generalize (splitN f).2 = fs2 at *
          go_wp2_with fail
          go_loopw [9, 16] (fun okv i wx => ∃ (j : Nat) (ok : Bool), okv = .bool ok ∧ i = .int .i64 j ∧ j ≤ fs2.length ∧ PSt r w1.heap.size [.int .i64 mk.kind, .int .i64 mk.view, .int .i64 mk.seq, .int .i64 mk.client, .int .i64 mk.stamp, .int .i64 mk.e.c, .int .i64 mk.e.s, .int .i64 mk.e.t, .slice qk.ea mk.e.dig.length qk.ec, .slice qk.ga mk.dig.length qk.gc, .slice qk.da mk.data.length qk.dc, .slice qk.pa mk.proof.length qk.pc] w5 fs2 j ok wx) (fun _ i _ => fs2.length - (intOf i).toNat)
          case atStart => exact ⟨0, true, rfl, rfl, by omega, grown_refl _ _, fun _ => ⟨[], none, 0, HG5.out, OwnS.nil_ _ _ _ _ _, rfl, by simp⟩, fun h => by cases h⟩
          case round =>
            obtain ⟨j, ok, rfl, rfl, hj, hgr, hgd, hbd⟩ := hrel
            have HGR := Lib.hid hgr
            have HGO := Lib.hid (show wo.grownBy wr (some w1.heap.size) from grown_trans (below_grown HB5.out (some w1.heap.size)) hgr (.inl rfl))
            clear hgr
            cases ok with
            | false =>
              have HN := Lib.hid (hbd rfl)
              clear hgd hbd
              by_cases hlt2 : j < fs2.length
              · have u7 : (j : Int) < (fs2.length : Int) := by omega
                go_wp2_with fail
                go_roundw
                case rel => exact ⟨k + 1, false, rfl, by go_num, by omega, HDBW.out.step (HGO.out) HGW.out, fun h => (by cases h), fun _ => HN.out⟩
                case measure => simp [intOf]; omega
              · have u7 : ¬ ((j : Int) < (fs2.length : Int)) := by omega
                go_wp2_with fail
                go_roundw
                case rel => exact ⟨k + 1, false, rfl, by go_num, by omega, HDBW.out.step (HGO.out) HGW.out, fun h => (by cases h), fun _ => HN.out⟩
                case measure => simp [intOf]; omega
            | true =>
              obtain ⟨acc, A', c', hkb, hos, hax, hah⟩ := hgd rfl
              clear hgd hbd
              have hal := allX_len hax
              rw [List.length_take] at hal
              have HKB := Lib.hid hkb
              have HO := Lib.hid hos
              have HAX := Lib.hid hax
              have HAH := Lib.hid hah
              clear hkb hos hax hah
              by_cases hlt2 : j < fs2.length
              rotate_left
              · have e9 : fs2.take j = fs2 := List.take_of_length_le (by omega)
                have HPV := Lib.hid (show rdPvs f = some acc by rw [HRS.out, ← e9]; exact HAX.out)
                have HRD := Lib.hid (HO.out.rds (fun b hb => hb))
                have u7 : ¬ ((j : Int) < (fs2.length : Int)) := by omega
                clear e9 hal
                go_wp2_with fail
                go_roundw
                case rel =>
                  refine ⟨k + 1, true, rfl, by go_num, by omega, ?_⟩
                  have hm := HG.out.read.keep (Kp.of_grown HGO.out fun b hb e => hb.2 (Option.some.inj e)) fun _ h _ => h
                  exact ⟨HDBW.out.step HGO.out HGW.out, fun _ => ⟨{ mk with proven := acc }, { qk with va := A', vc := c' }, HG.out.next HXP.out HFP.out (show mk.put 8 f = some _ by show (rdPvs f).map _ = _; rw [HPV.out]; rfl) HKB.out (show MgR _ _ { mk with proven := acc } { qk with va := A', vc := c' } from ⟨hm.e, hm.g, hm.d, hm.p, HRD.out.keep (F' := GD w.heap.size w1.heap.size) ⟨Nat.le_refl _, fun _ _ _ => rfl⟩ fun b hb _ => HGG.out b (Nat.le_trans HB5.out.size hb)⟩) (fun h8 => absurd rfl h8)⟩, fun h => by cases h⟩
                case measure => simp [intOf]; omega
              have HJ := Lib.hid (show acc.length = j by omega)
              obtain ⟨row, hrow⟩ : ∃ row, fs2[j]? = some row := ⟨_, List.getElem?_eq_getElem hlt2⟩
              have hfr := HF5.out.keep (F' := From wo.heap.size) (Kp.of_grown HGR.out fun b hb e => by injection e with e; have := HWG.out; unfold From at hb; omega) fun _ h _ => h
              obtain ⟨y, Br, dr, rfl, hyb, hcy, hBr⟩ := hfr.b1 hrow
              have HM := Lib.hid (List.mem_of_getElem? hrow)
              have HSN2 := Lib.hid (show fs2.take (j + 1) = fs2.take j ++ [row] by obtain ⟨hh, rfl⟩ := List.getElem?_eq_some_iff.1 hrow; exact List.take_succ_eq_append_getElem hh)
              have hrl : row.length ≤ 4294967296 := by have := HSF2.out row HM.out; omega
              obtain ⟨X1, hX1⟩ : ∃ X1, X1 = wr.alloc (.cells #[.int .i64 0, .int .i64 0, .int .i64 0, .int .i64 0, .int .i64 0, .slice none 0 0, .slice none 0 0] 62) := ⟨_, rfl⟩
              have hbx : Below wr.heap.size wr X1 := by rw [hX1]; exact (Below.refl _ _).alloc (Nat.le_refl _) _
              have HX1K := Lib.hid (show Bk X1 wr.heap.size 62 [.int .i64 0, .int .i64 0, .int .i64 0, .int .i64 0, .int .i64 0, .slice none 0 0, .slice none 0 0] by rw [hX1]; exact Bk.new wr _ _)
              have HXS := Lib.hid (show wr.heap.size < X1.heap.size from HX1K.out.lt)
              have HBX := Lib.hid hbx
              have HKX := Lib.hid (HKB.out.kept hbx)
              have hcy1 := kept_cell hcy hbx
              have HCF := Lib.hid (refFields_any Br row.length dr row 3 2 X1 (hBr.below hbx).sl hrl (by omega))
              have u7 : (j : Int) < (fs2.length : Int) := by omega
              have u8 : (0 : Int) ≤ (j : Int) := by omega
              have HGN := Lib.hid (show w1.heap.size ≠ wr.heap.size from by have := HKB.out.lt; omega)
              clear hrow hfr hyb hcy hBr hrl hbx hal
              go_upto_region 40 with fail
              rw [← hX1]
              clear hX1
              go_wp2_with fail
              refine HCF.out.mono ?_
              rintro e w6 ⟨hb6, ⟨g0, rest, vs, hf6, hv6, A6, c6, B6, d6, rfl, hof, hoi⟩ | ⟨hno, u6, v6, rfl⟩⟩
              rotate_left
              · have HN := Lib.hid (show r = none from HG.out.stuck HPS.out HXP.out HFP.out (bad8 (row_bad HRS.out HM.out (fun yy hy hh => by obtain ⟨a0, a1, a2, h1, h2, _, _⟩ := pv_to hy; rw [hno a0 [a1, a2] h1] at h2; cases h2))))
                have HG6 := Lib.hid (show wo.grownBy w6 (some w1.heap.size) from grown_trans HGO.out (below_grown (below_next HBX.out hb6 HBX.out.size) (some w1.heap.size)) (.inl rfl))
                clear hno hb6 hcy1
                go_wp2_with fail
                go_roundw
                case rel => exact ⟨k + 1, false, rfl, by go_num, by omega, HDBW.out.step (HG6.out) HGW.out, fun h => (by cases h), fun _ => HN.out⟩
                case measure => simp [intOf]; omega
              obtain ⟨hl2, hrg⟩ := rdNums_range hv6
              obtain ⟨_, hfl⟩ := rdFlds_join hf6
              match rest, hfl, vs, hl2 with
              | [g1, g2], _, [va, vb], _ =>
                obtain ⟨gf, rfl, hgf, hgfl, hcf6⟩ := hof.at_ (by omega)
                obtain ⟨gi, rfl, hgi, hgil, hci⟩ := hoi.at_ (by omega)
                obtain ⟨D1, e1, q1, o1⟩ := hcf6 1 g1 rfl
                obtain ⟨D2, e2, q2, o2⟩ := hcf6 2 g2 rfl
                have i0 := hci 0 va rfl
                have i1 := hci 1 vb rfl
                have HXS2 := HXS.out
                have hgne : gf ≠ wr.heap.size := by omega
                have hine : gi ≠ wr.heap.size := by omega
                have HGF := Lib.hid hgne
                have HF6 := Lib.hid hf6
                have HV6 := Lib.hid hv6
                have HGL1 := Lib.hid (show g1.length ≤ 4294967296 by have := (BF.own o1).1.2.1; have h2 := joinX_fields (rdFlds_join hf6).1; have := h2.2.2 g1 (by simp); omega)
                have HGL2 := Lib.hid (show g2.length ≤ 4294967296 by have h2 := joinX_fields (rdFlds_join hf6).1; have := h2.2.2 g2 (by simp); omega)
                have HB1 := Lib.hid (below_next HBX.out hb6 HBX.out.size)
                have HS2 := Lib.hid (hb6.size)
                have HKX3 := Lib.hid (HX1K.out.kept hb6)
                have HKG4 := Lib.hid (HKX.out.kept hb6)
                have HQ15 := Lib.hid (q1)
                have HQ26 := Lib.hid (q2)
                have HF17 := Lib.hid (BF.own o1)
                have HF28 := Lib.hid (BF.own o2)
                obtain ⟨w7, hw7⟩ : ∃ w7, w7 = (w6.setCell ⟨wr.heap.size, 0, none⟩ (.int .i64 va)) := ⟨_, rfl⟩
                have i1b : w7.cell? ⟨gi, 1, none⟩ = some (.int .i64 vb) := by rw [hw7]; exact far1 i1 hine 0 _
                have k0 := HKX3.out.at_ (i := 0) rfl
                have z0 := HKX3.out.frozen 0
                have HB9 := Lib.hid (below_set HB1.out (Nat.le_refl _) 0 (.int .i64 va))
                rw [← hw7] at HB9
                have HS10 := Lib.hid (Nat.le_trans HS2.out (grown_set (grown_refl w6 (some wr.heap.size)) 0 (.int .i64 va)).size)
                rw [← hw7] at HS10
                have HKX11 := Lib.hid (HKX3.out.set 0 (.int .i64 va))
                rw [← hw7] at HKX11
                have HKG12 := Lib.hid (HKG4.out.far (p := ⟨wr.heap.size, 0, none⟩) HGN.out (.int .i64 va))
                rw [← hw7] at HKG12
                have HQ113 := Lib.hid (far1 HQ15.out HGF.out 0 (.int .i64 va))
                rw [← hw7] at HQ113
                have HQ214 := Lib.hid (far1 HQ26.out HGF.out 0 (.int .i64 va))
                rw [← hw7] at HQ214
                have HF115 := Lib.hid (HF17.out.keep (Kp.of_grown (grown_set (grown_refl w6 (some wr.heap.size)) 0 (.int .i64 va)) (fun b hb e => by injection e with e; have := HXS.out; unfold From at hb; omega)) fun _ h _ => h)
                rw [← hw7] at HF115
                have HF216 := Lib.hid (HF28.out.keep (Kp.of_grown (grown_set (grown_refl w6 (some wr.heap.size)) 0 (.int .i64 va)) (fun b hb e => by injection e with e; have := HXS.out; unfold From at hb; omega)) fun _ h _ => h)
                rw [← hw7] at HF216
                clear hb6 hof hoi hcf6 hci q1 q2 o1 o2 i1 hf6 hv6 hrg hcy1
                go_upto_region 44 with fail
                rw [← hw7]
                clear hw7 k0 z0 i0
                obtain ⟨w8, hw8⟩ : ∃ w8, w8 = w7.setCell ⟨wr.heap.size, 1, none⟩ (.int .i64 vb) := ⟨_, rfl⟩
                have k0 := HKX11.out.at_ (i := 1) rfl
                have z0 := HKX11.out.frozen 1
                have HB17 := Lib.hid (below_set HB9.out (Nat.le_refl _) 1 (.int .i64 vb))
                rw [← hw8] at HB17
                have HS18 := Lib.hid (Nat.le_trans HS10.out (grown_set (grown_refl w7 (some wr.heap.size)) 1 (.int .i64 vb)).size)
                rw [← hw8] at HS18
                have HKX19 := Lib.hid (HKX11.out.set 1 (.int .i64 vb))
                rw [← hw8] at HKX19
                have HKG20 := Lib.hid (HKG12.out.far (p := ⟨wr.heap.size, 1, none⟩) HGN.out (.int .i64 vb))
                rw [← hw8] at HKG20
                have HQ121 := Lib.hid (far1 HQ113.out HGF.out 1 (.int .i64 vb))
                rw [← hw8] at HQ121
                have HQ222 := Lib.hid (far1 HQ214.out HGF.out 1 (.int .i64 vb))
                rw [← hw8] at HQ222
                have HF123 := Lib.hid (HF115.out.keep (Kp.of_grown (grown_set (grown_refl w7 (some wr.heap.size)) 1 (.int .i64 vb)) (fun b hb e => by injection e with e; have := HXS.out; unfold From at hb; omega)) fun _ h _ => h)
                rw [← hw8] at HF123
                have HF224 := Lib.hid (HF216.out.keep (Kp.of_grown (grown_set (grown_refl w7 (some wr.heap.size)) 1 (.int .i64 vb)) (fun b hb e => by injection e with e; have := HXS.out; unfold From at hb; omega)) fun _ h _ => h)
                rw [← hw8] at HF224
                go_upto_region 45 with fail
                rw [← hw8]
                clear hw8 k0 z0 i1b
                have q1 := HQ121.out
                have HCE := Lib.hid (refReadEntry_any D1 g1.length e1 g1 w8 HF123.out.sl HGL1.out)
                go_wp2_with fail
                refine HCE.out.mono ?_
                intro e w9 hh9
                obtain ⟨eb, ec, es, et, code, A9, c9, lE, rfl, hb9, hcode, hre, he1, he2⟩ := decE_one hh9
                clear hh9
                have HE1 := Lib.hid he1
                have HE2 := Lib.hid he2
                have HCO := Lib.hid hcode
                clear q1 HCE he1 he2 hcode
                have HB25 := Lib.hid (below_next HB17.out hb9 HB17.out.size)
                have HS26 := Lib.hid (Nat.le_trans HS18.out hb9.size)
                have HKX27 := Lib.hid (HKX19.out.kept hb9)
                have HKG28 := Lib.hid (HKG20.out.kept hb9)
                have HQ129 := Lib.hid (kept_cell HQ121.out hb9)
                have HQ230 := Lib.hid (kept_cell HQ222.out hb9)
                have HF131 := Lib.hid (HF123.out.below hb9)
                have HF232 := Lib.hid (HF224.out.below hb9)
                have HEV33 := Lib.hid (hre.keep (F' := From X1.heap.size) ⟨Nat.le_refl _, fun _ _ _ => rfl⟩ fun b hb _ => Nat.le_trans HS18.out hb)
                obtain ⟨w10, hw10⟩ : ∃ w10, w10 = w9.alloc (.cells #[.int .i64 ec, .int .i64 es, .int .i64 et, .slice A9 lE.length c9] 24) := ⟨_, rfl⟩
                have hb10 : Below w9.heap.size w9 w10 := by rw [hw10]; exact (Below.refl _ _).alloc (Nat.le_refl _) _
                have HY := Lib.hid (show Bk w10 w9.heap.size 24 [.int .i64 ec, .int .i64 es, .int .i64 et, .slice A9 lE.length c9] by rw [hw10]; exact Bk.new w9 _ _)
                have HB34 := Lib.hid (below_next HB25.out hb10 HB25.out.size)
                have HS35 := Lib.hid (Nat.le_trans HS26.out hb10.size)
                have HKX36 := Lib.hid (HKX27.out.kept hb10)
                have HKG37 := Lib.hid (HKG28.out.kept hb10)
                have HQ138 := Lib.hid (kept_cell HQ129.out hb10)
                have HQ239 := Lib.hid (kept_cell HQ230.out hb10)
                have HF140 := Lib.hid (HF131.out.below hb10)
                have HF241 := Lib.hid (HF232.out.below hb10)
                have HEV42 := Lib.hid (HEV33.out.below hb10)
                go_upto_region 46 with fail
                rw [← hw10]
                clear hw10 hb9 hb10 hre
                have n0 := HY.out.at_ (i := 0) rfl
                have n1 := HY.out.at_ (i := 1) rfl
                have n2 := HY.out.at_ (i := 2) rfl
                have n3 := HY.out.at_ (i := 3) rfl
                have k2 := HKX36.out.at_ (i := 2) rfl
                have z2 := HKX36.out.frozen 2
                have k3 := HKX36.out.at_ (i := 3) rfl
                have z3 := HKX36.out.frozen 3
                have k4 := HKX36.out.at_ (i := 4) rfl
                have z4 := HKX36.out.frozen 4
                have k5 := HKX36.out.at_ (i := 5) rfl
                have z5 := HKX36.out.frozen 5
                obtain ⟨w11, hw11⟩ : ∃ w11, w11 = ((((w10.setCell ⟨wr.heap.size, 2, none⟩ (.int .i64 ec)).setCell ⟨wr.heap.size, 3, none⟩ (.int .i64 es)).setCell ⟨wr.heap.size, 4, none⟩ (.int .i64 et)).setCell ⟨wr.heap.size, 5, none⟩ (.slice A9 lE.length c9)) := ⟨_, rfl⟩
                have HB43 := Lib.hid (below_set (below_set (below_set (below_set HB34.out (Nat.le_refl _) 2 (.int .i64 ec)) (Nat.le_refl _) 3 (.int .i64 es)) (Nat.le_refl _) 4 (.int .i64 et)) (Nat.le_refl _) 5 (.slice A9 lE.length c9))
                rw [← hw11] at HB43
                have HS44 := Lib.hid (Nat.le_trans HS35.out (grown_set (grown_set (grown_set (grown_set (grown_refl w10 (some wr.heap.size)) 2 (.int .i64 ec)) 3 (.int .i64 es)) 4 (.int .i64 et)) 5 (.slice A9 lE.length c9)).size)
                rw [← hw11] at HS44
                have HKX45 := Lib.hid ((((HKX36.out.set 2 (.int .i64 ec)).set 3 (.int .i64 es)).set 4 (.int .i64 et)).set 5 (.slice A9 lE.length c9))
                rw [← hw11] at HKX45
                have HKG46 := Lib.hid ((((HKG37.out.far (p := ⟨wr.heap.size, 2, none⟩) HGN.out (.int .i64 ec)).far (p := ⟨wr.heap.size, 3, none⟩) HGN.out (.int .i64 es)).far (p := ⟨wr.heap.size, 4, none⟩) HGN.out (.int .i64 et)).far (p := ⟨wr.heap.size, 5, none⟩) HGN.out (.slice A9 lE.length c9))
                rw [← hw11] at HKG46
                have HQ147 := Lib.hid (far1 (far1 (far1 (far1 HQ138.out HGF.out 2 (.int .i64 ec)) HGF.out 3 (.int .i64 es)) HGF.out 4 (.int .i64 et)) HGF.out 5 (.slice A9 lE.length c9))
                rw [← hw11] at HQ147
                have HQ248 := Lib.hid (far1 (far1 (far1 (far1 HQ239.out HGF.out 2 (.int .i64 ec)) HGF.out 3 (.int .i64 es)) HGF.out 4 (.int .i64 et)) HGF.out 5 (.slice A9 lE.length c9))
                rw [← hw11] at HQ248
                have HF149 := Lib.hid (HF140.out.keep (Kp.of_grown (grown_set (grown_set (grown_set (grown_set (grown_refl w10 (some wr.heap.size)) 2 (.int .i64 ec)) 3 (.int .i64 es)) 4 (.int .i64 et)) 5 (.slice A9 lE.length c9)) (fun b hb e => by injection e with e; have := HXS.out; unfold From at hb; omega)) fun _ h _ => h)
                rw [← hw11] at HF149
                have HF250 := Lib.hid (HF241.out.keep (Kp.of_grown (grown_set (grown_set (grown_set (grown_set (grown_refl w10 (some wr.heap.size)) 2 (.int .i64 ec)) 3 (.int .i64 es)) 4 (.int .i64 et)) 5 (.slice A9 lE.length c9)) (fun b hb e => by injection e with e; have := HXS.out; unfold From at hb; omega)) fun _ h _ => h)
                rw [← hw11] at HF250
                have HEV51 := Lib.hid (HEV42.out.keep (Kp.of_grown (grown_set (grown_set (grown_set (grown_set (grown_refl w10 (some wr.heap.size)) 2 (.int .i64 ec)) 3 (.int .i64 es)) 4 (.int .i64 et)) 5 (.slice A9 lE.length c9)) (fun b hb e => by injection e with e; have := HXS.out; unfold From at hb; omega)) fun _ h _ => h)
                rw [← hw11] at HEV51
                go_upto_region 47 with fail
                rw [← hw11]
                clear hw11 n0 n1 n2 n3 k2 k3 k4 k5 z2 z3 z4 z5
                have q2 := HQ248.out
                have HCL := Lib.hid (refReads_any D2 g2.length e2 g2 w11 HF250.out.sl HGL2.out)
                have k6 := HKX45.out.at_ (i := 6) rfl
                go_wp2_with fail
                clear k6
                refine HCL.out.mono ?_
                intro e w12 hh12
                obtain ⟨ok9, A12, c12, lV, rfl, hb12, hrl, hl1, hl2x⟩ := ltsP_one hh12
                have HL1 := Lib.hid hl1
                have HL2 := Lib.hid hl2x
                clear hh12 hl1 hl2x q2 HCL
                have HB52 := Lib.hid (below_next HB43.out hb12 HB43.out.size)
                have HS53 := Lib.hid (Nat.le_trans HS44.out hb12.size)
                have HKX54 := Lib.hid (HKX45.out.kept hb12)
                have HKG55 := Lib.hid (HKG46.out.kept hb12)
                have HQ156 := Lib.hid (kept_cell HQ147.out hb12)
                have HQ257 := Lib.hid (kept_cell HQ248.out hb12)
                have HF158 := Lib.hid (HF149.out.below hb12)
                have HF259 := Lib.hid (HF250.out.below hb12)
                have HEV60 := Lib.hid (HEV51.out.below hb12)
                have HLV61 := Lib.hid (hrl.keep (F' := From X1.heap.size) ⟨Nat.le_refl _, fun _ _ _ => rfl⟩ fun b hb _ => Nat.le_trans HS44.out hb)
                obtain ⟨w13, hw13⟩ : ∃ w13, w13 = w12.setCell ⟨wr.heap.size, 6, none⟩ (.slice A12 lV.length c12) := ⟨_, rfl⟩
                have k6 := HKX54.out.at_ (i := 6) rfl
                have z6 := HKX54.out.frozen 6
                have HB62 := Lib.hid (below_set HB52.out (Nat.le_refl _) 6 (.slice A12 lV.length c12))
                rw [← hw13] at HB62
                have HS63 := Lib.hid (Nat.le_trans HS53.out (grown_set (grown_refl w12 (some wr.heap.size)) 6 (.slice A12 lV.length c12)).size)
                rw [← hw13] at HS63
                have HKX64 := Lib.hid (HKX54.out.set 6 (.slice A12 lV.length c12))
                rw [← hw13] at HKX64
                have HKG65 := Lib.hid (HKG55.out.far (p := ⟨wr.heap.size, 6, none⟩) HGN.out (.slice A12 lV.length c12))
                rw [← hw13] at HKG65
                have HQ166 := Lib.hid (far1 HQ156.out HGF.out 6 (.slice A12 lV.length c12))
                rw [← hw13] at HQ166
                have HQ267 := Lib.hid (far1 HQ257.out HGF.out 6 (.slice A12 lV.length c12))
                rw [← hw13] at HQ267
                have HF168 := Lib.hid (HF158.out.keep (Kp.of_grown (grown_set (grown_refl w12 (some wr.heap.size)) 6 (.slice A12 lV.length c12)) (fun b hb e => by injection e with e; have := HXS.out; unfold From at hb; omega)) fun _ h _ => h)
                rw [← hw13] at HF168
                have HF269 := Lib.hid (HF259.out.keep (Kp.of_grown (grown_set (grown_refl w12 (some wr.heap.size)) 6 (.slice A12 lV.length c12)) (fun b hb e => by injection e with e; have := HXS.out; unfold From at hb; omega)) fun _ h _ => h)
                rw [← hw13] at HF269
                have HEV70 := Lib.hid (HEV60.out.keep (Kp.of_grown (grown_set (grown_refl w12 (some wr.heap.size)) 6 (.slice A12 lV.length c12)) (fun b hb e => by injection e with e; have := HXS.out; unfold From at hb; omega)) fun _ h _ => h)
                rw [← hw13] at HEV70
                have HLV71 := Lib.hid (HLV61.out.keep (Kp.of_grown (grown_set (grown_refl w12 (some wr.heap.size)) 6 (.slice A12 lV.length c12)) (fun b hb e => by injection e with e; have := HXS.out; unfold From at hb; omega)) fun _ h _ => h)
                rw [← hw13] at HLV71
                go_upto_region 48 with fail
                rw [← hw13]
                clear hw13 k6 z6 hb12 hrl
                go_cut [9] from 146 to 203 (fun v wx => v = .bool (ok9 && eb) ∧ wx = w13)
                case first =>
                  cases ok9 with
                  | false =>
                    go_wp2_with fail
                    go_meet
                    exact ⟨rfl, rfl⟩
                  | true =>
                    have hcc := HCO.out
                    go_wp2_with fail
                    go_meet
                    exact ⟨by first | rfl | (rw [hcc]; rfl), rfl⟩
                case rest =>
                  obtain ⟨rfl, hwc⟩ := hcut
                  have hwc' := hwc.symm
                  clear hwc
                  subst hwc'
                  obtain ⟨ok8, hok8⟩ : ∃ ok8, ok8 = (ok9 && eb) := ⟨_, rfl⟩
                  rw [← hok8]
                  have HOK8 := Lib.hid hok8
                  clear hok8
                  have k0 := HKX64.out.at_ (i := 0) rfl
                  have k1 := HKX64.out.at_ (i := 1) rfl
                  have k2 := HKX64.out.at_ (i := 2) rfl
                  have k3 := HKX64.out.at_ (i := 3) rfl
                  have k4 := HKX64.out.at_ (i := 4) rfl
                  have k5 := HKX64.out.at_ (i := 5) rfl
                  have k6 := HKX64.out.at_ (i := 6) rfl
                  have kg := HKG65.out.at_ (i := 12) rfl
                  have HBG := Lib.hid (fun g hg => HO.out.block g hg)
                  have HBL := Lib.hid (fun g hg => HO.out.block_lt g hg)
                  obtain ⟨hl0, css, hcl, hou, hin⟩ := HO.out.below HB62.out
                  have HL0 := Lib.hid hl0
                  have HCLX := Lib.hid hcl
                  have HIN := Lib.hid hin
                  have HRZ := Lib.hid HGR.out.size
                  have hs13 : w5.heap.size ≤ w13.heap.size := Nat.le_trans HGR.out.size HB62.out.size
                  have hj2 : acc.length ≤ 1024 := by have := HJ.out; omega
                  clear hl0 hcl hin
                  go_wp2_with (at_builtin
                               refine wpList_append_own_at _ rfl _ _ 26 rfl w5.heap.size 62 i0 _ 7 88 Try.underlying26 hi hz0 hz1 hz2 rfl (by omega) (.slice A' acc.length c') acc.length css.flatten rfl (World.ownsRow.alloc hou _) ⟨w13.heap.size, 0, none⟩ 1 1 [.int .i64 va, .int .i64 vb, .int .i64 ec, .int .i64 es, .int .i64 et, .slice A9 lE.length c9, .slice A12 lV.length c12] rfl rfl
                                 (news_alloc w13 [.int .i64 va, .int .i64 vb, .int .i64 ec, .int .i64 es, .int .i64 et, .slice A9 lE.length c9, .slice A12 lV.length c12] 62) (by simp [Value.oneCell']) (by simp only [maxLen]; omega) (by omega) (by simp; omega) ?_
                               intro v14 w14 hown14 hg14 hnil14 hrow14
                               obtain ⟨A14, c14, rfl⟩ := form_of hown14
                               have kgA := ((HKG65.out.alloc (.cells #[.int .i64 va, .int .i64 vb, .int .i64 ec, .int .i64 es, .int .i64 et, .slice A9 lE.length c9, .slice A12 lV.length c12] 62)).grown hg14 (fun e => own_ne hou HKG65.out (by decide) e.symm))
                               have kgB := kgA.at_ (i := 12) rfl
                               have kgZ := kgA.frozen 12)
                  have hb14 := (Below.refl w13.heap.size w13).alloc (Nat.le_refl _) (.cells #[.int .i64 va, .int .i64 vb, .int .i64 ec, .int .i64 es, .int .i64 et, .slice A9 lE.length c9, .slice A12 lV.length c12] 62)
                  have HPX := Lib.hid (show RPv.rd (From wr.heap.size) w13 [.int .i64 va, .int .i64 vb, .int .i64 ec, .int .i64 es, .int .i64 et, .slice A9 lE.length c9, .slice A12 lV.length c12] ⟨va, vb, ⟨ec, es, et, lE⟩, lV⟩ from ⟨A9, c9, A12, c12, rfl, HEV70.out.keep ⟨Nat.le_refl _, fun _ _ _ => rfl⟩ fun b hb _ => Nat.le_trans (Nat.le_of_lt HXS.out) hb, HLV71.out.keep ⟨Nat.le_refl _, fun _ _ _ => rfl⟩ fun b hb _ => Nat.le_trans (Nat.le_of_lt HXS.out) hb⟩)
                  have HX14 := Lib.hid (show OwnS RPv 62 (From w5.heap.size) w5.heap.size w14 A14 (acc.length + 1) c14 (acc ++ [⟨va, vb, ⟨ec, es, et, lE⟩, lV⟩]) from
                    OwnS.push (R := RPv) (G := From w5.heap.size) (F := From wr.heap.size) (w := w13.alloc (.cells #[.int .i64 va, .int .i64 vb, .int .i64 ec, .int .i64 es, .int .i64 et, .slice A9 lE.length c9, .slice A12 lV.length c12] 62)) HL0.out HCLX.out (fun j y cs hy hc => RPv.below (HIN.out j y cs hy hc) hb14) (RPv.below HPX.out hb14)
                      (fun b hb _ => ⟨Nat.le_trans HRZ.out hb, fun e => by have := HBL.out b e.symm; unfold From at hb; omega⟩) hg14 hown14 hrow14)
                  have HKE := Lib.hid (kgA.set 12 (.slice A14 (acc.length + 1) c14))
                  have HGE := Lib.hid (grown_set (grown_trans (grown_trans (grown_trans HGR.out (below_grown HB62.out (some w1.heap.size)) (.inl rfl)) (below_grown ((Below.refl w13.heap.size w13).alloc (Nat.le_refl _) (.cells #[.int .i64 va, .int .i64 vb, .int .i64 ec, .int .i64 es, .int .i64 et, .slice A9 lE.length c9, .slice A12 lV.length c12] 62)) (some w1.heap.size)) (.inl rfl)) hg14 (.inr fun g hg => HBG.out g hg)) 12 (.slice A14 (acc.length + 1) c14))
                  clear hown14 hg14 hrow14 hnil14 hb14 kgA kgB kgZ hou k0 k1 k2 k3 k4 k5 k6 kg
                  go_roundw
                  case rel =>
                    refine ⟨j + 1, ok8, rfl, by go_num, by omega, HGE.out, fun ho => ⟨acc ++ [⟨va, vb, ⟨ec, es, et, lE⟩, lV⟩], A14, c14, ?_, ?_, ?_, fun z hz => ?_⟩, fun ho => ?_⟩
                    · have e : (acc ++ [(⟨va, vb, ⟨ec, es, et, lE⟩, lV⟩ : Pv)]).length = acc.length + 1 := by simp
                      rw [e]
                      exact HKE.out
                    · have e : (acc ++ [(⟨va, vb, ⟨ec, es, et, lE⟩, lV⟩ : Pv)]).length = acc.length + 1 := by simp
                      rw [e]
                      exact HX14.out.set12 (by have := HB5.out.size; have := HWG.out; omega) 12 _ (fun b hb e => by have := HB5.out.size; have := HWG.out; unfold From at hb; omega)
                    · have h1 := HOK8.out
                      rw [ho] at h1
                      have h2 := Bool.and_eq_true_iff.1 h1.symm
                      rw [HSN2.out]; exact allX_snoc HAX.out (pv_of HF6.out HV6.out (dec_en (HE1.out h2.2)).1 (HL1.out h2.1).1)
                    · have h1 := HOK8.out
                      rw [ho] at h1
                      have h2 := Bool.and_eq_true_iff.1 h1.symm
                      rcases List.mem_append.1 hz with hz | hz
                      · exact HAH.out z hz
                      · rw [List.mem_singleton.1 hz]; exact ⟨(dec_en (HE1.out h2.2)).2, (HL1.out h2.1).2⟩
                    · refine HG.out.stuck HPS.out HXP.out HFP.out (bad8 (row_bad HRS.out HM.out (fun yy hy hh => ?_)))
                      obtain ⟨a0, a1, a2, h1, h2, h3, h4⟩ := pv_to hy
                      have h5 := HF6.out
                      rw [h1] at h5
                      injection h5 with h5
                      injection h5 with _ h5
                      injection h5 with h6 h5
                      injection h5 with h7 _
                      subst h6 h7
                      have h9 := HOK8.out
                      rw [ho] at h9
                      cases hk9 : ok9 with
                      | false => exact HL2.out hk9 _ h4 hh.2
                      | true =>
                        rw [hk9, Bool.true_and] at h9
                        have h8 := HE2.out h9.symm
                        rw [en_dec h3 hh.1] at h8
                        cases h8
                  case measure => simp [intOf]; omega
end Go.Proofs.Ytmgmmbgjmnklkaa
