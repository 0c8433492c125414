/-
  WatchOnce: a walk; no statement.
-/
import Derived.Test.YtbppokdaehaocaaDoorWatchScript
import Derived.Deep.CutRange
namespace Go.Proofs.YtbppokdaehaocaaDoor
set_option maxRecDepth 100000
open Go.RowKit
set_option linter.unusedVariables false
set_option maxRecDepth 100000

set_option maxHeartbeats 12800000 in
theorem watchOnce_walk (w : World) (hE : Env w) (v0 : Value) (ops : List Wo) (h0 : InWos w v0 ops) (kind : Int) (hkw : (Lit.int .i64 kind).wf = true) (v2 : Value) (ps : List (List UInt8)) (h2 : InTs w v2 ps) :
    Calls Tryd.prog 5 #[v0, .int .i64 kind, v2] w (Tr w) := by
  obtain ⟨SA, sc, rfl, hso, hbig⟩ := h0
  obtain ⟨PA, pc, rfl, hps, hpl⟩ := h2
  have HAL := Lib.hid (alive_ok w hE)
  have HGR := Lib.hid (fun W (hW : Below w.heap.size w W) => great_any SA sc ops W (hso.below hW) hbig)
  have HSO := Lib.hid hso
  have HPS := Lib.hid hps
  have HE := Lib.hid hE
  obtain ⟨n, hn⟩ : ∃ n, n = ops.length := ⟨_, rfl⟩
  have HNX := Lib.hid hn
  have hn63 : n ≤ 9223372036854775807 := by have := hso.1; have := hso.2.1; simp only [maxLen] at *; omega
  obtain ⟨m, hm⟩ : ∃ m, m = ps.length := ⟨_, rfl⟩
  have HMX := Lib.hid hm
  rw [← hm] at hpl
  rw [← hn] at HGR
  rw [← hn, ← hm]
  clear hso hps hE hn hm hbig hkw
  go_enter Tryd.func5, Tryd.ntmps5
  go_wp2_with fail
  refine (HAL.out).mono ?_
  rintro e w1 ⟨rfl, hb1⟩
  have HB1 := Lib.hid hb1
  clear hb1 HAL
  go_wp2_with fail
  refine (HGR.out w1 HB1.out).mono ?_
  rintro e w2 ⟨bg, q, rfl, hgr, rfl⟩
  have HB2 := Lib.hid (below_drewN HB1.out q)
  have HGV := Lib.hid hgr
  clear hgr HGR
  cases bg with
  | true =>
    go_wp2_with fail
    go_ret
    exact ⟨rfl, HB2.out⟩
  | false =>
  have HGN := Lib.hid (HGV.out rfl)
  clear HGV
  by_cases h100 : 100 < m
  · have y100 : (100 : Int) < (m : Int) := by omega
    go_wp2_with fail
    go_ret
    exact ⟨rfl, HB2.out⟩
  have y100 : ¬ (100 : Int) < (m : Int) := by omega
  have HM100 := Lib.hid (show m ≤ 100 by omega)
  have HNW := Lib.hid (newW_any (w1.drewN q))
  clear h100
  go_wp2_with fail
  refine (HNW.out).mono ?_
  intro e w3 h3
  obtain ⟨g, F1, rfl, t1, f1, b3⟩ := WOn.of_new HB2.out h3
  have T1 := Lib.hid t1
  clear h3 t1 f1 b3 HNW
  go_wp2_with fail
  go_loopw [8] (fun i wr => ∃ (k : Nat) (G : Nat → Prop), k ≤ n ∧ i = .int .i64 k ∧ WOn G w g (wFold [] ((wos ops).take k)) wr) (fun i _ => n - (intOf i).toNat)
  case atStart => exact ⟨0, F1, by omega, rfl, T1.out⟩
  case round =>
    obtain ⟨k, G, hk, rfl, htt⟩ := hrel
    by_cases hlt : k < n
    · have hkx : k < ops.length := by have := HNX.out; omega
      have hx : ops[k]? = some ops[k] := List.getElem?_eq_getElem hkx
      obtain ⟨a, B, d, C, e, rfl, hal, c0, c1, c2, c3, -, -, -, -⟩ := (HSO.out.below htt.be).wo6 hx
      have HN1 := Lib.hid (wFold_next [] (wos_at hx))
      generalize ops[k] = o at *
      obtain ⟨what, x, ops1, ops2⟩ := o
      have c1 : wr.cell? ⟨(a.add (k * 6)).block, (a.add (k * 6)).off + 1, none⟩ = some (.int .i64 x.client) := c1
      have c2 : wr.cell? ⟨(a.add (k * 6)).block, (a.add (k * 6)).off + 2, none⟩ = some (.int .i64 x.kind) := c2
      have c3 : wr.cell? ⟨(a.add (k * 6)).block, (a.add (k * 6)).off + 3, none⟩ = some (.string ⟨x.path.toArray⟩) := c3
      have HTT := Lib.hid htt
      have HLT := Lib.hid hlt
      have y1 : (0 : Int) ≤ (k : Int) := by omega
      have y2 : (k : Int) < (n : Int) := by omega
      clear htt hx hkx hlt hk hal
      go_wp2_with fail
      refine (HTT.out.add HE.out x).mono ?_
      rintro e w5 ⟨rfl, G2, t5, -, -⟩
      have T5 := Lib.hid t5
      clear t5
      go_wp2_with fail
      go_roundw
      case rel => exact ⟨k + 1, G2, HLT.out, by go_num, by rw [HN1.out]; exact T5.out⟩
      case measure => have := HLT.out; simp [intOf]; omega
    · rw [List.take_of_length_le (by rw [wos_len]; have := HNX.out; omega)] at htt
      generalize wFold [] (wos ops) = T at *
      have HTT := Lib.hid htt
      clear htt
      go_wp2_with fail
      refine HTT.out.all.mono ?_
      rintro e w5 ⟨A1, c1, rfl, ho5, hb5⟩
      have AS1 := Lib.hid (Aside.of_all ho5 HTT.out)
      have T5 := Lib.hid (HTT.out.kept hb5)
      have HL64 := Lib.hid HTT.out.ok.len
      obtain ⟨tn, htn⟩ : ∃ tn, tn = T.length := ⟨_, rfl⟩
      have HTN := Lib.hid htn
      rw [← htn]
      have HCT := Lib.hid (copyTexts_any PA m pc ps w5 (by have := HPS.out.below T5.out.be; rwa [← HMX.out] at this) (by have := HM100.out; omega))
      have HP5 := Lib.hid (show RdT w5 PA m ps by have := HPS.out.below T5.out.be; rwa [← HMX.out] at this)
      clear ho5 hb5 htn
      go_wp2_with fail
      refine HCT.out.mono ?_
      rintro e w6 ⟨A9, n9, c9, rfl, ho9, hb9⟩
      have hn9 : n9 = m := by have := ho9.len; have := HMX.out; omega
      subst hn9
      have T6 := Lib.hid (T5.out.kept hb9)
      have AS1 := Lib.hid (AS1.out.kept hb9)
      have HP6 := Lib.hid (HP5.out.below hb9)
      have HFI := Lib.hid (T6.out.fire kind A9 n9 c9 ps ho9.rd (by have := HM100.out; simp only [maxLen]; omega))
      clear ho9 hb9 HCT
      go_wp2_with fail
      refine HFI.out.mono ?_
      rintro e w7 ⟨A2, c2, F7, rfl, ho7, hn7, t7, f7, cg7⟩
      have T7 := Lib.hid t7
      have AS1 := Lib.hid (AS1.out.did cg7 f7)
      have AS2 := Lib.hid (show Aside F7 w7 A2 c2 (wFired kind ps T) from ⟨⟨_, ho7⟩, hn7⟩)
      have HP7 := Lib.hid (show RdT w7 PA n9 ps by have := HPS.out.below t7.be; rwa [← HMX.out] at this)
      obtain ⟨fl, hfl⟩ : ∃ fl, fl = (wFired kind ps T).length := ⟨_, rfl⟩
      have HFL := Lib.hid hfl
      rw [← hfl]
      clear ho7 hn7 t7 f7 cg7 hfl HFI
      go_wp2_with fail
      refine T7.out.all.mono ?_
      rintro e w8 ⟨A3, c3, rfl, ho8, hb8⟩
      have AS3 := Lib.hid (Aside.of_all ho8 T7.out)
      have T8 := Lib.hid (T7.out.kept hb8)
      have AS1 := Lib.hid (AS1.out.kept hb8)
      have AS2 := Lib.hid (AS2.out.kept hb8)
      have HP8 := Lib.hid (HP7.out.below hb8)
      obtain ⟨ll, hll⟩ : ∃ ll, ll = (wLeft kind ps T).length := ⟨_, rfl⟩
      have HLL := Lib.hid hll
      rw [← hll]
      have HSUM := Lib.hid (show fl + ll = tn by rw [HFL.out, hll, HTN.out]; exact filter_two (wHit kind ps) T)
      have HFI2 := Lib.hid (T8.out.fire kind PA n9 pc ps HP8.out (by have := HM100.out; simp only [maxLen]; omega))
      rw [fired_left] at HFI2
      have z1 : fl ≤ 64 := by have := HSUM.out; have := HL64.out; have := HTN.out; omega
      have z2 : ll ≤ 64 := by have := HSUM.out; have := HL64.out; have := HTN.out; omega
      have z4 : tn ≤ 64 := by have := HL64.out; have := HTN.out; omega
      have z3 : ((fl : Int) + (ll : Int) != (tn : Int)) = false := by have := HSUM.out; rw [bne_eq_false_iff_eq]; omega
      clear ho8 hb8 hll
      go_wp2_with fail
      refine HFI2.out.mono ?_
      rintro e w9 ⟨A4, c4, F9, rfl, -, -, t9, f9, cg9⟩
      have T9 := Lib.hid t9
      have AS1 := Lib.hid (AS1.out.did cg9 f9)
      have AS2 := Lib.hid (AS2.out.did cg9 f9)
      have AS3 := Lib.hid (AS3.out.did cg9 f9)
      have HP9 := Lib.hid (show RdT w9 PA n9 ps by have := HPS.out.below t9.be; rwa [← HMX.out] at this)
      clear t9 f9 cg9 HFI2
      go_wp2_with fail
      go_loopw [12, 13, 14] (fun sa sb si wz => ∃ (i : Nat), i ≤ tn ∧ si = .int .i64 i ∧ sa = .int .i64 (wFired kind ps (T.take i)).length ∧ sb = .int .i64 (wLeft kind ps (T.take i)).length ∧ Below w9.heap.size w9 wz) (fun _ _ si _ => tn - (intOf si).toNat)
      case atStart => exact ⟨0, by omega, rfl, rfl, rfl, Below.refl _ _⟩
      case round =>
        rename World => wz
        obtain ⟨i, hi, rfl, rfl, rfl, hbz⟩ := hrel
        by_cases hlt2 : i < tn
        · have hix : i < T.length := by have := HTN.out; omega
          have hx : T[i]? = some T[i] := List.getElem?_eq_getElem hix
          have HFN := Lib.hid (filter_len (p := wHit kind ps) hx)
          have HLN := Lib.hid (filter_len (p := fun x => !wHit kind ps x) hx)
          have HFAT := Lib.hid (fun (hp : wHit kind ps T[i] = true) => filter_at (p := wHit kind ps) hx hp)
          have HLAT := Lib.hid (fun (hp : (!wHit kind ps T[i]) = true) => filter_at (p := fun x => !wHit kind ps x) hx hp)
          have HRX := Lib.hid (fun W (hW : Below w9.heap.size w9 W) => (AS1.out.rds.below hW).wt3 hx)
          obtain ⟨a, ha⟩ : ∃ a, a = (wFired kind ps (T.take i)).length := ⟨_, rfl⟩
          obtain ⟨b, hb⟩ : ∃ b, b = (wLeft kind ps (T.take i)).length := ⟨_, rfl⟩
          rw [← ha, ← hb]
          have HFN := Lib.hid (show (wFired kind ps (T.take (i + 1))).length = a + if wHit kind ps T[i] = true then 1 else 0 by rw [ha]; exact HFN.out)
          have HLN := Lib.hid (show (wLeft kind ps (T.take (i + 1))).length = b + if (!wHit kind ps T[i]) = true then 1 else 0 by rw [hb]; exact HLN.out)
          have HFAT := Lib.hid (fun (hp : wHit kind ps T[i] = true) => show (wFired kind ps T)[a]? = some T[i] by rw [ha]; exact HFAT.out hp)
          have HLAT := Lib.hid (fun (hp : (!wHit kind ps T[i]) = true) => show (wLeft kind ps T)[b]? = some T[i] by rw [hb]; exact HLAT.out hp)
          generalize T[i] = x at *
          have HBZ := Lib.hid hbz
          have HLT2 := Lib.hid hlt2
          have y1 : (0 : Int) ≤ (i : Int) := by omega
          have y2 : (i : Int) < (tn : Int) := by omega
          clear ha hb hx hix hlt2 hbz
          go_wp2_with fail
          go_loopw [15, 16] (fun st sk wy => ∃ (k : Nat) (bt : Bool), k ≤ n9 ∧ sk = .int .i64 k ∧ st = .bool bt ∧ bt = decide (x.path ∈ ps.take k) ∧ Below w9.heap.size w9 wy) (fun _ sk _ => n9 - (intOf sk).toNat)
          case atStart => exact ⟨0, false, by omega, rfl, rfl, by simp, HBZ.out⟩
          case round =>
            rename World => wy
            obtain ⟨k, bt, hk, rfl, rfl, hbt, hby⟩ := hrel
            by_cases hlt3 : k < n9
            · obtain ⟨a1, rfl, _, d0, d1, d2⟩ := HRX.out wy hby
              obtain ⟨a3, rfl, _, g0⟩ := (HP9.out.below hby).at_ hlt3
              have HTK := Lib.hid (take_snocD ps [] k (by have := HMX.out; omega))
              generalize ps.getD k [] = p at *
              have y3 : (0 : Int) ≤ (k : Int) := by omega
              have y4 : (k : Int) < (n9 : Int) := by omega
              have HBY := Lib.hid hby
              have HLT3 := Lib.hid hlt3
              have HBT := Lib.hid hbt
              clear hby hlt3 hbt
              cases bt with
              | true =>
                have HBT2 := Lib.hid (show true = decide (x.path ∈ ps.take (k + 1)) by rw [HTK.out]; have := HBT.out; symm; simp at this ⊢; exact .inl this)
                go_upto_region 26 with fail
                go_quiet (fail)
                go_wp2_with fail
                go_roundw
                case rel => exact ⟨k + 1, true, HLT3.out, by go_num, rfl, HBT2.out, below_drewN HBY.out nq⟩
                case measure => have := HLT3.out; simp [intOf]; omega
              | false =>
                by_cases hxp : p = x.path
                · have HBT2 := Lib.hid (show true = decide (x.path ∈ ps.take (k + 1)) by rw [HTK.out]; simp [hxp])
                  have q1 : (p == x.path) = true := by simpa using hxp
                  clear hxp
                  go_upto_region 26 with fail
                  go_quiet (fail)
                  go_wp2_with fail
                  go_roundw
                  case rel => exact ⟨k + 1, true, HLT3.out, by go_num, rfl, HBT2.out, below_drewN HBY.out nq⟩
                  case measure => have := HLT3.out; simp [intOf]; omega
                · have HBT2 := Lib.hid (show false = decide (x.path ∈ ps.take (k + 1)) by
                    rw [HTK.out]
                    have := HBT.out
                    symm
                    simp at this ⊢
                    exact ⟨this, fun e => hxp e.symm⟩)
                  have q1 : (p == x.path) = false := by simpa using hxp
                  clear hxp
                  go_upto_region 26 with fail
                  go_quiet (fail)
                  go_wp2_with fail
                  go_roundw
                  case rel => exact ⟨k + 1, false, HLT3.out, by go_num, rfl, HBT2.out, below_drewN HBY.out nq⟩
                  case measure => have := HLT3.out; simp [intOf]; omega
            · rw [List.take_of_length_le (by have := HMX.out; omega)] at hbt
              have HBY := Lib.hid hby
              have HBT := Lib.hid hbt
              clear hby hbt
              cases bt with
              | true =>
                by_cases hkx : x.kind = kind
                · have HH := Lib.hid (show wHit kind ps x = true by unfold wHit; rw [decide_eq_true_eq]; exact ⟨hkx, by simpa using HBT.out.symm⟩)
                  have q2 : (x.kind == kind) = true := by simpa using hkx
                  clear hkx
                  have HFA := Lib.hid (HFAT.out HH.out)
                  have hal := (List.getElem?_eq_some_iff.1 HFA.out).1
                  have y5 : (a : Int) < (fl : Int) := by have := HFL.out; omega
                  have y6 : (0 : Int) ≤ (a : Int) := by omega
                  have y7 : decide ((fl : Int) ≤ (a : Int)) = false := decide_eq_false (by omega)
                  have y8 : decide (fl ≤ a) = false := decide_eq_false (by omega)
                  have ya : a ≤ 64 := by have := HFL.out; omega
                  obtain ⟨a1, rfl, _, d0, d1, d2⟩ := HRX.out wy HBY.out
                  obtain ⟨a2, rfl, _, e0, e1, e2⟩ := (AS2.out.rds.below HBY.out).wt3 HFA.out
                  have HFN2 := Lib.hid (show (wFired kind ps (T.take (i + 1))).length = a + 1 by rw [HFN.out, if_pos HH.out])
                  have HLN2 := Lib.hid (show (wLeft kind ps (T.take (i + 1))).length = b by rw [HLN.out, if_neg (by rw [HH.out]; simp)]; rfl)
                  have heq := neq_wt x x true (decide_eq_true rfl)
                  clear hal
                  go_upto_region 29 with fail
                  go_quiet (fail)
                  go_wp2_with fail
                  go_roundw
                  case rel => exact ⟨i + 1, HLT2.out, by go_num, by rw [HFN2.out]; go_num, by rw [HLN2.out], below_drewN HBY.out nq⟩
                  case measure => have := HLT2.out; simp [intOf]; omega
                · have HH := Lib.hid (show wHit kind ps x = false by unfold wHit; rw [decide_eq_false_iff_not]; exact fun h => hkx h.1)
                  have q2 : (x.kind == kind) = false := by simpa using hkx
                  clear hkx
                  have HLA := Lib.hid (HLAT.out (by rw [HH.out]; rfl))
                  have hal := (List.getElem?_eq_some_iff.1 HLA.out).1
                  have y5 : (b : Int) < (ll : Int) := by have := HLL.out; omega
                  have y6 : (0 : Int) ≤ (b : Int) := by omega
                  have y7 : decide ((ll : Int) ≤ (b : Int)) = false := decide_eq_false (by omega)
                  have y8 : decide (ll ≤ b) = false := decide_eq_false (by omega)
                  have ya : b ≤ 64 := by have := HLL.out; omega
                  obtain ⟨a1, rfl, _, d0, d1, d2⟩ := HRX.out wy HBY.out
                  obtain ⟨a3, rfl, _, e0, e1, e2⟩ := (AS3.out.rds.below HBY.out).wt3 HLA.out
                  have HFN2 := Lib.hid (show (wFired kind ps (T.take (i + 1))).length = a by rw [HFN.out, if_neg (by rw [HH.out]; simp)]; rfl)
                  have HLN2 := Lib.hid (show (wLeft kind ps (T.take (i + 1))).length = b + 1 by rw [HLN.out, if_pos (by rw [HH.out]; rfl)])
                  have heq := neq_wt x x true (decide_eq_true rfl)
                  clear hal
                  go_upto_region 32 with fail
                  go_quiet (fail)
                  go_wp2_with fail
                  go_roundw
                  case rel => exact ⟨i + 1, HLT2.out, by go_num, by rw [HFN2.out], by rw [HLN2.out]; go_num, below_drewN HBY.out nq⟩
                  case measure => have := HLT2.out; simp [intOf]; omega
              | false =>
                have HH := Lib.hid (show wHit kind ps x = false by unfold wHit; rw [decide_eq_false_iff_not]; exact fun h => by have := HBT.out; simp at this; exact this h.2)
                have HLA := Lib.hid (HLAT.out (by rw [HH.out]; rfl))
                have hal := (List.getElem?_eq_some_iff.1 HLA.out).1
                have y5 : (b : Int) < (ll : Int) := by have := HLL.out; omega
                have y6 : (0 : Int) ≤ (b : Int) := by omega
                have y7 : decide ((ll : Int) ≤ (b : Int)) = false := decide_eq_false (by omega)
                have y8 : decide (ll ≤ b) = false := decide_eq_false (by omega)
                have ya : b ≤ 64 := by have := HLL.out; omega
                obtain ⟨a1, rfl, _, d0, d1, d2⟩ := HRX.out wy HBY.out
                obtain ⟨a3, rfl, _, e0, e1, e2⟩ := (AS3.out.rds.below HBY.out).wt3 HLA.out
                have HFN2 := Lib.hid (show (wFired kind ps (T.take (i + 1))).length = a by rw [HFN.out, if_neg (by rw [HH.out]; simp)]; rfl)
                have HLN2 := Lib.hid (show (wLeft kind ps (T.take (i + 1))).length = b + 1 by rw [HLN.out, if_pos (by rw [HH.out]; rfl)])
                have heq := neq_wt x x true (decide_eq_true rfl)
                clear hal
                go_upto_region 32 with fail
                go_quiet (fail)
                go_wp2_with fail
                go_roundw
                case rel => exact ⟨i + 1, HLT2.out, by go_num, by rw [HFN2.out], by rw [HLN2.out]; go_num, below_drewN HBY.out nq⟩
                case measure => have := HLT2.out; simp [intOf]; omega
        · have HBZ := Lib.hid hbz
          have HNW3 := Lib.hid (newW_any wz)
          have HBW := Lib.hid (T9.out.be.trans (hbz.mono T9.out.be.size))
          have HL3 := Lib.hid ((AS3.out.kept hbz).rds)
          have HOK := Lib.hid (show WOk (wLeft kind ps T) from T8.out.ok)
          clear hbz hi
          go_wp2_with fail
          refine (HNW3.out).mono ?_
          intro e wu hu
          obtain ⟨gu, Fu, rfl, tu, fu, bu⟩ := WOn.of_new HBW.out hu
          have TU := Lib.hid tu
          have HL4 := Lib.hid (HL3.out.below bu)
          have HLD := Lib.hid (show Calls Tryd.prog 25 #[.pointer (some ⟨gu, 0, none⟩), .slice A3 ll c3] wu (MvW Fu w gu (wLeft kind ps T) (.bool true) wu) from by
            have := tu.load HE.out A3 c3 (wLeft kind ps T) AllB HL4.out (by have := HOK.out.len; omega)
            rw [wLoaded, wTakes, if_pos HOK.out, decide_eq_true HOK.out] at this
            rwa [← HLL.out] at this)
          have AS3 := Lib.hid (show Aside Fu wu A3 c3 (wLeft kind ps T) from ((AS3.out.kept HBZ.out).kept bu).1 |> fun h => ⟨h, fun b hb hf => by
            obtain ⟨base, h⟩ := (AS3.out.kept HBZ.out).1
            have h1 := h.lt b hb
            have h2 := fu b hf
            omega⟩)
          clear hu tu fu bu HNW3
          go_wp2_with fail
          refine HLD.out.mono ?_
          rintro e wv ⟨rfl, Fv, tv, fv, cgv⟩
          have TV := Lib.hid tv
          have AS3 := Lib.hid (AS3.out.did cgv fv)
          clear tv fv cgv HLD
          go_wp2_with fail
          refine TV.out.all.mono ?_
          rintro e wq ⟨A7, c7, rfl, ho7, hb7⟩
          have HSM := Lib.hid (show Calls Tryd.prog 17 #[.slice A7 (wLeft kind ps T).length c7, .slice A3 ll c3] wq (Ans (.bool true) wq) from by
            have := sameW_any A7 A3 c7 c3 wq AllB AllB (wLeft kind ps T) (wLeft kind ps T) (ho7.rds fun _ _ => trivial) ((AS3.out.kept hb7).rds) (by have := HOK.out.len; omega)
            rw [decide_eq_true rfl, ← HLL.out] at this
            rw [← HLL.out]
            exact this)
          have TQ := Lib.hid (TV.out.kept hb7)
          clear ho7 hb7
          go_wp2_with fail
          refine HSM.out.mono ?_
          rintro e wr2 ⟨rfl, hbr⟩
          have TR := Lib.hid (TQ.out.kept hbr)
          clear hbr
          go_wp2_with fail
          go_ret
          exact ⟨rfl, TR.out.be⟩
end Go.Proofs.YtbppokdaehaocaaDoor
