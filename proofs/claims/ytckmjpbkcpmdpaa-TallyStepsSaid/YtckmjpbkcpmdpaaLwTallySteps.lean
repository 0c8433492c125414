/-
  TallySteps: the law's walk. No statement.
-/
import Derived.Test.YtckmjpbkcpmdpaaTallySteps1
import Derived.Deep.RegionHeld3
import Derived.Deep.CutRange
namespace Go.Proofs.Ytckmjpbkcpmdpaa
open Go.RowKit Go.Sort Go.Shelf
set_option linter.unusedVariables false
set_option maxRecDepth 100000

set_option maxHeartbeats 25600000 in
theorem tallySteps_walk (w : World) (n : Int) (hn0 : (Lit.int .i64 n).wf = true) (v : Value) (ops : List Ov) (hv : InOvs w v ops) (k : Int) (hk0 : (Lit.int .i64 k).wf = true) :
    Calls Try.prog 3 #[.int .i64 n, v, .int .i64 k] w (Tr w) := by
  obtain ⟨A, m, c, rfl, hmc, hcm, hro, _⟩ := hv
  have hn := wf_i64 hn0
  have hk := wf_i64 hk0
  simp only [maxLen] at hcm
  have hm63 : m ≤ 9223372036854775807 := by omega
  have HR := Lib.hid hro
  have HAL := Lib.hid (alive_votes w)
  clear hro hn0 hk0 hmc hcm
  go_enter Try.func3, Try.ntmps3
  go_wp2_with fail
  refine HAL.out.mono ?_
  rintro e w1 ⟨rfl, hb1⟩
  have HB1 := Lib.hid hb1
  have HG := Lib.hid (great_votes A m c ops w1 (HR.out.below hb1) hm63)
  clear hb1
  go_wp2_with fail
  refine HG.out.mono ?_
  rintro e w2 ⟨b, q2, rfl, hsz, rfl⟩
  have HB2 := Lib.hid (below_drewN HB1.out q2)
  cases b with
  | true =>
    clear hsz
    go_wp2_with fail
    go_ret
    exact ⟨rfl, HB2.out⟩
  | false =>
    have HSZ := Lib.hid (hsz rfl)
    clear hsz
    have HNW := Lib.hid (new_tally n (w1.drewN q2) hn)
    have hm200 : m ≤ 200 := by have := HSZ.out.2; have := HR.out.1; omega
    go_wp2_with fail
    refine HNW.out.mono ?_
    rintro e w3 hmd
    obtain ⟨g, F, rfl, hon, _, _⟩ := MadeT.on HB2.out HB2.out.size hmd
    have HON := Lib.hid hon
    have HRN := Lib.hid (refNew_any n w3 hn)
    clear hmd hon HNW HG HAL
    go_wp2_with fail
    refine HRN.out.mono ?_
    rintro e w4 ⟨A4, n4, c4, G4, rfl, hn4, hrm, hG4, hb4⟩
    generalize tyVoters n = N at *
    have hon4 := HON.out.kept hb4
    have hba := (Below.refl w4.heap.size w4).alloc (Nat.le_refl _) (.cells #[.slice A4 n4 c4] 29)
    have HTW := Lib.hid (show Tw w (w4.alloc (.cells #[.slice A4 n4 c4] 29)) F G4 g w4.heap.size N [] [] A4 n4 c4 from
      ⟨hon4.kept hba, hrm.kept hba, fun i hi hf => by have h1 := hG4 i hi; have h2 := HON.out.lt i hf; omega, Bk.new w4 29 [.slice A4 n4 c4], fun hf => by have := hon4.lt _ hf; omega, fun hf => by have := hrm.lt _ hf; omega, hon4.sz⟩)
    obtain ⟨gb, hgb⟩ : ∃ gb, gb = w4.heap.size := ⟨_, rfl⟩
    rw [← hgb] at HTW
    clear hrm hG4 hb4 hon4 hba HON HRN
    go_wp2_with fail
    rw [← hgb]
    clear hgb
    go_loopw [9, 10] (fun i _ wr => ∃ (j : Nat) (F G : Nat → Prop) (vs : List Vo) (A : Option Addr) (c : Nat), j ≤ m ∧ i = .int .i64 j ∧ Tw w wr F G g gb N vs vs A n4 c) (fun i _ _ => m - (intOf i).toNat)
    case atStart => exact ⟨0, F, G4, [], A4, c4, by omega, rfl, HTW.out⟩
    case round =>
      obtain ⟨j, F3, G3, vs, A3, c3', hj, rfl, ht3⟩ := hrel
      by_cases hlt : j < m
      · have hjx : j < ops.length := by have := HR.out.1; omega
        have hx : ops[j]? = some ops[j] := List.getElem?_eq_getElem hjx
        obtain ⟨x, B, p, pc, C, q, qc, rfl, hf, hok⟩ := HR.out.at_ hx
        have hkl := ovW_mem (List.getElem_mem hjx)
        have HW := Lib.hid (show ops[j].key.length ≤ 4000 ∧ ops[j].load.length ≤ 4000 by have := HSZ.out.1; omega)
        generalize ops[j] = o at *
        have HF4 := Lib.hid hf
        have HOK := Lib.hid hok
        have hfr := hf.below ht3.on.be
        obtain ⟨c0, c1, c2, c3, _, _⟩ := hfr
        have hxl := cell_lt c0
        have kb0 := Bk.new wr 33 [.int .i64 o.voter, .int .i64 o.rank, .slice B p pc, .slice C q qc]
        have HKB := Lib.hid (show Bk (wr.alloc (.cells #[.int .i64 o.voter, .int .i64 o.rank, .slice B p pc, .slice C q qc] 33)) wr.heap.size 33 [.int .i64 o.voter, .int .i64 o.rank, .slice B p pc, .slice C q qc] from kb0)
        have HT3 := Lib.hid (ht3.kept ((Below.refl wr.heap.size wr).alloc (Nat.le_refl _) (.cells #[.int .i64 o.voter, .int .i64 o.rank, .slice B p pc, .slice C q qc] 33)))
        have HLO := Lib.hid (show (∀ i, F3 i → i < wr.heap.size) ∧ (∀ i, G3 i → i < wr.heap.size) ∧ gb < wr.heap.size ∧ w.heap.size ≤ wr.heap.size from ⟨ht3.on.lt, ht3.rf.lt, ht3.bx.lt, ht3.on.sz⟩)
        have HSP := Lib.hid (spare_in (pc := pc) (HF4.out.kB.rd.below HT3.out.on.be) HW.out.1 (Below.refl _ _))
        have hp : o.key.length = p := by have := HF4.out.kB.rd.1; rw [List.length_map] at this; exact this
        have y1 : (0 : Int) ≤ (j : Int) := by omega
        have y2 : (j : Int) < (m : Int) := by omega
        have w1' : IntKind.i64.wrap ((j : Int) + 1) = (j : Int) + 1 := by simp only [IntKind.wrap, IntKind.bits, IntKind.signed]; simp; omega
        clear hf hok hkl hx hjx ht3 kb0
        go_wp2_with fail
        refine HSP.out.mono ?_
        rintro e w5 ⟨A5, n5, c5, rfl, ho5, hb5, _⟩
        have HT5 := Lib.hid (HT3.out.kept hb5)
        have kb := HKB.out.kept hb5
        have HKB5 := Lib.hid kb
        obtain ⟨k0, k1, k2, k3⟩ := kb.four
        have t5 := HT5.out.bx.at_ (i := 0) rfl
        have HB5 := Lib.hid (And.intro (fun i hi => World.ownsRow.lt ho5 i hi) (own_cap ho5))
        have HO5 := Lib.hid ho5
        have HS5 := Lib.hid hb5.size
        have HPR := Lib.hid (refPut_any o.voter o.rank o.key o.load B p pc C q qc G3 A3 n4 c3' N vs w5 HT5.out.rf HT5.out.n64 (HF4.out.kB.rd.below HT5.out.on.be) (HF4.out.kC.rd.below HT5.out.on.be) (by have := HW.out.1; omega) (by have := HW.out.2; omega) HOK.out.2.1.2)
        clear ho5 hb5 kb c0 c1 c2 c3
        go_wp2_with fail
        refine HPR.out.mono ?_
        rintro e w6 ⟨A6, c6, G6, rfl, hrf6, hG6, hb6⟩
        have HT6 := Lib.hid (HT5.out.ref hb6 (us' := tyAfter N vs o.vo) hrf6 hG6 (.cells #[.slice A6 n4 c6] 29))
        have hbs := (HB5.out)
        have t6 := (HT5.out.bx.kept hb6).alloc (.cells #[.slice A6 n4 c6] 29)
        have t6a := t6.at_ (i := 0) rfl
        have t6f := t6.frozen 0
        have hch := (Chg.of_below (fun i => i = gb) (hb6.trans ((Below.refl w6.heap.size w6).alloc (Nat.le_refl _) (.cells #[.slice A6 n4 c6] 29) |>.mono hb6.size))).set (g := gb) (.inl rfl) 0 (.slice A6 n4 c6)
        have HKB6 := Lib.hid (hch.bk HKB5.out (fun e => by have e' : wr.heap.size = gb := e; have := HLO.out; omega))
        have HO6 := Lib.hid (show OwnB _ _ A5 n5 c5 (o.key ++ marks 8) from hch.ownB HO5.out (fun i hi e => by have e' : i = gb := e; have h1 := hbs.1 i hi; have h2 := HLO.out; simp at h1; omega))
        have HX6 := Lib.hid (show ∀ i, (Value.slice A5 n5 c5).ownBlock = some i → ¬ F3 i ∧ ¬ G6 i ∧ i ≠ gb ∧ w.heap.size ≤ i ∧ i ≠ wr.heap.size from fun i hi => by
          have h1 := hbs.1 i hi
          have h2 := HLO.out
          simp at h1
          exact ⟨fun q => by have := h2.1 i q; omega, fun q => (hG6 i q).elim (fun q => by have := h2.2.1 i q; omega) (by omega), by omega, by omega, by omega⟩)
        have HN6 := Lib.hid (show ¬ F3 wr.heap.size ∧ ¬ G6 wr.heap.size from ⟨fun q => by have := HLO.out.1 _ q; omega, fun q => (hG6 _ q).elim (fun q => by have := HLO.out.2.1 _ q; omega) (fun q => by have := HS5.out; simp at this; omega)⟩)
        clear hrf6 hG6 hb6 hbs hch t6 k0 k1 k2 k3 t5
        go_upto_region 16 with fail
        obtain ⟨W7, hW7⟩ : ∃ W7, W7 = World.setCell (w6.alloc (.cells #[.slice A6 n4 c6] 29)) ⟨gb, 0, none⟩ (.slice A6 n4 c6) := ⟨_, rfl⟩
        rw [← hW7] at HT6 HKB6 HO6 ⊢
        clear hW7 t6a t6f
        have hcp := (own_cap HO6.out).1
        have hn5 : n5 = p + 8 := by have := HO6.out.len; rw [List.length_append, marks_len] at this; omega
        have HN5 := Lib.hid hn5
        have HP := Lib.hid hp
        have a1 : (0 : Int) ≤ (p : Int) := by omega
        have a2 : (p : Int) ≤ (c5 : Int) := by omega
        clear hn5 hcp hp
        obtain ⟨T, hT⟩ : ∃ T, tyTakes N vs o.voter o.rank = T := ⟨_, rfl⟩
        rw [hT]
        have HTT := Lib.hid hT
        clear hT
        go_cut [91] from 41 to 211 (fun r wx => r = .bool false ∧ ∃ F7, Tw w wx F7 G6 g gb N (tyAfter N vs o.vo) (tyAfter N vs o.vo) A6 n4 c6 ∧ OwnB wx (wr.heap.size + 1) A5 n5 c5 (o.key ++ marks 8) ∧
          (∀ i, (Value.slice A5 n5 c5).ownBlock = some i → ¬ F7 i ∧ ¬ G6 i ∧ i ≠ gb ∧ w.heap.size ≤ i ∧ i ≠ wr.heap.size) ∧ Bk wx wr.heap.size 33 [.int .i64 o.voter, .int .i64 o.rank, .slice B p pc, .slice C q qc])
        case first => as_aux_lemma =>
          have HRL := Lib.hid (HF4.out.kC.rd.below HT6.out.on.be)
          have hw := Below.refl W7.heap.size W7
          have kb := HKB6.out
          have z0 : (T == T) = true := by simp
          go_region_held3 (fun w' => w'.cell? ⟨wr.heap.size, 0, none⟩ = some (.int .i64 o.voter) ∧ w'.cell? ⟨wr.heap.size, 1, none⟩ = some (.int .i64 o.rank) ∧ w'.cell? ⟨wr.heap.size, 2, none⟩ = some (.slice B p pc) ∧ w'.cell? ⟨wr.heap.size, 3, none⟩ = some (.slice C q qc)) (first | with_reducible exact (bk_drew kb).four | with_reducible exact kb.four | go_keep)
            (first
            | (go_at_call 16; with_reducible refine (copy_in HRL.out HW.out.2 ?_).mono ?_
               focus first | with_reducible exact hw | with_reducible exact below_drew hw
               rintro e w8 ⟨A8, n8, c8, rfl, ho8, hw', hx⟩
               first | replace kb := kb.kept hx | replace kb := bk_keptD kb hx
               replace hw := hw'
               clear hw' hx)
            | (go_at_call 15; with_reducible refine (put_own HT6.out.on o HTT.out HOK.out HW.out ?_ HP.out HO6.out ?_ ?_).mono ?_
               focus with_reducible exact hw
               focus exact fun i hi => (HX6.out i hi).1
               focus with_reducible exact ho8
               rintro e w9 ⟨rfl, F9, hon9, hF9, hc9⟩
               replace kb := hc9.bk (kb) (fun hf => HN6.out.1 hf)
               have HT9 := Lib.hid (HT6.out.put hw hon9 hF9 hc9)
               have HO9 := Lib.hid (hc9.ownB (HO6.out.below hw) (fun i hi hf => (HX6.out i hi).1 hf))
               have HX9 := Lib.hid (show ∀ i, (Value.slice A5 n5 c5).ownBlock = some i → ¬ F9 i ∧ ¬ G6 i ∧ i ≠ gb ∧ w.heap.size ≤ i ∧ i ≠ wr.heap.size from fun i hi => ⟨fun hf => (hF9 i hf).elim (HX6.out i hi).1 (fun q => by have := (World.ownsRow.lt HO6.out i hi).2; omega), (HX6.out i hi).2⟩)
               have HRS := Lib.hid (HF4.out.kB.rd.below HT9.out.on.be)
               have hv := Below.refl w9.heap.size w9
               clear hw ho8 hon9 hF9 hc9)
            | (go_at_call 13; with_reducible refine (spare_in HRS.out HW.out.1 ?_).mono ?_
               focus first | with_reducible exact hv | with_reducible exact below_drew hv
               rintro e w10 ⟨A10, n10, c10, rfl, ho10, hv', hx⟩
               first | replace kb := kb.kept hx | replace kb := bk_keptD kb hx
               replace hv := hv'
               clear hv' hx)
            | (go_at_call 17; with_reducible refine (same_in2 HO9.out ho10 ?_ ?_).mono ?_
               focus first | with_reducible exact hv | with_reducible exact below_drew hv
               focus first | with_reducible exact Below.refl _ _ | with_reducible exact below_drew (Below.refl _ _)
               rintro e w11 ⟨rfl, q11, rfl⟩
               replace kb := kb.drewN q11
               replace hv := below_drewN hv q11
               clear ho10))
          all_goals
            have HT11 := Lib.hid (HT9.out.kept hv)
            have HO11 := Lib.hid (HO9.out.below hv)
            have HKB11 := Lib.hid kb
            clear kb hv
            go_wp2_with fail
            go_meet
            exact ⟨rfl, _, HT11.out, by simpa using HO11.out, HX9.out, HKB11.out⟩
        case rest =>
          obtain ⟨rfl, F7, ht7, ho7, hx7, kb7⟩ := hcut
          obtain ⟨wo, hwo⟩ : ∃ wo, wo = wr := ⟨_, rfl⟩
          subst hwo
          have HT7 := Lib.hid ht7
          have HX7 := Lib.hid hx7
          have HKB7 := Lib.hid kb7
          have HWI := Lib.hid (wipe_start ho7)
          have HVS : ∃ us, us = tyAfter N vs o.vo := ⟨_, rfl⟩
          obtain ⟨us, hus⟩ := HVS
          rw [← hus] at HT7
          clear hus ht7 hx7 kb7 ho7
          go_wp2_with fail
          go_loopw [14] (fun i wx => ∃ jj : Nat, jj ≤ n5 ∧ i = .int .i64 jj ∧ Wipe wc (wo.heap.size + 1) A5 n5 c5 wx) (fun i _ => n5 - (intOf i).toNat)
          case atStart => exact ⟨0, Nat.zero_le _, rfl, HWI.out⟩
          case round =>
            clear HWI
            obtain ⟨jj, hjj, rfl, hwi⟩ := hrel
            by_cases hkn : jj < n5
            · obtain ⟨gx, x0', rfl, x0, x1, hnx⟩ := wipe_here hwi hkn
              have HNX := Lib.hid hnx
              have HKN := Lib.hid hkn
              have y5 : (0 : Int) ≤ (jj : Int) := by omega
              have y6 : (jj : Int) < (n5 : Int) := by omega
              have w2' : IntKind.i64.wrap ((jj : Int) + 1) = (jj : Int) + 1 := by have h1 := HN5.out; have h2 := HP.out; have h3 := HW.out.1; simp only [IntKind.wrap, IntKind.bits, IntKind.signed]; simp; omega
              clear hwi hnx hkn
              go_wp2_with fail
              go_roundw
              case rel => exact ⟨jj + 1, HKN.out, by go_num, HNX.out _⟩
              case measure => have := HKN.out; simp [intOf]; omega
            · have y6 : ¬ (jj : Int) < (n5 : Int) := by omega
              obtain ⟨_, _, hch⟩ := hwi
              have HT8 := Lib.hid (HT7.out.chg hch (fun i e => ⟨(HX7.out i e).2.2.2.1, (HX7.out i e).1, (HX7.out i e).2.1, (HX7.out i e).2.2.1⟩))
              have HKB8 := Lib.hid (hch.bk HKB7.out (fun e => (HX7.out _ e).2.2.2.2 rfl))
              clear hch hkn HT7 HKB7
              have HAG := Lib.hid (agree_any k F7 g N us wr HT8.out.on.tl hk)
              go_wp2_with fail
              refine HAG.out.mono ?_
              rintro e w12 ⟨A12, n12, c12, B12, m12, q12, rfl, hk12, hi12, hb12⟩
              have HT12 := Lib.hid (HT8.out.kept hb12)
              have HKB12 := Lib.hid (HKB8.out.kept hb12)
              have HK12 := Lib.hid hk12
              have HI12 := Lib.hid hi12
              have HAR := Lib.hid (refAgree_any k G6 A6 n4 c6 N us w12 HT12.out.rf HT12.out.n64 hk)
              have t12 := HT12.out.bx.at_ (i := 0) rfl
              clear hk12 hi12 hb12 HAG HT8 HKB8
              go_wp2_with fail
              refine HAR.out.mono ?_
              rintro e w13 ⟨A13, n13, c13, B13, m13, q13, rfl, hk13, hi13, hb13⟩
              have HT13 := Lib.hid (HT12.out.kept hb13)
              have HKB13 := Lib.hid (HKB12.out.kept hb13)
              have HK12b := Lib.hid (HK12.out.below hb13)
              have HI12b := Lib.hid (HI12.out.below hb13)
              have HK13 := Lib.hid hk13
              have HI13 := Lib.hid hi13
              have HRE := Lib.hid (reach_any k F7 g N us w13 HT13.out.on.tl hk)
              clear hk13 hi13 hb13 HAR t12 HT12 HKB12 HK12 HI12
              generalize ((tyAgree us k).getD default).rank = ar at *
              generalize (tyAgree us k).isSome = ab at *
              go_wp2_with fail
              refine HRE.out.mono ?_
              rintro e w14 ⟨rfl, hb14⟩
              have HT14 := Lib.hid (HT13.out.kept hb14)
              have HKB14 := Lib.hid (HKB13.out.kept hb14)
              have HBB14 := Lib.hid hb14
              have HRR := Lib.hid (refReach_any k G6 A6 n4 c6 N us w14 HT14.out.rf HT14.out.n64 hk)
              have t14 := HT14.out.bx.at_ (i := 0) rfl
              clear hb14 HRE HT13 HKB13
              go_wp2_with fail
              refine HRR.out.mono ?_
              rintro e w15 ⟨rfl, hb15⟩
              have HT15 := Lib.hid (HT14.out.kept hb15)
              have HKB15 := Lib.hid (HKB14.out.kept hb15)
              have HBB15 := Lib.hid (HBB14.out.trans (hb15.mono HBB14.out.size))
              obtain ⟨k0, k1, k2, k3⟩ := HKB15.out.four
              have HRA := Lib.hid (rank_any o.voter F7 g N us w15 HT15.out.on.tl)
              clear hb15 HRR HT14 HKB14 t14
              generalize (tyReach us k).getD 0 = er at *
              generalize (tyReach us k).isSome = eb at *
              go_wp2_with fail
              refine HRA.out.mono ?_
              rintro e w16 ⟨rfl, hb16⟩
              have HT16 := Lib.hid (HT15.out.kept hb16)
              have HKB16 := Lib.hid (HKB15.out.kept hb16)
              have HBB16 := Lib.hid (HBB15.out.trans (hb16.mono HBB15.out.size))
              clear k0 k1 k2 k3
              obtain ⟨k0, k1, k2, k3⟩ := HKB16.out.four
              have t16 := HT16.out.bx.at_ (i := 0) rfl
              have HRB := Lib.hid (refRank_any o.voter G6 A6 n4 c6 N us w16 HT16.out.rf HT16.out.n64)
              clear hb16 HRA HT15 HKB15
              go_wp2_with fail
              refine HRB.out.mono ?_
              rintro e w17 ⟨rfl, hb17⟩
              have HT17 := Lib.hid (HT16.out.kept hb17)
              have HKB17 := Lib.hid (HKB16.out.kept hb17)
              have HBB17 := Lib.hid (HBB16.out.trans (hb17.mono HBB16.out.size))
              clear k0 k1 k2 k3 t16
              obtain ⟨k0, k1, k2, k3⟩ := HKB17.out.four
              have t17 := HT17.out.bx.at_ (i := 0) rfl
              have HK12c := Lib.hid (HK12b.out.below HBB17.out)
              have HK13c := Lib.hid (HK13.out.below HBB17.out)
              have HI12c := Lib.hid (HI12b.out.below HBB17.out)
              have HI13c := Lib.hid (HI13.out.below HBB17.out)
              have HRK := Lib.hid (HF4.out.kB.rd.below HT17.out.on.be)
              clear hb17 HRB HT16 HKB16 HK12b HK13 HI12b HI13
              generalize ((tyKnown us o.voter).getD default).rank = kr at *
              generalize (tyKnown us o.voter).isSome = kbb at *
              have z1 : (ar == ar) = true := by simp
              have z2 : (er == er) = true := by simp
              have z3 : (kr == kr) = true := by simp
              have z4 : (ab == ab) = true := by simp
              have z5 : (eb == eb) = true := by simp
              have z6 : (kbb == kbb) = true := by simp
              have hw := Below.refl w17.heap.size w17
              have kb := HKB17.out
              have kt := HT17.out.bx
              clear k0 k1 k2 k3 t17
              as_aux_lemma =>
                go_upto_region 28 with fail
                simp only [List.append_eq, List.cons_append, List.nil_append]
                go_region_held3 (fun w' => w'.cell? ⟨gb, 0, none⟩ = some (.slice A6 n4 c6) ∧ w'.cell? ⟨wo.heap.size, 0, none⟩ = some (.int .i64 o.voter) ∧ w'.cell? ⟨wo.heap.size, 1, none⟩ = some (.int .i64 o.rank) ∧ w'.cell? ⟨wo.heap.size, 2, none⟩ = some (.slice B p pc) ∧ w'.cell? ⟨wo.heap.size, 3, none⟩ = some (.slice C q qc)) (first | with_reducible exact ⟨(bk_drew kt).at_ (i := 0) rfl, (bk_drew kb).four⟩ | with_reducible exact ⟨kt.at_ (i := 0) rfl, kb.four⟩ | go_keep)
                  (first
                  | (go_at_call 17; with_reducible refine (sameB_in (Y := w17) HK12c.out HK13c.out ?_ ?_ ?_).mono ?_
                     focus first | with_reducible exact hw | with_reducible exact below_drew hw
                     focus first | with_reducible exact hw | with_reducible exact below_drew hw
                     focus first | with_reducible exact hw | with_reducible exact below_drew hw
                     rintro e w18 ⟨rfl, hw', hx⟩
                     first | replace kb := kb.kept hx | replace kb := bk_keptD kb hx
                     first | replace kt := kt.kept hx | replace kt := bk_keptD kt hx
                     replace hw := hw'
                     clear hw' hx)
                  | (go_at_call 24; with_reducible refine (sameI_in (Y := w17) HI12c.out HI13c.out ?_ ?_ ?_).mono ?_
                     focus first | with_reducible exact hw | with_reducible exact below_drew hw
                     focus first | with_reducible exact hw | with_reducible exact below_drew hw
                     focus first | with_reducible exact hw | with_reducible exact below_drew hw
                     rintro e w19 ⟨rfl, hw', hx⟩
                     first | replace kb := kb.kept hx | replace kb := bk_keptD kb hx
                     first | replace kt := kt.kept hx | replace kt := bk_keptD kt hx
                     replace hw := hw'
                     clear hw' hx)
                  | (go_at_call 25; with_reducible refine (HT17.out.load_in o.voter ?_).mono ?_
                     focus first | with_reducible exact hw | with_reducible exact below_drew hw
                     rintro e w20 ⟨A20, n20, c20, rfl, ho20, hw', hx⟩
                     first | replace kb := kb.kept hx | replace kb := bk_keptD kb hx
                     first | replace kt := kt.kept hx | replace kt := bk_keptD kt hx
                     replace hw := hw'
                     clear hw' hx)
                  | (go_at_call 26; with_reducible refine (HT17.out.refLoad_in o.voter ?_).mono ?_
                     focus first | with_reducible exact hw | with_reducible exact below_drew hw
                     rintro e w21 ⟨A21, n21, c21, rfl, ho21, hw', hx⟩
                     first | replace ho20 := ho20.below hx | replace ho20 := ownB_belowD ho20 hx
                     first | replace kb := kb.kept hx | replace kb := bk_keptD kb hx
                     first | replace kt := kt.kept hx | replace kt := bk_keptD kt hx
                     replace hw := hw'
                     clear hw' hx)
                  | (go_at_call 17; with_reducible refine (sameB_in (Y := w17) ho20 ho21 ?_ ?_ ?_).mono ?_
                     focus first | with_reducible exact hw | with_reducible exact below_drew hw
                     focus first | with_reducible exact Below.refl _ _ | with_reducible exact below_drew (Below.refl _ _)
                     focus first | with_reducible exact Below.refl _ _ | with_reducible exact below_drew (Below.refl _ _)
                     rintro e w22 ⟨rfl, hw', hx⟩
                     clear ho20 ho21
                     first | replace kb := kb.kept hx | replace kb := bk_keptD kb hx
                     first | replace kt := kt.kept hx | replace kt := bk_keptD kt hx
                     replace hw := hw'
                     clear hw' hx)
                  | (go_at_call 16; with_reducible refine (copy_in HRK.out HW.out.1 ?_).mono ?_
                     focus first | with_reducible exact hw | with_reducible exact below_drew hw
                     rintro e w23 ⟨A23, n23, c23, rfl, ho23, hw', hx⟩
                     first | replace kb := kb.kept hx | replace kb := bk_keptD kb hx
                     first | replace kt := kt.kept hx | replace kt := bk_keptD kt hx
                     replace hw := hw'
                     clear hw' hx)
                  | (go_at_call 27; with_reducible refine (HT17.out.have_in o.rank ho23 ?_ ?_).mono ?_
                     focus first | with_reducible exact hw | with_reducible exact below_drew hw
                     focus first | with_reducible exact Below.refl _ _ | with_reducible exact below_drew (Below.refl _ _)
                     rintro e w24 ⟨A24, n24, c24, rfl, hi24, hw', hx⟩
                     clear ho23
                     first | replace kb := kb.kept hx | replace kb := bk_keptD kb hx
                     first | replace kt := kt.kept hx | replace kt := bk_keptD kt hx
                     replace hw := hw'
                     clear hw' hx)
                  | (go_at_call 28; with_reducible refine (HT17.out.refHave_in o.rank HRK.out ?_).mono ?_
                     focus first | with_reducible exact hw | with_reducible exact below_drew hw
                     rintro e w25 ⟨A25, n25, c25, rfl, hi25, hw', hx⟩
                     first | replace hi24 := hi24.below hx | replace hi24 := ownI_belowD hi24 hx
                     first | replace kb := kb.kept hx | replace kb := bk_keptD kb hx
                     first | replace kt := kt.kept hx | replace kt := bk_keptD kt hx
                     replace hw := hw'
                     clear hw' hx)
                  | (go_at_call 24; with_reducible refine (sameI_in (Y := w17) hi24 hi25 ?_ ?_ ?_).mono ?_
                     focus first | with_reducible exact hw | with_reducible exact below_drew hw
                     focus first | with_reducible exact Below.refl _ _ | with_reducible exact below_drew (Below.refl _ _)
                     focus first | with_reducible exact Below.refl _ _ | with_reducible exact below_drew (Below.refl _ _)
                     rintro e w26 ⟨rfl, hw', hx⟩
                     clear hi24 hi25
                     first | replace kb := kb.kept hx | replace kb := bk_keptD kb hx
                     first | replace kt := kt.kept hx | replace kt := bk_keptD kt hx
                     replace hw := hw'
                     clear hw' hx))
                all_goals
                  have HT26 := Lib.hid (HT17.out.kept hw)
                  clear kb kt hw
                  go_wp2_with fail
                  go_roundw
                  case rel => exact ⟨j + 1, F7, G6, us, A6, c6, by omega, by go_num, HT26.out⟩
                  case measure => simp [intOf]; omega
      · have HB := Lib.hid ht3.on.be
        clear ht3
        go_wp2_with fail
        go_ret
        exact ⟨rfl, HB.out⟩
end Go.Proofs.Ytckmjpbkcpmdpaa
