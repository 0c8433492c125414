/-
  The law TreeBack, walked. A walk; no statement.
-/
import Derived.Test.YtgppclmofphlfaaGreatDoorTreeLaw
import Derived.Test.YtgppclmofphlfaaGreatDoorNodeRow
import Derived.Test.YtgppclmofphlfaaGreatDoorBackPlain
import Derived.Test.YtgppclmofphlfaaGreatDoorTreeSame
namespace Go.Proofs.YtgppclmofphlfaaGreatDoor
set_option maxRecDepth 100000
open Go.RowKit
set_option linter.unusedVariables false
set_option maxRecDepth 100000

set_option maxHeartbeats 12800000 in
theorem treeBack_walk (w : World) (hE : Env w) (v : Value) (ops : List To) (hops : InTos w v ops) (p : List UInt8) (hp : (⟨p.toArray⟩ : ByteArray).size ≤ maxLen) (hx : ∃ l, InTx (.string ⟨p.toArray⟩) l) (v2 : Value) (data : List UInt8) (hdata : InBy w v2 data) (numbered : Bool) : Calls Tryz.prog 6 #[v, .string ⟨p.toArray⟩, v2, .bool numbered] w (Tr w) := by
  obtain ⟨DA, dc, rfl, hbd, hdl⟩ := hdata
  have HBD := Lib.hid hbd
  have hpl : p.length ≤ 140737488355328 := by
    obtain ⟨l, e, hl⟩ := hx
    injection e with e
    injection e with e
    have := congrArg Array.toList e
    rw [show p = l from this]
    exact hl
  clear hbd hx
  obtain ⟨A, c, rfl, hs, hbg⟩ := hops
  have HS := Lib.hid hs
  have HE := Lib.hid hE
  have HL := Lib.hid (alive_ok w hE)
  have HG := Lib.hid (fun X (hX : Below w.heap.size w X) => great_any A c ops X (hs.below hX) hbg)
  clear hs hbg hE
  go_enter Tryz.func6, Tryz.ntmps6
  go_wp2_with fail
  refine HL.out.mono ?_
  rintro e w1 ⟨rfl, hb1⟩
  have HB1 := Lib.hid hb1
  clear hb1 HL
  go_wp2_with fail
  refine (HG.out w1 HB1.out).mono ?_
  rintro e w2 ⟨b, q, rfl, hgr, rfl⟩
  have HB2 := Lib.hid (below_drewN HB1.out q)
  have HGR := Lib.hid hgr
  clear hgr HG HB1
  cases b with
  | true =>
    go_wp2_with fail
    go_ret
    exact ⟨rfl, HB2.out⟩
  | false =>
    by_cases hbp : (1000 : Int) < (p.length : Int) + (data.length : Int)
    · go_wp2_with fail
      go_ret
      exact ⟨rfl, HB2.out⟩
    · have HBIG := Lib.hid (show ∀ o ∈ ops, o.data.length ≤ 140737488355328 from fun o ho => by have h1 := (HGR.out (by first | trivial | rfl)).1; have h2 := (toW_mem ho).2; omega)
      go_wp2_with fail
      refine (new_any _).mono ?_
      intro e w3 h3
      obtain ⟨g, F0, rfl, t0, -, -⟩ := TOn.of_new HB2.out h3
      have TN0 := Lib.hid t0
      clear h3 t0
      go_wp2_with fail
      go_loopw [10] (fun i wr => ∃ (k : Nat) (F : Nat → Prop) (t : List Lf), k ≤ ops.length ∧ i = .int .i64 k ∧ TOn F w g 0 t wr) (fun i _ => ops.length - (intOf i).toNat)
      case atStart => exact ⟨0, _, _, Nat.zero_le _, rfl, TN0.out⟩
      case round =>
        obtain ⟨k, F, t, hk, rfl, tn⟩ := hrel
        have TN := Lib.hid tn
        clear tn TN0
        by_cases hlt : k < ops.length
        · obtain ⟨o, ho⟩ : ∃ o, ops[k]? = some o := ⟨_, List.getElem?_eq_getElem hlt⟩
          have HBO := Lib.hid (HBIG.out o (List.mem_of_getElem? ho))
          obtain ⟨x, C, rc, rfl, -, c0, c1, c2, -, c4, c5, c6, hB⟩ := HS.out.to7 ho
          have c0r := cell_kept c0 TN.out.be
          have HST := Lib.hid (fun X (hX : Below w.heap.size w X) => (⟨cell_kept c1 hX, cell_kept c2 hX, cell_kept c4 hX, cell_kept c5 hX, cell_kept c6 hX⟩ :
            X.cell? ⟨(x.add (k * 7)).block, (x.add (k * 7)).off + 1, none⟩ = some (.int .i64 o.own) ∧ X.cell? ⟨(x.add (k * 7)).block, (x.add (k * 7)).off + 2, none⟩ = some (.int .i64 o.born) ∧ X.cell? ⟨(x.add (k * 7)).block, (x.add (k * 7)).off + 4, none⟩ = some (.string ⟨o.path.toArray⟩) ∧ X.cell? ⟨(x.add (k * 7)).block, (x.add (k * 7)).off + 5, none⟩ = some (.slice C o.data.length rc) ∧ X.cell? ⟨(x.add (k * 7)).block, (x.add (k * 7)).off + 6, none⟩ = some (.bool o.numd)))
          have HCP := Lib.hid (fun X (hX : Below w.heap.size w X) => copyBytes_big C o.data.length rc o.data X (hB.below hX).rd HBO.out)
          have TND := Lib.hid TN.out.drew
          have HB0 := Lib.hid TND.out.be
          have HWS := Lib.hid (show wr.heap.size = wr.drew.heap.size from rfl)
          have y1 : (0 : Int) ≤ (k : Int) := by omega
          have y2 : (k : Int) < (ops.length : Int) := by omega
          have yw1 : IntKind.i64.wrap ((k : Int) + 1) = (k : Int) + 1 := by have := HS.out.1; have := HS.out.2.1; unfold maxLen at this; simp only [IntKind.wrap, IntKind.bits, IntKind.signed]; simp; omega
          have yw2 : wrap64 ((k : Int) + 1) = (k : Int) + 1 := by have := HS.out.1; have := HS.out.2.1; unfold maxLen at this; unfold wrap64; omega
          clear c0 c1 c2 c4 c5 c6 hB ho
          by_cases hw1 : o.what = 1
          · rw [hw1] at c0r
            clear hw1
            go_wp2_with fail
            go_region_held (fun X => X.cell? ⟨(x.add (k * 7)).block, (x.add (k * 7)).off + 1, none⟩ = some (.int .i64 o.own) ∧ X.cell? ⟨(x.add (k * 7)).block, (x.add (k * 7)).off + 2, none⟩ = some (.int .i64 o.born) ∧ X.cell? ⟨(x.add (k * 7)).block, (x.add (k * 7)).off + 4, none⟩ = some (.string ⟨o.path.toArray⟩) ∧ X.cell? ⟨(x.add (k * 7)).block, (x.add (k * 7)).off + 5, none⟩ = some (.slice C o.data.length rc) ∧ X.cell? ⟨(x.add (k * 7)).block, (x.add (k * 7)).off + 6, none⟩ = some (.bool o.numd))
              (first | with_reducible exact HST.out _ HB6.out | with_reducible exact HST.out _ HB5.out | with_reducible exact HST.out _ HB0.out)
              (first
                | (go_at_call 32
                   with_reducible refine (HCP.out _ HB0.out).mono ?_
                   rintro e w5 ⟨A5, n5, c5, rfl, ho5, hb5⟩
                   obtain rfl := ho5.len.symm
                   have T5 := Lib.hid (TND.out.kept hb5)
                   have HB5 := Lib.hid T5.out.be
                   have HF5 := Lib.hid (BF.own ho5)
                   clear ho5 hb5)
                | (go_at_call 15
                   refine (T5.out.make HE.out o.path A5 c5 o.data (From wr.drew.heap.size) o.own o.born o.numd HF5.out (fun k hk _ hf => Nat.lt_irrefl _ (Nat.lt_of_lt_of_le (TND.out.low k hf).2 hk))).mono ?_
                   rintro e w6 ⟨rfl, F6, t6, -, -⟩
                   have T6 := Lib.hid t6
                   have HB6 := Lib.hid T6.out.be
                   clear t6))
            go_wp2_with fail
            go_roundw
            case rel => exact ⟨k + 1, F6, _, by omega, by go_num, T6.out⟩
            case measure => simp [intOf]; omega
          · have b1 : (o.what == 1) = false := by simpa using hw1
            go_wp2_with fail
            go_roundw
            case rel => exact ⟨k + 1, F, t, by omega, by go_num, TN.out⟩
            case measure => simp [intOf]; omega
        · obtain rfl : k = ops.length := by omega
          clear hk hlt
          obtain ⟨WB, hWB⟩ : ∃ X, X = wr := ⟨_, rfl⟩
          subst hWB
          have HTL := Lib.hid (show t.length ≤ 32 from TN.out.ok.len)
          have HOK := Lib.hid TN.out.ok
          have HLO := Lib.hid (show ∀ k, F k → k < WB.heap.size from fun k hk => (TN.out.low k hk).2)
          go_wp2_with fail
          refine TN.out.all.mono ?_
          rintro e w7 ⟨A7, c7, rfl, ho7, hb7⟩
          have T7 := Lib.hid (TN.out.kept hb7)
          have K7 := Lib.hid (show Kpt A7 c7 t WB.heap.size w7.heap.size F w7 from ⟨(ho7.rds (fun b hb => hb)).in_, Gap.of HLO.out, Nat.le_refl _⟩)
          clear ho7 hb7 TN
          have HCB := Lib.hid (copyBytes_big DA data.length dc data w7 (HBD.out.below T7.out.be).rd hdl)
          go_wp2_with fail
          refine HCB.out.mono ?_
          rintro e w8 ⟨A8, n8, c8, rfl, ho8, hb8⟩
          obtain rfl := ho8.len.symm
          have T8 := Lib.hid (T7.out.kept hb8)
          have K8 := Lib.hid (K7.out.below hb8)
          have HF8 := Lib.hid (BF.own ho8)
          have HLO7 := Lib.hid (show ∀ k, F k → k < w7.heap.size from fun k hk => (T7.out.low k hk).2)
          have HMK := Lib.hid (T8.out.make HE.out p A8 c8 data (From w7.heap.size) (-1) 5 numbered HF8.out (fun k hk _ hf => Nat.lt_irrefl _ (Nat.lt_of_lt_of_le (HLO7.out k hf) hk)))
          clear ho8 hb8
          rcases made_cases HOK.out p data numbered with ⟨m, hm, hmk⟩ | ⟨q2, a, hmp, hmk⟩
          · rw [hmk] at HMK
            have b0 : (m != 0) = true := by simpa using hm
            clear hmk hm
            go_wp2_with fail
            refine HMK.out.mono ?_
            rintro e w9 ⟨rfl, F9, t9, hF9, hch9⟩
            have T9 := Lib.hid t9
            have K9 := Lib.hid (K8.out.did hF9 hch9)
            clear t9 hF9 hch9
            go_wp2_with fail
            refine T9.out.all.mono ?_
            rintro e w10 ⟨A10, c10, rfl, ho10, hb10⟩
            have T10 := Lib.hid (T9.out.kept hb10)
            have HSL := Lib.hid (sameLeaves_any A10 A7 c10 c7 t t _ _ w10 (ho10.rds (fun b hb => hb)) (K9.out.below hb10).1)
            rw [decide_eq_true rfl] at HSL
            clear ho10 hb10
            go_wp2_with fail
            refine HSL.out.mono ?_
            rintro e w11 ⟨rfl, hb11⟩
            have HBE := Lib.hid ((T10.out.kept hb11).be)
            clear hb11
            go_wp2_with fail
            go_ret
            exact ⟨rfl, HBE.out⟩
          · rw [hmk] at HMK
            have HMP := Lib.hid hmp
            obtain ⟨s1, hs1⟩ : ∃ s1, s1 = T1 t numbered a q2 data 0 := ⟨_, rfl⟩
            have HS1 := Lib.hid hs1
            have hl1 : s1.length = t.length + 1 := by rw [hs1]; exact t1_len HOK.out hmp data 0
            have bl : ((s1.length : Int) != (t.length : Int) + 1) = false := by rw [hl1]; simp
            have yb : t.length ≤ 32 := HTL.out
            replace HMK := Lib.hid (show Calls _ _ _ _ (MvP F w g 0 s1 (.tuple #[.string ⟨q2.toArray⟩, .int .i64 0]) w8) by rw [hs1]; exact HMK.out)
            clear hmk hmp hs1 hl1
            go_wp2_with fail
            refine HMK.out.mono ?_
            rintro e w9 ⟨rfl, F9, t9, hF9, hch9⟩
            have T9 := Lib.hid t9
            have K9 := Lib.hid (K8.out.did hF9 hch9)
            clear t9 hF9 hch9
            have HGT := Lib.hid (T9.out.get HE.out q2)
            rw [HS1.out, t1_get HOK.out HMP.out data 0] at HGT
            go_wp2_with fail
            refine HGT.out.mono ?_
            intro e w10 h10
            obtain ⟨hb10, LA, LC, rfl, hbf⟩ := (show Below w9.heap.size w9 w10 ∧ ∃ A c, e = .returned (.tuple #[.agg (lfC ⟨q2, data, 0, -1, 0, 5⟩ A c).toArray, .int .i64 0]) ∧ BF (From w9.heap.size) w10 A c data from h10)
            have HB10 := Lib.hid hb10
            have HK10 := Lib.hid (Bk.new w10 50 [.string ⟨#[]⟩, .slice none 0 0, .int .i64 0, .int .i64 0, .int .i64 0, .int .i64 0])
            have HBF := Lib.hid hbf
            clear h10 hb10 hbf
            go_wp2_with (first
              | (refine wpList_store_bkT rfl 50 _ _ rfl w10.heap.size (lfC ⟨q2, data, 0, -1, 0, 5⟩ LA LC) rfl rfl 50 [.string ⟨#[]⟩, .slice none 0 0, .int .i64 0, .int .i64 0, .int .i64 0, .int .i64 0] HK10.out rfl info_leaf1 rfl ?_
                 intro w11 hk11 hg11
                 have HB11 := Lib.hid (show Below w9.heap.size w9 w11 from (HB10.out.alloc HB10.out.size _).grown hg11.out (by have := HB10.out.size; simp; omega) (fun k e => by injection e with e; have := HB10.out.size; omega))
                 have e1 : w11.cell? ⟨w10.heap.size, 1, none⟩ = some (.slice LA data.length LC) := hk11.out.at_ rfl
                 have e2 : w11.cell? ⟨w10.heap.size, 2, none⟩ = some (.int .i64 0) := hk11.out.at_ rfl
                 have e5 : w11.cell? ⟨w10.heap.size, 5, none⟩ = some (.int .i64 5) := hk11.out.at_ rfl
                 have HSB := Lib.hid (show Calls _ _ _ _ (Quiet (.bool true) w11) by
                   have hb2 : BF (In w9.heap.size w10.heap.size) w10 LA LC data := HBF.out.keep ⟨Nat.le_refl _, fun _ _ _ => rfl⟩ fun b hb hl => ⟨hb, hl⟩
                   have hb3 := bf_set (hb2.below ((Below.refl _ _).alloc (Nat.le_refl _) (.cells #[.string ⟨#[]⟩, .slice none 0 0, .int .i64 0, .int .i64 0, .int .i64 0, .int .i64 0] 50))) hg11.out (fun b hb e => by have h2 := hb.2; omega)
                   have := sameBytes_any LA DA data.length data.length LC dc w11 data data hb3.rd (HBD.out.below (T9.out.kept HB11.out).be).rd (Nat.le_trans hb3.1.1 hb3.1.2.1)
                   rw [decide_eq_true rfl] at this
                   exact this)))
            refine HSB.out.mono ?_
            rintro e w12 ⟨rfl, q12, rfl⟩
            have HBQ := Lib.hid (below_drewN HB11.out q12)
            have T12 := Lib.hid (T9.out.kept HBQ.out)
            have K12 := Lib.hid (K9.out.below HBQ.out)
            go_wp2_with fail
            refine T12.out.all.mono ?_
            rintro e w13 ⟨A13, c13, rfl, -, hb13⟩
            have T13 := Lib.hid (T12.out.kept hb13)
            have K13 := Lib.hid (K12.out.below hb13)
            have hcc := conv_const w13 w13.heap.size rfl #[.int .u8 111, .int .u8 116, .int .u8 104, .int .u8 101, .int .u8 114] 5 5
            have HBA := Lib.hid (show Below w13.heap.size w13 (w13.alloc (.cells #[.int .u8 111, .int .u8 116, .int .u8 104, .int .u8 101, .int .u8 114] 5 (5, 6))) from (Below.refl _ w13).alloc (Nat.le_refl _) _)
            have HST := Lib.hid (show Calls _ _ _ _ (MvP F9 w g 1 (T1 t numbered a q2 [111, 116, 104, 101, 114] 1) (.tuple #[.int .i64 1, .int .i64 0]) _) by
              have := (T13.out.kept HBA.out).set HE.out (by decide) q2 (some ⟨w13.heap.size, 0, none⟩) 5 [111, 116, 104, 101, 114] (From w13.heap.size) 0 (bf_mark w13 [111, 116, 104, 101, 114] (5, 6) (by decide))
              rw [HS1.out, t1_set HOK.out HMP.out data] at this
              exact this)
            clear hb13 e1 e2 e5
            go_wp2_with fail
            refine HST.out.mono ?_
            rintro e w14 ⟨rfl, F14, t14, hF14, hch14⟩
            have T14 := Lib.hid t14
            have K14 := Lib.hid ((K13.out.below HBA.out).did hF14 hch14)
            clear t14 hF14 hch14 hcc
            have HS2 := Lib.hid (show Calls _ _ _ _ (MvP F14 w g 2 (T1 t numbered a q2 [111, 116, 104, 101, 114] 1) (.tuple #[.int .i64 0, .int .i64 102]) _) by
              have := T14.out.set HE.out (by decide) q2 none 0 [] (fun _ => False) 0 (BF.nil_ _ _)
              rw [t1_set2 HOK.out HMP.out] at this
              exact this)
            go_wp2_with fail
            refine HS2.out.mono ?_
            rintro e w15 ⟨rfl, F15, t15, hF15, hch15⟩
            have T15 := Lib.hid t15
            have K15 := Lib.hid (K14.out.did hF15 hch15)
            clear t15 hF15 hch15
            have HD0 := Lib.hid (show Calls _ _ _ _ (MvP F15 w g 2 (T1 t numbered a q2 [111, 116, 104, 101, 114] 1) (.int .i64 102) _) by
              have := T15.out.drop HE.out q2 0
              rw [t1_drop0 HOK.out HMP.out] at this
              exact this)
            go_wp2_with fail
            refine HD0.out.mono ?_
            rintro e w16 ⟨rfl, F16, t16, hF16, hch16⟩
            have T16 := Lib.hid t16
            have K16 := Lib.hid (K15.out.did hF16 hch16)
            clear t16 hF16 hch16
            have HD1 := Lib.hid (show Calls _ _ _ _ (MvP F16 w g 2 (tWith (upB numbered a) t) (.int .i64 0) _) by
              have := T16.out.drop HE.out q2 1
              rw [t1_drop1 HOK.out HMP.out] at this
              exact this)
            go_wp2_with fail
            refine HD1.out.mono ?_
            rintro e w17 ⟨rfl, F17, t17, hF17, hch17⟩
            have T17 := Lib.hid t17
            have K17 := Lib.hid (K16.out.did hF17 hch17)
            clear t17 hF17 hch17
            obtain ⟨s, hs⟩ : ∃ s, s = tWith (upB numbered a) t := ⟨_, rfl⟩
            have HSL := Lib.hid (show s.length = t.length by rw [hs]; exact len_swap HOK.out.srt HMP.out.mem (upB_path numbered a).symm)
            have HSB2 := Lib.hid (show s.map (unB numbered a.path) = t by rw [hs]; exact t1_back HOK.out HMP.out)
            have HAL := Lib.hid (show Calls _ _ _ _ (fun e w' => ∃ A c, e = .returned (.slice A t.length c) ∧ OwnS RLf 50 (From w17.heap.size) w17.heap.size w' A t.length c s ∧ Below w17.heap.size w17 w') by
              refine T17.out.all.mono ?_
              rintro e w' ⟨A, c, h1, h2, h3⟩
              rw [← hs, HSL.out] at h1 h2
              exact ⟨A, c, h1, h2, h3⟩)
            clear hs
            go_wp2_with fail
            refine HAL.out.mono ?_
            rintro e w18 ⟨A18, c18, rfl, ho18, hb18⟩
            have T18 := Lib.hid (T17.out.kept hb18)
            have K18 := Lib.hid (K17.out.below hb18)
            obtain ⟨g18, rfl, hg18, hg18b, hnr⟩ := NRows.of_own ho18 (by
              obtain ⟨r, hr, _⟩ := HOK.out.root
              exact List.length_pos_of_mem hr)
            have HG18 := Lib.hid (And.intro hg18 hg18b)
            have HNR := Lib.hid hnr
            have HPA := Lib.hid (show Calls _ _ _ _ (Ans (.tuple #[.string ⟨a.path.toArray⟩, .int .i64 0]) w18) by
              have := parent_any ⟨q2.toArray⟩ w18 (T18.out.env HE.out)
              rw [show (⟨q2.toArray⟩ : ByteArray).data.toList = q2 from rfl, HMP.out.up] at this
              exact this)
            clear ho18 hb18 hg18 hg18b hnr
            go_wp2_with fail
            refine HPA.out.mono ?_
            rintro e w19 ⟨rfl, hb19⟩
            have HCH0 := Lib.hid (Chg.of_below (· = g18) hb19)
            have HNR2 := Lib.hid (HNR.out.below hb19)
            clear hb19
            go_wp2_with fail
            go_loopw [19] (fun i wx => ∃ j : Nat, j ≤ t.length ∧ i = .int .i64 j ∧ NRows (From w17.heap.size) wx g18 c18 ((s.take j).map (unB numbered a.path) ++ s.drop j) ∧ Chg (· = g18) w18 wx) (fun i _ => t.length - (intOf i).toNat)
            case atStart => exact ⟨0, Nat.zero_le _, rfl, HNR2.out, HCH0.out⟩
            case round =>
              obtain ⟨j, hj, rfl, hnr, hch⟩ := hrel
              have HNX := Lib.hid hnr
              have HCH := Lib.hid hch
              clear hnr hch
              by_cases hlt : j < t.length
              · obtain ⟨x, hx⟩ : ∃ x, s[j]? = some x := ⟨_, List.getElem?_eq_getElem (show j < s.length by rw [HSL.out]; exact hlt)⟩
                have hjs : j < s.length := (List.getElem?_eq_some_iff.1 hx).1
                have hxs : ((s.take j).map (unB numbered a.path) ++ s.drop j)[j]? = some x := by
                  rw [List.getElem?_append_right (by simp; omega), List.getElem?_drop]
                  rw [show j + (j - ((s.take j).map (unB numbered a.path)).length) = j by simp; omega]
                  exact hx
                have HNEXT := Lib.hid (show ∀ y, y = unB numbered a.path x → ((s.take j).map (unB numbered a.path) ++ s.drop j).set j y = (s.take (j + 1)).map (unB numbered a.path) ++ s.drop (j + 1) by
                  rintro y rfl
                  have hxe : s[j] = x := (List.getElem?_eq_some_iff.1 hx).2
                  have hl : ((s.take j).map (unB numbered a.path)).length = j := by simp; omega
                  rw [List.set_append_right _ _ (by rw [hl]; exact Nat.le_refl _), hl, Nat.sub_self, List.drop_eq_getElem_cons hjs, List.set_cons_zero, List.take_succ_eq_append_getElem hjs, List.map_append, List.append_assoc, hxe]
                  rfl)
                have HSAME := Lib.hid (show ((s.take j).map (unB numbered a.path) ++ s.drop j).set j x = (s.take j).map (unB numbered a.path) ++ s.drop j by
                  obtain ⟨hh, e⟩ := List.getElem?_eq_some_iff.1 hxs
                  rw [← e]; exact List.set_getElem_self hh)
                obtain ⟨XA, XD, c0, c4, -⟩ := HNX.out.at_ hxs
                obtain ⟨L, hbk, hL⟩ := HNX.out.bk hxs
                have HBK := Lib.hid hbk
                have HXS := Lib.hid hxs
                have y1 : (0 : Int) ≤ (j : Int) := by omega
                have y2 : (j : Int) < (t.length : Int) := by omega
                clear hx hjs hxs hbk
                cases b7 : (x.path == a.path) with
                | true =>
                  have hpe : x.path = a.path := by simpa using b7
                  cases numbered with
                  | true =>
                    have HU := Lib.hid (show unB true a.path x = { x with next := wrap64 (x.next - 1) } by unfold unB; rw [if_pos ⟨hpe, rfl⟩, show IntKind.i64.wrap (x.next - 1) = wrap64 (x.next - 1) by unfold wrap64 IntKind.wrap IntKind.bits IntKind.signed; simp; omega])
                    clear hpe
                    have cf : wr.frozen? ⟨g18, j * 6 + 4, none⟩ = false := HBK.out.frozen _
                    have HK20 := Lib.hid (HBK.out.set (j * 6 + 4) (.int .i64 (wrap64 (x.next - 1))))
                    have HG20 := Lib.hid (grown_set (grown_refl wr (some g18)) (j * 6 + 4) (.int .i64 (wrap64 (x.next - 1))))
                    go_wp2_with fail
                    go_roundw
                    case rel =>
                      refine ⟨j + 1, by omega, by go_num, ?_, HCH.out.grown HG20.out (fun k e => by injection e with e; exact .inl e.symm)⟩
                      rw [← HNEXT.out _ HU.out.symm]
                      exact HNX.out.set HXS.out _ HG20.out HBK.out HK20.out
                    case measure => simp [intOf]; omega
                  | false =>
                    have HU := Lib.hid (show unB false a.path x = x by unfold unB; rw [if_neg (fun hh => by cases hh.2)])
                    clear hpe
                    go_wp2_with fail
                    go_roundw
                    case rel => exact ⟨j + 1, by omega, by go_num, by rw [← HNEXT.out _ HU.out.symm, HSAME.out]; exact HNX.out, HCH.out⟩
                    case measure => simp [intOf]; omega
                | false =>
                  have HU := Lib.hid (show unB numbered a.path x = x by unfold unB; rw [if_neg (fun hh => by rw [hh.1] at b7; simp at b7)])
                  go_wp2_with fail
                  go_roundw
                  case rel => exact ⟨j + 1, by omega, by go_num, by rw [← HNEXT.out _ HU.out.symm, HSAME.out]; exact HNX.out, HCH.out⟩
                  case measure => simp [intOf]; omega
              · obtain rfl : j = t.length := by omega
                have HEND := Lib.hid (show NRows (From w17.heap.size) wr g18 c18 t by
                  have := HNX.out
                  rw [List.take_of_length_le (by rw [HSL.out]; exact Nat.le_refl _), List.drop_of_length_le (by rw [HSL.out]; exact Nat.le_refl _), List.append_nil, HSB2.out] at this
                  exact this)
                have HSLV := Lib.hid (sameLeaves_any (some ⟨g18, 0, none⟩) A7 c18 c7 t t _ _ wr (HEND.out.rds HG18.out.1) (K18.out.1.chg HCH.out (fun k e => .inr (by rw [e]; have h1 := HG18.out.1; have h2 := K17.out.2.2; omega))))
                rw [decide_eq_true rfl] at HSLV
                have HBE := Lib.hid (show Below w.heap.size w wr from T18.out.be.trans (HCH.out.below (fun i e => by rw [e]; exact Nat.le_trans T17.out.size HG18.out.1) T18.out.size))
                go_wp2_with fail
                refine HSLV.out.mono ?_
                rintro e w20 ⟨rfl, hb20⟩
                have HBF2 := Lib.hid (HBE.out.trans (hb20.mono HBE.out.size))
                clear hb20
                go_wp2_with fail
                go_ret
                exact ⟨rfl, HBF2.out⟩
end Go.Proofs.YtgppclmofphlfaaGreatDoor
