/-
  The law TreeOwned, walked. A walk; no statement.
-/
import Derived.Test.YtgppclmofphlfaaGreatDoorTreeLaw
import Derived.Test.YtgppclmofphlfaaGreatDoorTreeScript
import Derived.Test.YtgppclmofphlfaaGreatDoorOwnedPlain
import Derived.Test.YtgppclmofphlfaaGreatDoorMRows
import Derived.Test.YtgppclmofphlfaaGreatDoorTreeSame
namespace Go.Proofs.YtgppclmofphlfaaGreatDoor
set_option maxRecDepth 100000
open Go.RowKit
set_option linter.unusedVariables false
set_option maxRecDepth 100000

set_option maxHeartbeats 12800000 in
theorem treeOwned_walk (w : World) (hE : Env w) (v : Value) (ops : List To) (hops : InTos w v ops) (v1 : Value) (os : List Int) (hos : InIn w v1 os) : Calls Tryz.prog 7 #[v, v1] w (Tr w) := by
  obtain ⟨OA, oc, rfl, hro, hsz⟩ := hos
  have HRO := Lib.hid hro
  have HSZ := Lib.hid hsz
  clear hro hsz
  obtain ⟨A, c, rfl, hs, hbg⟩ := hops
  have HS := Lib.hid hs
  have HE := Lib.hid hE
  have HL := Lib.hid (alive_ok w hE)
  have HG := Lib.hid (fun X (hX : Below w.heap.size w X) => great_any A c ops X (hs.below hX) hbg)
  clear hs hbg hE
  go_enter Tryz.func7, Tryz.ntmps7
  go_wp2_with fail
  refine HL.out.mono ?_
  rintro e w1 ⟨rfl, hb1⟩
  have HB1 := Lib.hid hb1
  clear hb1 HL
  go_wp2_with fail
  refine (HG.out w1 HB1.out).mono ?_
  rintro e w2 ⟨b, q, rfl, hgr, rfl⟩
  have HB2 := Lib.hid (below_drewN HB1.out q)
  have HGR := Lib.hid hgr
  clear hgr HG HB1
  cases b with
  | true =>
    go_wp2_with fail
    go_ret
    exact ⟨rfl, HB2.out⟩
  | false =>
    by_cases hbp : (50 : Int) < (os.length : Int)
    · go_wp2_with fail
      go_ret
      exact ⟨rfl, HB2.out⟩
    · have HO50 := Lib.hid (show os.length ≤ 50 by omega)
      have HRW := Lib.hid (fun X (hX : Below w.heap.size w X) (j : Nat) (u : Int) (hu : os[j]? = some u) => (show ∃ a, OA = some a ∧ X.cell? (a.add j) = some (.int .i64 u) by
        obtain ⟨a, e, _, hc⟩ := HRO.out.2 j (.int .i64 u) (by rw [List.getElem?_map, hu]; rfl)
        exact ⟨a, e, cell_kept hc hX⟩))
      go_wp2_with fail
      go_loopw [5] (fun i wx => ∃ j : Nat, j ≤ os.length ∧ i = .int .i64 j ∧ (∀ o ∈ os.take j, 0 ≤ o) ∧ wx = w1.drewN q) (fun i _ => os.length - (intOf i).toNat)
      case atStart => exact ⟨0, Nat.zero_le _, rfl, (fun l hl => by cases hl), rfl⟩
      case round =>
        obtain ⟨j, hj, rfl, hno, rfl⟩ := hrel
        have HNO := Lib.hid hno
        clear hno
        by_cases hlt : j < os.length
        · obtain ⟨u, hu⟩ : ∃ u, os[j]? = some u := ⟨_, List.getElem?_eq_getElem hlt⟩
          have HT := Lib.hid (show os.take (j + 1) = os.take j ++ [u] by
            obtain ⟨hh, rfl⟩ := List.getElem?_eq_some_iff.1 hu
            exact List.take_succ_eq_append_getElem hh)
          obtain ⟨y, rfl, hc⟩ := HRW.out _ HB2.out j u hu
          have y1 : (0 : Int) ≤ (j : Int) := by omega
          have y2 : (j : Int) < (os.length : Int) := by omega
          have yb : os.length ≤ 50 := HO50.out
          clear hu
          by_cases hneg : u < 0
          · go_wp2_with fail
            go_ret
            exact ⟨rfl, HB2.out⟩
          · have HNN := Lib.hid (show 0 ≤ u by omega)
            go_wp2_with fail
            go_roundw
            case rel => exact ⟨j + 1, by omega, by go_num, (fun l hl => by rw [HT.out] at hl; rcases List.mem_append.1 hl with q | q; exact HNO.out l q; obtain rfl := List.mem_singleton.1 q; exact HNN.out), by first | trivial | rfl⟩
            case measure => have := HO50.out; simp [intOf]; omega
        · obtain rfl : j = os.length := by omega
          have HOS := Lib.hid (show ∀ o ∈ os, 0 ≤ o by have := HNO.out; rwa [List.take_length] at this)
          clear hlt hj HNO
          have HBIG := Lib.hid (show ∀ o ∈ ops, o.data.length ≤ 140737488355328 from fun o ho => by have h1 := (HGR.out (by first | trivial | rfl)).1; have h2 := (toW_mem ho).2; omega)
          go_wp2_with fail
          refine (new_any _).mono ?_
          intro e w3 h3
          obtain ⟨g, F0, rfl, t0, -, -⟩ := TOn.of_new HB2.out h3
          have TN0 := Lib.hid t0
          clear h3 t0
          go_wp2_with fail
          go_loopw [7] (fun i wr => ∃ (k : Nat) (F : Nat → Prop) (t : List Lf), k ≤ ops.length ∧ i = .int .i64 k ∧ TOn F w g 0 t wr) (fun i _ => ops.length - (intOf i).toNat)
          case atStart => exact ⟨0, _, _, Nat.zero_le _, rfl, TN0.out⟩
          case round =>
            obtain ⟨k, F, t, hk, rfl, tn⟩ := hrel
            have TN := Lib.hid tn
            clear tn TN0
            by_cases hlt : k < ops.length
            · obtain ⟨o, ho⟩ : ∃ o, ops[k]? = some o := ⟨_, List.getElem?_eq_getElem hlt⟩
              have HBO := Lib.hid (HBIG.out o (List.mem_of_getElem? ho))
              obtain ⟨x, C, rc, rfl, -, c0, c1, c2, -, c4, c5, c6, hB⟩ := HS.out.to7 ho
              have c0r := cell_kept c0 TN.out.be
              have HST := Lib.hid (fun X (hX : Below w.heap.size w X) => (⟨cell_kept c1 hX, cell_kept c2 hX, cell_kept c4 hX, cell_kept c5 hX, cell_kept c6 hX⟩ :
                X.cell? ⟨(x.add (k * 7)).block, (x.add (k * 7)).off + 1, none⟩ = some (.int .i64 o.own) ∧ X.cell? ⟨(x.add (k * 7)).block, (x.add (k * 7)).off + 2, none⟩ = some (.int .i64 o.born) ∧ X.cell? ⟨(x.add (k * 7)).block, (x.add (k * 7)).off + 4, none⟩ = some (.string ⟨o.path.toArray⟩) ∧ X.cell? ⟨(x.add (k * 7)).block, (x.add (k * 7)).off + 5, none⟩ = some (.slice C o.data.length rc) ∧ X.cell? ⟨(x.add (k * 7)).block, (x.add (k * 7)).off + 6, none⟩ = some (.bool o.numd)))
              have HCP := Lib.hid (fun X (hX : Below w.heap.size w X) => copyBytes_big C o.data.length rc o.data X (hB.below hX).rd HBO.out)
              have TND := Lib.hid TN.out.drew
              have HB0 := Lib.hid TND.out.be
              have HWS := Lib.hid (show wr.heap.size = wr.drew.heap.size from rfl)
              have y1 : (0 : Int) ≤ (k : Int) := by omega
              have y2 : (k : Int) < (ops.length : Int) := by omega
              have yw1 : IntKind.i64.wrap ((k : Int) + 1) = (k : Int) + 1 := by have := HS.out.1; have := HS.out.2.1; unfold maxLen at this; simp only [IntKind.wrap, IntKind.bits, IntKind.signed]; simp; omega
              have yw2 : wrap64 ((k : Int) + 1) = (k : Int) + 1 := by have := HS.out.1; have := HS.out.2.1; unfold maxLen at this; unfold wrap64; omega
              clear c0 c1 c2 c4 c5 c6 hB ho
              by_cases hw1 : o.what = 1
              · rw [hw1] at c0r
                clear hw1
                go_wp2_with fail
                go_region_held (fun X => X.cell? ⟨(x.add (k * 7)).block, (x.add (k * 7)).off + 1, none⟩ = some (.int .i64 o.own) ∧ X.cell? ⟨(x.add (k * 7)).block, (x.add (k * 7)).off + 2, none⟩ = some (.int .i64 o.born) ∧ X.cell? ⟨(x.add (k * 7)).block, (x.add (k * 7)).off + 4, none⟩ = some (.string ⟨o.path.toArray⟩) ∧ X.cell? ⟨(x.add (k * 7)).block, (x.add (k * 7)).off + 5, none⟩ = some (.slice C o.data.length rc) ∧ X.cell? ⟨(x.add (k * 7)).block, (x.add (k * 7)).off + 6, none⟩ = some (.bool o.numd))
                  (first | with_reducible exact HST.out _ HB6.out | with_reducible exact HST.out _ HB5.out | with_reducible exact HST.out _ HB0.out)
                  (first
                    | (go_at_call 32
                       with_reducible refine (HCP.out _ HB0.out).mono ?_
                       rintro e w5 ⟨A5, n5, c5, rfl, ho5, hb5⟩
                       obtain rfl := ho5.len.symm
                       have T5 := Lib.hid (TND.out.kept hb5)
                       have HB5 := Lib.hid T5.out.be
                       have HF5 := Lib.hid (BF.own ho5)
                       clear ho5 hb5)
                    | (go_at_call 15
                       refine (T5.out.make HE.out o.path A5 c5 o.data (From wr.drew.heap.size) o.own o.born o.numd HF5.out (fun k hk _ hf => Nat.lt_irrefl _ (Nat.lt_of_lt_of_le (TND.out.low k hf).2 hk))).mono ?_
                       rintro e w6 ⟨rfl, F6, t6, -, -⟩
                       have T6 := Lib.hid t6
                       have HB6 := Lib.hid T6.out.be
                       clear t6))
                go_wp2_with fail
                go_roundw
                case rel => exact ⟨k + 1, F6, _, by omega, by go_num, T6.out⟩
                case measure => simp [intOf]; omega
              · have b1 : (o.what == 1) = false := by simpa using hw1
                go_wp2_with fail
                go_roundw
                case rel => exact ⟨k + 1, F, t, by omega, by go_num, TN.out⟩
                case measure => simp [intOf]; omega
            · obtain rfl : k = ops.length := by omega
              clear hk hlt
              obtain ⟨WB, hWB⟩ : ∃ X, X = wr := ⟨_, rfl⟩
              subst hWB
              have HTL := Lib.hid (show t.length ≤ 32 from TN.out.ok.len)
              have HOK := Lib.hid TN.out.ok
              have HLO := Lib.hid (show ∀ k, F k → k < WB.heap.size from fun k hk => (TN.out.low k hk).2)
              go_wp2_with fail
              refine TN.out.all.mono ?_
              rintro e w7 ⟨A7, c7, rfl, ho7, hb7⟩
              have T7 := Lib.hid (TN.out.kept hb7)
              have HR7 := Lib.hid (ho7.rds (fun b hb => hb)).in_
              have HS7 := Lib.hid hb7.size
              clear ho7 hb7 TN
              have HCI := Lib.hid (copyInts_any OA os.length oc os w7 (HRO.out.below T7.out.be) (by have := HO50.out; omega))
              go_wp2_with fail
              refine HCI.out.mono ?_
              rintro e w8 ⟨⟨A8, c8, rfl, ho8⟩, hb8⟩
              have T8 := Lib.hid (T7.out.kept hb8)
              have HOW := Lib.hid (T8.out.owned A8 c8 os (Rd.own ho8) (by have := HO50.out; unfold maxLen; omega))
              have HB8 := Lib.hid hb8
              clear ho8 hb8 HCI
              go_wp2_with fail
              refine HOW.out.mono ?_
              rintro e w9 ⟨A9, n9, c9, rfl, ho9, hb9⟩
              have T9 := Lib.hid (T8.out.kept hb9)
              have HR9 := Lib.hid ((HR7.out.below HB8.out).below hb9)
              have HRT9 := Lib.hid ho9.rd
              have HL9 := Lib.hid ho9.len
              have HA9 := Lib.hid (show ∀ a, A9 = some a → 0 < n9 → WB.heap.size ≤ a.block ∧ a.block < w9.heap.size by
                obtain ⟨h3, h4⟩ := ho9
                intro a e h0
                rcases h4 with ⟨e1, _⟩ | ⟨g', cap, cur, e1, hg, hgb, _⟩
                · injection e1 with e1 e2; omega
                · injection e1 with e1
                  rw [e] at e1
                  obtain rfl := Option.some.inj e1
                  have := HB8.out.size
                  have := HS7.out
                  have := (Array.getElem?_eq_some_iff.1 hgb).1
                  constructor
                  · show WB.heap.size ≤ g'; omega
                  · exact this)
              have HS9 := Lib.hid (show w7.heap.size ≤ w9.heap.size from Nat.le_trans HB8.out.size hb9.size)
              clear ho9 hb9 HOW
              go_wp2_with fail
              go_loopw [10] (fun i wx => ∃ (j : Nat) (F' : Nat → Prop), j ≤ n9 ∧ i = .int .i64 j ∧ TOn F' w g 0 (tLess ((tOwned os t).take j) t) wx ∧ Gap F' WB.heap.size w9.heap.size ∧ w9.heap.size ≤ wx.heap.size ∧ RdS RLf (In WB.heap.size w9.heap.size) wx A7 c7 t ∧ RdT wx A9 n9 (tOwned os t)) (fun i _ => n9 - (intOf i).toNat)
              case atStart => exact ⟨0, F, Nat.zero_le _, rfl, by rw [List.take_zero, tLess_nil]; exact T9.out, Gap.of HLO.out, Nat.le_refl _, HR9.out.keep ⟨Nat.le_refl _, fun _ _ _ => rfl⟩ (fun b hb _ => ⟨hb.1, Nat.lt_of_lt_of_le hb.2 HS9.out⟩), HRT9.out⟩
              case round =>
                obtain ⟨j, F', hj, rfl, tn, hgp, hsz, hrr, hrt⟩ := hrel
                have TN := Lib.hid tn
                have HGP := Lib.hid hgp
                have HSX := Lib.hid hsz
                have HRR := Lib.hid hrr
                have HRT := Lib.hid hrt
                clear tn hgp hsz hrr hrt HR9 HRT9 T9 T8 T7 HR7
                have HN32 := Lib.hid (show n9 ≤ 32 by have h1 := HL9.out; have h2 := tOwned_le os t; have h3 := HTL.out; omega)
                by_cases hlt : j < n9
                · obtain ⟨p, hp⟩ : ∃ p, (tOwned os t)[j]? = some p := ⟨_, List.getElem?_eq_getElem (show j < (tOwned os t).length by rw [HL9.out]; exact hlt)⟩
                  obtain ⟨y, rfl, hyb, hc⟩ := HRT.out.2 j (sv p) (by rw [List.getElem?_map, hp]; rfl)
                  have HDR := Lib.hid (show Calls _ _ _ _ (MvP F' w g 0 (tLess ((tOwned os t).take (j + 1)) t) (.int .i64 0) wr) by
                    have := TN.out.drop HE.out p (-1)
                    rw [owned_drop HOK.out HOS.out hp TN.out.ok] at this
                    exact this)
                  have hc2 : wr.cell? (y.add j) = some (.string ⟨p.toArray⟩) := by simpa [sv] using hc
                  have y1 : (0 : Int) ≤ (j : Int) := by omega
                  have y2 : (j : Int) < (n9 : Int) := by omega
                  have yb : n9 ≤ 32 := HN32.out
                  clear hp hyb hc
                  go_wp2_with fail
                  refine HDR.out.mono ?_
                  rintro e w10 ⟨rfl, F2, t10, hF2, hch⟩
                  have T10 := Lib.hid t10
                  have HG2 := Lib.hid (HGP.out.did hF2 HSX.out)
                  have HSZ2 := Lib.hid (Nat.le_trans HSX.out hch.size)
                  have HRR2 := Lib.hid (HRR.out.chg hch HGP.out)
                  have HRT2 := Lib.hid (hch.rd HRT.out (fun a e h0 hf => by have h1 := HA9.out a e h0; rcases HGP.out _ hf with q | q <;> omega))
                  clear t10 hF2 hch
                  go_wp2_with fail
                  go_roundw
                  case rel => exact ⟨j + 1, F2, by omega, by go_num, T10.out, HG2.out, HSZ2.out, HRR2.out, HRT2.out⟩
                  case measure => have := HN32.out; simp [intOf]; omega
                · obtain rfl : j = n9 := by omega
                  have TE := Lib.hid (show TOn F' w g 0 (tLess (tOwned os t) t) wr by have := TN.out; rwa [List.take_of_length_le (by rw [HL9.out]; exact Nat.le_refl _)] at this)
                  obtain ⟨WC, hWC⟩ : ∃ X, X = wr := ⟨_, rfl⟩
                  subst hWC
                  clear hlt hj TN HRT HGP
                  go_wp2_with fail
                  go_loopw [11, 12] (fun n i wx => ∃ (j m : Nat), j ≤ t.length ∧ n = .int .i64 m ∧ i = .int .i64 j ∧ Below WC.heap.size WC wx ∧ m = ((t.take j).filter fun y => decide (y.own ∉ os)).length) (fun _ i _ => t.length - (intOf i).toNat)
                  case atStart => exact ⟨0, 0, Nat.zero_le _, rfl, rfl, Below.refl _ _, rfl⟩
                  case round =>
                    obtain ⟨j, m, hj, rfl, rfl, hbx, hm⟩ := hrel
                    have HBX := Lib.hid hbx
                    have HM := Lib.hid hm
                    obtain ⟨WD, hWD⟩ : ∃ X, X = wr := ⟨_, rfl⟩
                    subst hWD
                    have HMJ := Lib.hid (show m ≤ j by
                      rw [hm]
                      exact Nat.le_trans (List.length_filter_le _ _) (by rw [List.length_take]; omega))
                    clear hbx hm
                    by_cases hlt : j < t.length
                    · obtain ⟨x, hx⟩ : ∃ x, t[j]? = some x := ⟨_, List.getElem?_eq_getElem hlt⟩
                      have hxm : x ∈ t := List.mem_of_getElem? hx
                      have HTK := Lib.hid (show t.take (j + 1) = t.take j ++ [x] by
                        obtain ⟨hh, rfl⟩ := List.getElem?_eq_some_iff.1 hx
                        exact List.take_succ_eq_append_getElem hh)
                      obtain ⟨y, XA, XC, rfl, hyb, u0, u1, u2, u3, u4, u5, hxd⟩ := (HRR.out.below HBX.out).lf6 hx
                      have HXD := Lib.hid hxd
                      have HGI := Lib.hid (owned_get_in (os := os) HOK.out TE.out.ok hxm)
                      have HGO := Lib.hid (owned_get_out (os := os) HOK.out hxm)
                      have y1 : (0 : Int) ≤ (j : Int) := by omega
                      have y2 : (j : Int) < (t.length : Int) := by omega
                      have yb : t.length ≤ 32 := HTL.out
                      have ym : m ≤ j := HMJ.out
                      clear hx hxm hyb hxd
                      go_wp2_with fail
                      go_loopw [13, 14] (fun b i wx => ∃ (k q : Nat), k ≤ os.length ∧ b = .bool (inOs os k x.own) ∧ i = .int .i64 k ∧ wx = WD.drewN q) (fun _ i _ => os.length - (intOf i).toNat)
                      case atStart => exact ⟨0, 0, Nat.zero_le _, rfl, rfl, rfl⟩
                      case round =>
                        obtain ⟨k, q, hk, rfl, rfl, rfl⟩ := hrel
                        by_cases hkl : k < os.length
                        · obtain ⟨u, hu⟩ : ∃ u, os[k]? = some u := ⟨_, List.getElem?_eq_getElem hkl⟩
                          have HIN := Lib.hid (inOs_next hu x.own)
                          obtain ⟨z, rfl, hz⟩ := HRW.out WD (TE.out.be.trans (HBX.out.mono TE.out.be.size)) k u hu
                          have z1 : (0 : Int) ≤ (k : Int) := by omega
                          have z2 : (k : Int) < (os.length : Int) := by omega
                          have zb : os.length ≤ 50 := HO50.out
                          clear hu
                          cases hin : inOs os k x.own with
                          | true =>
                            have HV := Lib.hid (show inOs os (k + 1) x.own = true by rw [HIN.out, hin]; rfl)
                            clear hin HIN
                            go_upto_region 33 with fail
                            go_quiet (fail)
                            go_wp2_with fail
                            go_roundw
                            case rel => exact ⟨k + 1, _, by omega, by rw [HV.out], by go_num, rfl⟩
                            case measure => have := HO50.out; simp [intOf]; omega
                          | false =>
                            cases b5 : (u == x.own) with
                            | true =>
                              have HV := Lib.hid (show inOs os (k + 1) x.own = true by rw [HIN.out, hin, b5]; rfl)
                              clear hin HIN
                              go_upto_region 33 with fail
                              go_quiet (fail)
                              go_wp2_with fail
                              go_roundw
                              case rel => exact ⟨k + 1, _, by omega, by rw [HV.out], by go_num, rfl⟩
                              case measure => have := HO50.out; simp [intOf]; omega
                            | false =>
                              have HV := Lib.hid (show inOs os (k + 1) x.own = false by rw [HIN.out, hin, b5]; rfl)
                              clear hin HIN
                              go_upto_region 33 with fail
                              go_quiet (fail)
                              go_wp2_with fail
                              go_roundw
                              case rel => exact ⟨k + 1, _, by omega, by rw [HV.out], by go_num, rfl⟩
                              case measure => have := HO50.out; simp [intOf]; omega
                        · obtain rfl : k = os.length := by omega
                          rw [inOs_all]
                          have HBQ := Lib.hid (below_drewN HBX.out q)
                          have HGT := Lib.hid ((TE.out.kept HBQ.out).get HE.out x.path)
                          by_cases hin : x.own ∈ os
                          · rw [decide_eq_true hin]
                            rw [HGO.out hin] at HGT
                            have HV := Lib.hid (show ((t.take (j + 1)).filter fun y => decide (y.own ∉ os)).length = m by rw [HTK.out, List.filter_append, List.length_append, ← HM.out]; simp [hin])
                            clear hin hkl hk
                            go_wp2_with fail
                            refine HGT.out.mono ?_
                            intro e w10 h10
                            obtain ⟨hb10, rfl⟩ := (show Below (WD.drewN q).heap.size (WD.drewN q) w10 ∧ e = .returned (.tuple #[lfNo, .int .i64 100]) from h10)
                            have HB10 := Lib.hid (HBQ.out.trans (hb10.mono HBQ.out.size))
                            have HK10 := Lib.hid (Bk.new w10 50 [.string ⟨#[]⟩, .slice none 0 0, .int .i64 0, .int .i64 0, .int .i64 0, .int .i64 0])
                            clear h10 hb10
                            go_upto_region 35 with (first
                              | (refine wpList_store_bkT rfl 50 _ _ rfl w10.heap.size [.string ⟨#[]⟩, .slice none 0 0, .int .i64 0, .int .i64 0, .int .i64 0, .int .i64 0] rfl rfl 50 [.string ⟨#[]⟩, .slice none 0 0, .int .i64 0, .int .i64 0, .int .i64 0, .int .i64 0] HK10.out rfl info_leaf1 rfl ?_
                                 intro w11 hk11 hg11
                                 have HB11 := Lib.hid (show Below WC.heap.size WC w11 from (HB10.out.alloc HB10.out.size _).grown hg11.out (by have := HB10.out.size; simp; omega) (fun k e => by injection e with e; have := HB10.out.size; omega))))
                            go_quiet (fail)
                            go_wp2_with fail
                            go_roundw
                            case rel => exact ⟨j + 1, m, by omega, rfl, by go_num, below_drewN HB11.out _, HV.out.symm⟩
                            case measure => have := HTL.out; simp [intOf]; omega
                          · rw [decide_eq_false hin]
                            rw [HGI.out hin] at HGT
                            have HV := Lib.hid (show ((t.take (j + 1)).filter fun y => decide (y.own ∉ os)).length = m + 1 by rw [HTK.out, List.filter_append, List.length_append, ← HM.out]; simp [hin])
                            clear hin hkl hk
                            go_wp2_with fail
                            refine HGT.out.mono ?_
                            intro e w10 h10
                            obtain ⟨hb10, LA, LC, rfl, hbf⟩ := (show Below (WD.drewN q).heap.size (WD.drewN q) w10 ∧ ∃ A c, e = .returned (.tuple #[.agg (lfC x A c).toArray, .int .i64 0]) ∧ BF (From (WD.drewN q).heap.size) w10 A c x.data from h10)
                            have HB10 := Lib.hid (HBQ.out.trans (hb10.mono HBQ.out.size))
                            have HBD := Lib.hid (show Below WD.heap.size WD w10 from (below_drewN (Below.refl _ WD) q).trans hb10)
                            have HK10 := Lib.hid (Bk.new w10 50 [.string ⟨#[]⟩, .slice none 0 0, .int .i64 0, .int .i64 0, .int .i64 0, .int .i64 0])
                            have HBF := Lib.hid hbf
                            have HU := Lib.hid (fun X (hX : Below WD.heap.size WD X) => (⟨cell_kept u0 hX, cell_kept u1 hX, cell_kept u2 hX, cell_kept u3 hX, cell_kept u4 hX, cell_kept u5 hX⟩ :
                              X.cell? (y.add (j * 6)) = some (.string ⟨x.path.toArray⟩) ∧ X.cell? ⟨(y.add (j * 6)).block, (y.add (j * 6)).off + 1, none⟩ = some (.slice XA x.data.length XC) ∧ X.cell? ⟨(y.add (j * 6)).block, (y.add (j * 6)).off + 2, none⟩ = some (.int .i64 x.ver) ∧ X.cell? ⟨(y.add (j * 6)).block, (y.add (j * 6)).off + 3, none⟩ = some (.int .i64 x.own) ∧ X.cell? ⟨(y.add (j * 6)).block, (y.add (j * 6)).off + 4, none⟩ = some (.int .i64 x.next) ∧ X.cell? ⟨(y.add (j * 6)).block, (y.add (j * 6)).off + 5, none⟩ = some (.int .i64 x.born)))
                            clear h10 hb10 hbf u0 u1 u2 u3 u4 u5
                            go_upto_region 35 with (first
                              | (refine wpList_store_bkT rfl 50 _ _ rfl w10.heap.size (lfC x LA LC) rfl rfl 50 [.string ⟨#[]⟩, .slice none 0 0, .int .i64 0, .int .i64 0, .int .i64 0, .int .i64 0] HK10.out rfl info_leaf1 rfl ?_
                                 intro w11 hk11 hg11
                                 have HB11 := Lib.hid (show Below WC.heap.size WC w11 from (HB10.out.alloc HB10.out.size _).grown hg11.out (by have := HB10.out.size; simp; omega) (fun k e => by injection e with e; have := HB10.out.size; omega))
                                 have HBD11 := Lib.hid (show Below WD.heap.size WD w11 from (HBD.out.alloc HBD.out.size _).grown hg11.out (by have := HBD.out.size; simp; omega) (fun k e => by injection e with e; have := HBD.out.size; omega))))
                            have HSL := Lib.hid (show Calls _ _ _ _ (Tells (.bool true) w11.drew) by
                              have hb2 : BF (In (WD.drewN q).heap.size w10.heap.size) w10 LA LC x.data := HBF.out.keep ⟨Nat.le_refl _, fun _ _ _ => rfl⟩ fun b hb hl => ⟨hb, hl⟩
                              have hb3 := bf_set (hb2.below ((Below.refl _ _).alloc (Nat.le_refl _) (.cells #[.string ⟨#[]⟩, .slice none 0 0, .int .i64 0, .int .i64 0, .int .i64 0, .int .i64 0] 50))) hg11.out (fun b hb e => by have h2 := hb.2; omega)
                              have := sameLeaf_any x x LA XA LC XC _ _ w11.drew (hb3.below ⟨rfl, rfl, rfl, Nat.le_refl _, fun _ _ => rfl⟩) (HXD.out.below (below_drew HBD11.out))
                              rw [decide_eq_true rfl] at this
                              exact this)
                            obtain ⟨v0, v1, v2, v3, v4, v5⟩ := HU.out w11 HBD11.out
                            have e0 : w11.cell? ⟨w10.heap.size, 0, none⟩ = some (.string ⟨x.path.toArray⟩) := hk11.out.at_ rfl
                            have e1 : w11.cell? ⟨w10.heap.size, 1, none⟩ = some (.slice LA x.data.length LC) := hk11.out.at_ rfl
                            have e2 : w11.cell? ⟨w10.heap.size, 2, none⟩ = some (.int .i64 x.ver) := hk11.out.at_ rfl
                            have e3 : w11.cell? ⟨w10.heap.size, 3, none⟩ = some (.int .i64 x.own) := hk11.out.at_ rfl
                            have e4 : w11.cell? ⟨w10.heap.size, 4, none⟩ = some (.int .i64 x.next) := hk11.out.at_ rfl
                            have e5 : w11.cell? ⟨w10.heap.size, 5, none⟩ = some (.int .i64 x.born) := hk11.out.at_ rfl
                            have HBW := Lib.hid (below_drew HB11.out)
                            go_still_tail 13, (by kernel_rfl)
                            change wpList _ _ _ _ _ w11.drew
                            go_wp2_with fail
                            refine HSL.out.mono ?_
                            rintro e w12 ⟨rfl, hb12⟩
                            have HB12 := Lib.hid (HBW.out.trans (hb12.mono HBW.out.size))
                            clear hb12
                            go_wp2_with fail
                            go_roundw
                            case rel => exact ⟨j + 1, m + 1, by omega, by go_num, by go_num, HB12.out, HV.out.symm⟩
                            case measure => have := HTL.out; simp [intOf]; omega
                    · obtain rfl : j = t.length := by omega
                      have HM2 := Lib.hid (show m = (tLess (tOwned os t) t).length by rw [owned_end HOK.out, HM.out, List.take_length])
                      have hm2 := HM2.out
                      subst hm2
                      have TF := Lib.hid (TE.out.kept HBX.out)
                      have HOW := Lib.hid (TF.out.owned OA oc os (HRO.out.below TF.out.be) (by have := HO50.out; unfold maxLen; omega))
                      rw [owned_none HOK.out] at HOW
                      go_wp2_with fail
                      refine HOW.out.mono ?_
                      rintro e w10 ⟨A10, n10, c10, rfl, ho10, hb10⟩
                      obtain rfl : n10 = 0 := ho10.len.symm
                      have T10 := Lib.hid (TF.out.kept hb10)
                      clear ho10 hb10
                      go_wp2_with fail
                      refine T10.out.all.mono ?_
                      rintro e w11 ⟨A11, c11, rfl, -, hb11⟩
                      have T11 := Lib.hid (T10.out.kept hb11)
                      clear hb11
                      go_wp2_with fail
                      go_ret
                      exact ⟨rfl, T11.out.be⟩

end Go.Proofs.YtgppclmofphlfaaGreatDoor
