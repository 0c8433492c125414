/-
  LogMemory: the walk.
-/
import Derived.Test.YtmiejaohkgemnaaDoorLogXor
namespace Go.Proofs.YtmiejaohkgemnaaDoor
open Go.RowKit
open Pk Sh
set_option linter.unusedVariables false
set_option maxRecDepth 100000

set_option maxHeartbeats 6400000 in
theorem logMemory_walk (w : World) (hT : Tab w) (v0 : Value) (rs : List (List UInt8)) (h0 : InR w v0 rs) : Calls Tryd.prog 7 #[v0] w (Tr w) := by
  obtain ⟨i0, hi, hz0, hz1, hz2⟩ := info_parts info_bytes
  have h0' := h0
  obtain ⟨A, n, c, rfl, hnc, hcm, hA, hAz⟩ := h0'
  have HA0 := Lib.hid h0
  have HA := Lib.hid hA
  have HNA := Lib.hid (show rs.length = n from hA.1)
  have HT := Lib.hid hT
  have HAL := Lib.hid (alive5 w hT)
  clear h0 hA hnc hcm hAz hT
  go_enter Tryd.func7, Tryd.ntmps7
  go_wp2_with fail
  refine HAL.out.mono ?_
  rintro e w1 ⟨rfl, hb1⟩
  have HB1 := Lib.hid hb1
  have HGR := Lib.hid (great_one A n c rs w1 (HA0.out.below hb1))
  clear hb1 HAL
  go_wp2_with fail
  refine HGR.out.mono ?_
  rintro e w2 ⟨gr, rfl, hgr, hw2⟩
  have HB2 := Lib.hid (show Below w.heap.size w w2 by rw [hw2]; exact HB1.out.alloc HB1.out.size _)
  clear hw2 HGR HB1
  cases gr
  · have hW := hgr rfl
    have HW := Lib.hid hW
    have hal : ∀ l ∈ rs, l.length ≤ 65536 := fun l hl => by have := rows_each hW l hl; omega
    have hla := rows_len rs
    have hln : rs.length ≤ 3000 := by omega
    have HALL := Lib.hid hal
    have HLEN := Lib.hid hln
    have HLO := Lib.hid (Lg.longs_of hal)
    have HML := Lib.hid (Lg.mm_len hW)
    have HGOOD := Lib.hid (Lg.mm_good hal hln)
    have HN := Lib.hid (disk_new (-1) w2 (by omega))
    clear hgr hW hal hla hln
    go_wp2_with fail
    refine HN.out.mono ?_
    rintro e w3 hm
    obtain ⟨gd, F3, rfl, hon, _, _⟩ := Made.on HB2.out HB2.out.size hm
    have hop := log_open gd (PD.new (-1)) F3 w3 hon.dk (Tab.on HT.out hon HT.out.1) (below_pos hon HT.out.1) (by simp [PD.new]) (by simp [PD.new])
    rw [Lg.opn_new] at hop
    have HOP := Lib.hid hop
    have HON := Lib.hid hon
    clear hm hon hop HN HB2
    go_wp2_with fail
    refine HOP.out.mono ?_
    rintro e w4 ho
    rcases HON.out.open_ ho with ⟨hz, _⟩ | ⟨_, g, F4, rfl, hl, _⟩
    · exact absurd rfl hz
    have HCR := Lib.hid (copyRows_any A n c rs w4 (HA.out.below hl.be) (by have := HW.out; rw [total_rowsW]; omega))
    have HB4 := Lib.hid hl.sz
    have HL := Lib.hid hl
    clear ho hl HOP HON
    go_wp2_with fail
    refine HCR.out.mono ?_
    rintro e w5 ⟨A5, n5, c5, rfl, hr5, hb5⟩
    have hn5 : n5 = n := by rw [← hr5.1]; exact HNA.out
    subst hn5
    have hox := hr5.x (F := fun i => F4 i ∨ i = g) (fun i hi => hi.elim (HL.out.lt i) (fun e => e ▸ HL.out.lo.bk.lt))
    have hl := HL.out.kept hb5
    have hlay := lay_any gd g Lg.L0 F4 A5 n5 c5 rs w5 hl.lo (hox.off.less (fun i hi => .inl (.inl hi))) (by show (0 : Int) ≤ 0 ∧ (0 : Int) ≤ 1; omega) (by show 1 + 1 < _; omega) (by have := HLEN.out; have := HNA.out; omega)
      (by have := HML.out; have := Lg.H0_le; show Lg.H0.length + (Lg.whole 2 rs.length rs).length ≤ _; omega) (by have := HML.out; show 0 + (Lg.whole 2 rs.length rs).length ≤ _; omega)
    rw [Lg.ml_is HLO.out] at hlay
    have HLA := Lib.hid hlay
    have HOX := Lib.hid hox
    have HL := Lib.hid hl
    clear hr5 hb5 hox hl hlay HCR
    go_wp2_with fail
    refine HLA.out.mono ?_
    rintro e w6 hd
    obtain ⟨rfl, F6, hl, hF6, hc6⟩ := HL.out.did hd
    have hox := HOX.out.step (F' := fun i => F6 i ∨ i = g) hc6 (fun i hi => hi.elim (fun q => (hF6 i q).imp .inl id) (fun e => .inl (.inr e)))
    have hadd := add_any gd g (Lg.ml rs) F6 A5 n5 c5 rs w6 hl.lo (hox.off.less (fun i hi => .inl (.inl hi))) (by show (2 : Nat) < _; omega) (by have := HLEN.out; have := HNA.out; omega) (by show rs.length ≤ _; have := HLEN.out; omega)
      (by have := HML.out; have := Lg.H0_le; show Lg.H0.length + (Lg.frames 2 (rs.length + 1) rs).length ≤ _; omega) (by have := HML.out; show (Lg.whole 2 rs.length rs).length + (Lg.frames 2 (rs.length + 1) rs).length ≤ _; omega)
    rw [Lg.mm_is HLO.out] at hadd
    have HADD := Lib.hid hadd
    have HOX := Lib.hid hox
    have HL := Lib.hid hl
    clear hd hl hF6 hc6 hox hadd HLA
    go_wp2_with fail
    refine HADD.out.mono ?_
    rintro e w7 hd
    obtain ⟨rfl, F7, hl, hF7, hc7⟩ := HL.out.did hd
    have hox := HOX.out.step (F' := fun i => F7 i ∨ i = g) hc7 (fun i hi => hi.elim (fun q => (hF7 i q).imp .inl id) (fun e => .inl (.inr e)))
    obtain ⟨us, hxs⟩ := x_start hox
    obtain ⟨G, hG⟩ : ∃ G, G = fun i => w4.heap.size ≤ i ∧ ¬ (F7 i ∨ i = g) := ⟨_, rfl⟩
    rw [← hG] at hxs
    have HG := Lib.hid hG
    have HXS := Lib.hid hxs
    have HL := Lib.hid hl
    clear hd hl hF7 hc7 hox hxs hG HADD HOX
    go_wp2_with fail
    go_loopw [7] (fun i wr => ∃ k : Nat, k ≤ n5 ∧ i = .int .i64 (k : Nat) ∧ XRows G w7 w4.heap.size A5 n5 c5 us wr) (fun i _ => n5 - (intOf i).toNat)
    case atStart => exact ⟨0, Nat.zero_le _, rfl, HXS.out⟩
    case round =>
      clear HXS
      obtain ⟨k, hk, rfl, hx⟩ := hrel
      rename World => wr
      by_cases hkn : k < n5
      · obtain ⟨x, B, m, d, rfl, hu, hcell, hm⟩ := hx.at_ hkn
        have HX := Lib.hid hx
        have HU := Lib.hid hu
        have HKN := Lib.hid hkn
        have HM := Lib.hid hm
        have y5 : (0 : Int) ≤ (k : Int) := by omega
        have y6 : (k : Int) < (n5 : Int) := by omega
        have w1' : IntKind.i64.wrap ((k : Int) + 1) = (k : Int) + 1 := by have := HLEN.out; have := HNA.out; simp only [IntKind.wrap, IntKind.bits, IntKind.signed]; simp; omega
        clear hx hu hkn hm hcell
        go_wp2_with fail
        go_loopw [8] (fun j wr => ∃ q : Nat, q ≤ m ∧ j = .int .i64 (q : Nat) ∧ XRows G w7 w4.heap.size (some x) n5 c5 us wr) (fun j _ => m - (intOf j).toNat)
        case atStart => exact ⟨0, Nat.zero_le _, rfl, HX.out⟩
        case round =>
          clear HX
          obtain ⟨q, hq, rfl, hx⟩ := hrel
          obtain ⟨x', ex, hcell⟩ := hx.row HU.out HKN.out
          injection ex with ex
          subst ex
          by_cases hqm : q < m
          · obtain ⟨gx, z, rfl, x0, x1, hnx⟩ := hx.byte HU.out hqm
            have HNX := Lib.hid hnx
            have HQM := Lib.hid hqm
            have z5 : (0 : Int) ≤ (q : Int) := by omega
            have z6 : (q : Int) < (m : Int) := by omega
            have w2' : IntKind.i64.wrap ((q : Int) + 1) = (q : Int) + 1 := by have := HM.out; simp only [maxLen] at this; simp only [IntKind.wrap, IntKind.bits, IntKind.signed]; simp; omega
            clear hx hnx hqm
            go_wp2_with fail
            go_roundw
            case rel => exact ⟨q + 1, by have := HQM.out; omega, by go_num, HNX.out _⟩
            case measure => have := HQM.out; simp [intOf]; omega
          · have z6 : ¬ (q : Int) < (m : Int) := by omega
            have HX := Lib.hid hx
            clear hx hqm
            go_wp2_with fail
            go_roundw
            case rel => exact ⟨k + 1, by have := HKN.out; omega, by go_num, HX.out⟩
            case measure => have := HKN.out; simp [intOf]; omega
      · have y6 : ¬ (k : Int) < (n5 : Int) := by omega
        obtain ⟨_, _, hch⟩ := hx
        have hl := HL.out.other hch (fun i hi => by rw [HG.out] at hi; exact Nat.le_trans HB4.out hi.1) (fun i hf hi => by rw [HG.out] at hi; exact hi.2 (.inl hf)) (fun hi => by rw [HG.out] at hi; exact hi.2 (.inr rfl)) HT.out.1
        have HCR2 := Lib.hid (copyRows_any A n5 c rs wr (HA.out.below hl.be) (by have := HW.out; rw [total_rowsW]; omega))
        have HL := Lib.hid hl
        clear hch hl hkn hk HG
        go_wp2_with fail
        refine HCR2.out.mono ?_
        rintro e w9 ⟨A9, n9, c9, rfl, hr9, hb9⟩
        have hn9 : n9 = n5 := by rw [← hr9.1]; exact HNA.out
        rw [hn9] at hr9 ⊢
        have HB8 := Lib.hid (And.intro HL.out.lt (And.intro HL.out.lo.bk.lt HL.out.sz))
        have hl := HL.out.kept hb9
        have HR9 := Lib.hid hr9
        have HS9 := Lib.hid hb9.size
        have HCR3 := Lib.hid (copyRows_any A n5 c rs w9 (HA.out.below hl.be) (by have := HW.out; rw [total_rowsW]; omega))
        have HL := Lib.hid hl
        clear hn9 hr9 hb9 hl HCR2
        go_wp2_with fail
        refine HCR3.out.mono ?_
        rintro e w10 ⟨A10, n10, c10, rfl, hr10, hb10⟩
        have hn10 : n10 = n5 := by rw [← hr10.1]; exact HNA.out
        rw [hn10] at hr10 ⊢
        have hr9 := HR9.out.below hb10
        obtain ⟨us1, hp1⟩ := hr9.parts (B0 := wr.heap.size) (F := fun _ => False) (Nat.le_refl _)
        obtain ⟨us2, hp2⟩ := hr10.parts (B0 := wr.heap.size) (F := fun _ => False) HS9.out
        have HP1 := Lib.hid hp1
        have HP2 := Lib.hid hp2
        have HSZ10 := Lib.hid (show wr.heap.size ≤ w10.heap.size from Nat.le_trans HS9.out hb10.size)
        have HU2 := Lib.hid (show us2.length = n5 by simpa using hp2.1.1)
        have HL := Lib.hid (HL.out.kept hb10)
        have hou := hp1.1
        clear hn10 hr9 hr10 hb10 hp1 hp2 HCR3 HR9
        go_wp2_with (at_builtin
                     refine wpList_append_rd _ rfl _ _ 37 rfl wr.heap.size 32 i0 _ 24 Tryd.underlying37 hi hz0 hz1 hz2 rfl A9 n5 c9 us1 rfl hou A10 n5 c10 us2 rfl
                       (Rd.own HP2.out.1) HP2.out.cells (by have := HLEN.out; have := HNA.out; simp only [maxLen]; omega) (by have := HLEN.out; have := HNA.out; omega) HSZ10.out ?_
                     intro A11 c11 w11 hown11 hg11 hrow11
                     have hblk : ∀ i, (Value.slice A9 n5 c9).ownBlock = some i → wr.heap.size ≤ i := fun i e => (World.ownsRow.lt HP1.out.1 i e).1
                     have hch11 : Chg (fun i => (Value.slice A9 n5 c9).ownBlock = some i) w10 w11 := (Chg.refl (fun i => (Value.slice A9 n5 c9).ownBlock = some i) _).grown hg11 (fun i e => .inl e)
                     have hl := HL.out.other hch11 (fun i hi => Nat.le_trans HB8.out.2.2 (hblk i hi)) (fun i hf hi => by have := HB8.out.1 i hf; have := hblk i hi; omega) (fun hi => by have := HB8.out.2.1; have := hblk g hi; omega) HT.out.1
                     have HALLR := Lib.hid ((HP1.out.push (m := n5) HNA.out HU2.out HP2.out.2.2 hg11 hown11).rows (fun i hf => hf.elim))
                     have HRC := Lib.hid (fun W (h : Lo W F7 gd g (Lg.mm rs)) => records_any gd g (Lg.mm rs) F7 W h HGOOD.out (by show Lg.H0.length ≤ _; have := Lg.H0_le; omega) (by show (Lg.whole 2 rs.length (rs ++ rs)).length ≤ _; have := HML.out; omega) (by show (rs ++ rs).length ≤ _; rw [List.length_append]; have := HLEN.out; omega))
                     have HRC1 := Lib.hid (HRC.out w11 hl.lo)
                     have HL := Lib.hid hl
                     clear hblk hch11 hl hown11 hg11 hrow11)
        refine HRC1.out.mono ?_
        rintro e w12 ⟨A12, n12, c12, rfl, hr12', hb12⟩
        have hr12 : OwnRs w12 w11.heap.size A12 n12 c12 (rs ++ rs) := hr12'
        have hn12 : n12 ≤ 6000 := by rw [← hr12.1, List.length_append]; have := HLEN.out; omega
        have HSR := Lib.hid (sameRows_self A12 A11 n12 (n5 + n5) c12 c11 w12 (rs ++ rs) hr12.rd (HALLR.out.below hb12).rd (by simp only [maxLen]; omega))
        have HR12 := Lib.hid hr12
        have HN12 := Lib.hid hn12
        have HB12 := Lib.hid hb12
        clear hr12' hr12 hn12 hb12 HRC1
        go_wp2_with fail
        refine HSR.out.mono ?_
        rintro e w13 ⟨rfl, k13, rfl⟩
        obtain ⟨us3, hxs0⟩ := x_start ((HR12.out.drewN k13).x (F := fun _ => False) (fun i hf => hf.elim))
        have hxs' : ∃ G, (∀ i, G i → w11.heap.size ≤ i) ∧ XRows G (w12.drewN k13) w11.heap.size A12 n12 c12 us3 (w12.drewN k13) := ⟨_, fun i hi => hi.1, hxs0⟩
        obtain ⟨G2, hG2, hxs⟩ := hxs'
        have HG2 := Lib.hid hG2
        have HXS := Lib.hid hxs
        clear hG2 hxs hxs0
        go_wp2_with fail
        go_loopw [11] (fun i wx => ∃ k : Nat, k ≤ n12 ∧ i = .int .i64 (k : Nat) ∧ XRows G2 (w12.drewN k13) w11.heap.size A12 n12 c12 us3 wx) (fun i _ => n12 - (intOf i).toNat)
        case atStart => exact ⟨0, Nat.zero_le _, rfl, HXS.out⟩
        case round =>
          clear HXS
          obtain ⟨k, hk, rfl, hx⟩ := hrel
          rename World => wx
          by_cases hkn : k < n12
          · obtain ⟨x, B, m, d, rfl, hu, hcell, hm⟩ := hx.at_ hkn
            have HX := Lib.hid hx
            have HU := Lib.hid hu
            have HKN := Lib.hid hkn
            have HM := Lib.hid hm
            have z1 : (0 : Int) ≤ (k : Int) := by omega
            have z2 : (k : Int) < (n12 : Int) := by omega
            have w1' : IntKind.i64.wrap ((k : Int) + 1) = (k : Int) + 1 := by have := HN12.out; simp only [IntKind.wrap, IntKind.bits, IntKind.signed]; simp; omega
            clear hx hu hkn hm hcell
            go_wp2_with fail
            go_loopw [12] (fun j wy => ∃ q : Nat, q ≤ m ∧ j = .int .i64 (q : Nat) ∧ XRows G2 (w12.drewN k13) w11.heap.size (some x) n12 c12 us3 wy) (fun j _ => m - (intOf j).toNat)
            case atStart => exact ⟨0, Nat.zero_le _, rfl, HX.out⟩
            case round =>
              clear HX
              obtain ⟨q, hq, rfl, hx⟩ := hrel
              obtain ⟨x', ex, hcell⟩ := hx.row HU.out HKN.out
              injection ex with ex
              subst ex
              by_cases hqm : q < m
              · obtain ⟨gx, z, rfl, x0, x1, hnx⟩ := hx.byte HU.out hqm
                have HNX := Lib.hid hnx
                have HQM := Lib.hid hqm
                have z5 : (0 : Int) ≤ (q : Int) := by omega
                have z6 : (q : Int) < (m : Int) := by omega
                have w2' : IntKind.i64.wrap ((q : Int) + 1) = (q : Int) + 1 := by have := HM.out; simp only [maxLen] at this; simp only [IntKind.wrap, IntKind.bits, IntKind.signed]; simp; omega
                clear hx hnx hqm
                go_wp2_with fail
                go_roundw
                case rel => exact ⟨q + 1, by have := HQM.out; omega, by go_num, HNX.out _⟩
                case measure => have := HQM.out; simp [intOf]; omega
              · have z6 : ¬ (q : Int) < (m : Int) := by omega
                have HX := Lib.hid hx
                clear hx hqm
                go_wp2_with fail
                go_roundw
                case rel => exact ⟨k + 1, by have := HKN.out; omega, by go_num, HX.out⟩
                case measure => have := HKN.out; simp [intOf]; omega
          · have z2 : ¬ (k : Int) < (n12 : Int) := by omega
            obtain ⟨_, _, hch⟩ := hx
            have hbz : Below w11.heap.size w11 wx := (below_drewN HB12.out k13).trans (hch.below HG2.out HB12.out.size)
            have hl := HL.out.kept hbz
            have HRC1 := Lib.hid (HRC.out wx hl.lo)
            have HALLR := Lib.hid (HALLR.out.below hbz)
            have HL := Lib.hid hl
            clear hch hbz hl hkn hk
            go_wp2_with fail
            refine HRC1.out.mono ?_
            rintro e w15 ⟨A15, n15, c15, rfl, hr15', hb15⟩
            have hr15 : OwnRs w15 wx.heap.size A15 n15 c15 (rs ++ rs) := hr15'
            have hn15 : n15 ≤ 6000 := by rw [← hr15.1, List.length_append]; have := HLEN.out; omega
            have HSR := Lib.hid (sameRows_self A15 A11 n15 (n5 + n5) c15 c11 w15 (rs ++ rs) hr15.rd (HALLR.out.below hb15).rd (by simp only [maxLen]; omega))
            have HBE := Lib.hid (HL.out.kept hb15).be
            clear hr15' hr15 hn15 hb15 HRC1
            go_wp2_with fail
            refine HSR.out.mono ?_
            rintro e w16 ⟨rfl, k16, rfl⟩
            go_wp2_with fail
            go_ret
            exact ⟨rfl, below_drewN HBE.out _⟩
  · go_wp2_with fail
    go_ret
    exact ⟨rfl, HB2.out⟩
end Go.Proofs.YtmiejaohkgemnaaDoor
