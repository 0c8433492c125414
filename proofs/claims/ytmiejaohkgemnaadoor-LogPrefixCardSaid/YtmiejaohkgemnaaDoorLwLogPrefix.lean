/-
  LogPrefix: the walk.
-/
import Derived.Test.YtmiejaohkgemnaaDoorMLaw
namespace Go.Proofs.YtmiejaohkgemnaaDoor
open Go.RowKit
open Pk Sh
set_option linter.unusedVariables false
set_option maxRecDepth 100000

set_option maxHeartbeats 6400000 in
theorem logPrefix_walk (w : World) (hT : Tab w) (v0 : Value) (a : List (List UInt8)) (h0 : InR w v0 a) (v1 : Value) (b : List (List UInt8)) (h1 : InR w v1 b) (lay : Bool) (v3 : Value) (ks : List Int) (h3 : InIs w v3 ks) (p : Int) (hp : (Lit.int .i64 p).wf = true) :
    Calls Tryd.prog 5 #[v0, v1, .bool lay, v3, .int .i64 p] w (Tr w) := by
  obtain ⟨i0, hi, hz0, hz1, hz2⟩ := info_parts info_bytes
  have h0' := h0
  have h1' := h1
  obtain ⟨A, n, c, rfl, hnc, hcm, hA, hAz⟩ := h0'
  obtain ⟨B, m, d, rfl, hmd, hdm, hB, hBz⟩ := h1'
  obtain ⟨⟨C, q, qc, rfl, hqc, hqm, hC, hCw, hCz⟩, hks⟩ := h3
  have HA0 := Lib.hid h0
  have HB0 := Lib.hid h1
  have HA := Lib.hid hA
  have HB := Lib.hid hB
  have HC := Lib.hid hC
  have HNA := Lib.hid (show a.length = n from hA.1)
  have HNB := Lib.hid (show b.length = m from hB.1)
  have HKQ := Lib.hid (show q ≤ 17592186044416 by have : ks.length = q := by simpa using hC.1
                                                  omega)
  have HKW := Lib.hid (show ∀ x ∈ ks, -9223372036854775808 ≤ x ∧ x ≤ 9223372036854775807 from fun x hx => wf_i64 (hCw x hx))
  have HT := Lib.hid hT
  have HAL := Lib.hid (alive5 w hT)
  have hp2 := i64_and1 p
  obtain ⟨pw, hpw⟩ : ∃ pw, pw = p % 2 := ⟨_, rfl⟩
  rw [← hpw] at hp2
  have HPW := Lib.hid (show pw = 0 ∨ pw = 1 by omega)
  clear h0 h1 hA hB hC hnc hcm hAz hmd hdm hBz hqc hqm hCw hCz hks hT hp hpw
  go_enter Tryd.func5, Tryd.ntmps5
  go_wp2_with fail
  refine HAL.out.mono ?_
  rintro e w1 ⟨rfl, hb1⟩
  have HB1 := Lib.hid hb1
  have HGR := Lib.hid (great_two A B n c m d a b w1 (HA0.out.below hb1) (HB0.out.below hb1))
  clear hb1 HAL
  go_wp2_with fail
  refine HGR.out.mono ?_
  rintro e w2 ⟨gr, rfl, hgr, hw2⟩
  have HB2 := Lib.hid (show Below w.heap.size w w2 by rw [hw2]; exact HB1.out.alloc HB1.out.size _)
  clear hw2 HGR HB1
  cases gr
  · have hW := hgr rfl
    have HW := Lib.hid hW
    have hal : ∀ l ∈ a, l.length ≤ 65536 := fun l hl => by have := rows_each (show rowsW a ≤ 3000 by omega) l hl; omega
    have hbl : ∀ l ∈ b, l.length ≤ 65536 := fun l hl => by have := rows_each (show rowsW b ≤ 3000 by omega) l hl; omega
    have hla := rows_len a
    have hlb := rows_len b
    have HALL := Lib.hid (And.intro hal hbl)
    have HLEN := Lib.hid (show a.length ≤ 3000 ∧ b.length ≤ 3000 by omega)
    have HWA := Lib.hid (show ∀ g nn k, g ≤ 1000 → nn ≤ 10000 → (Lg.whole g nn (a ++ b.take k)).length ≤ 39031 from fun g nn k hg hn => Lg.whole_all g nn a (b.take k) hg hn (by have := rowsW_take b k; omega))
    have HLA := Lib.hid (Lg.longs_of hal)
    have hfa := Lg.frames_le 1 1 a hal
    have HFA := Lib.hid (show (Lg.frames 1 1 a).length ≤ 39000 by omega)
    have HPA := Lib.hid (show (Lg.whole 1 0 a).length ≤ 39031 by have := Lg.whole_all 1 0 a [] (by omega) (by omega) (by simp [rowsW]; omega); rwa [List.append_nil] at this)
    have HPK := Lib.hid (show ∀ (lay : Bool) (k : Nat), (Lg.pk lay a b k).D.d0.length ≤ 39031 ∧ (Lg.pk lay a b k).D.d1.length ≤ 39031 from fun lay k => by
      cases lay
      · exact ⟨HWA.out 1 0 k (by omega) (by omega), by show (0 : Nat) ≤ _; omega⟩
      · exact ⟨HPA.out, HWA.out 2 a.length k (by omega) (by have := HLEN.out; omega)⟩)
    have HN := Lib.hid (disk_new (-1) w2 (by omega))
    clear hgr hW hal hbl hla hlb hfa
    go_wp2_with fail
    refine HN.out.mono ?_
    rintro e w3 hm
    obtain ⟨gd, F3, rfl, hon, _, _⟩ := Made.on HB2.out HB2.out.size hm
    have hop := log_open gd (PD.new (-1)) F3 w3 hon.dk (Tab.on HT.out hon HT.out.1) (below_pos hon HT.out.1) (by simp [PD.new]) (by simp [PD.new])
    rw [Lg.opn_new] at hop
    have HOP := Lib.hid hop
    have HON := Lib.hid hon
    clear hm hon hop HN HB2
    go_wp2_with fail
    refine HOP.out.mono ?_
    rintro e w4 ho
    rcases HON.out.open_ ho with ⟨hz, _⟩ | ⟨_, g, F4, rfl, hl4, _⟩
    · exact absurd rfl hz
    have HCP := Lib.hid (copyRows_any A n c a w4 (HA.out.below hl4.be) (by have := HW.out; rw [total_rowsW]; omega))
    have HL4 := Lib.hid hl4
    clear ho hl4 HOP HON
    go_wp2_with fail
    refine HCP.out.mono ?_
    rintro e w5 ⟨A5, n5, c5, rfl, hr5, hb5⟩
    have hn5 : n5 = n := by rw [← hr5.1]; exact HNA.out
    subst hn5
    have hl5 := HL4.out.kept hb5
    have had := add_any gd g Lg.L0 F4 A5 n5 c5 a w5 hl5.lo (hr5.off' HL4.out.lt) (by decide) (by have := HLEN.out; have := HNA.out; omega) (by decide)
      (by have := Lg.H0_le; have := HFA.out; show Lg.H0.length + (Lg.frames 1 1 a).length ≤ _; omega)
      (by have := HFA.out; show 0 + (Lg.frames 1 1 a).length ≤ _; omega)
    rw [Lg.pa_is HLA.out] at had
    have HAD := Lib.hid had
    have HL5 := Lib.hid hl5
    clear hr5 hb5 hl5 had HCP
    go_wp2_with fail
    refine HAD.out.mono ?_
    rintro e w6 hd
    obtain ⟨rfl, F6, hl6, _, _⟩ := HL5.out.did hd
    have HL6 := Lib.hid hl6
    clear hd hl6 HAD HL5
    cases lay
    · have HLS := HL6
      have hsy := sync_log gd g (Lg.pa a) F6 w6 HLS.out.lo
      rw [show (Lg.pa a).sync = (Lg.pk false a b 0, 0) from Lg.pk_sync (a := a) (b := b) false] at hsy
      have HSY := Lib.hid hsy
      clear hsy
      go_wp2_with fail
      refine HSY.out.mono ?_
      rintro e w7 hd
      obtain ⟨rfl, F7, hl7, _, _⟩ := HLS.out.did hd
      have HL7 := Lib.hid hl7
      clear hd hl7 HSY HLS
      have HAT := Lib.hid (show ∃ F, LOn w.heap.size w w7 F gd g (Lg.pk false a b 0) from ⟨_, HL7.out⟩)
      clear HL7
      go_wp2_with fail
      go_loopw [14] (fun i wr => ∃ k F, k ≤ m ∧ i = .int .i64 (k : Nat) ∧ LOn w.heap.size w wr F gd g (Lg.pk false a b k)) (fun i _ => m - (intOf i).toNat)
      case atStart =>
        obtain ⟨F, h⟩ := HAT.out
        exact ⟨0, F, Nat.zero_le _, rfl, h⟩
      case round =>
        clear HAT
        obtain ⟨k, F, hk, rfl, hl⟩ := hrel
        have hpl : (Lg.pk false a b k).D.d0.length ≤ 39031 ∧ (Lg.pk false a b k).D.d1.length ≤ 39031 := HPK.out false k
        by_cases hlt : k < m
        · have hkb : k < b.length := by rw [HNB.out]; exact hlt
          obtain ⟨x, E, e, rfl, hbx, hc, hd1, hd2, hr, _⟩ := (HB.out.below hl.be).at_ hlt
          have hmem := HALL.out.2 _ (getD_mem (d := ([] : List UInt8)) hkb)
          have hrw := rows_each (show rowsW b ≤ 3000 by have := HW.out; omega) _ (getD_mem (d := ([] : List UInt8)) hkb)
          have had := Lg.pk_add false k hkb hmem (a := a)
          generalize b.getD k [] = z at *
          have HCB := Lib.hid (copyBytes_any E z.length e z wr hr (by omega))
          have HL := Lib.hid hl
          have HADP := Lib.hid had
          have HZ := Lib.hid hrw
          have HLT := Lib.hid hlt
          have HPL := Lib.hid hpl
          have e1 : (0 : Int) ≤ (k : Int) := by omega
          have e2 : (k : Int) < (m : Int) := by omega
          have w1' : IntKind.i64.wrap ((k : Int) + 1) = (k : Int) + 1 := by have := HLEN.out; have := HNB.out; simp only [IntKind.wrap, IntKind.bits, IntKind.signed]; simp; omega
          clear hbx hd1 hd2 hr hmem hrw had hl hkb hlt hpl
          go_wp2_with fail
          refine HCB.out.mono ?_
          rintro e w8 ⟨A8, n8, c8, rfl, ho8, hb8⟩
          have hn8 : z.length = n8 := ho8.len
          subst hn8
          have hl8 := HL.out.kept hb8
          have hro := rows_off_1 (F := F) (Sl.own ho8) (fun y ey _ hf => by have h1 := HL.out.lt _ hf; have h2 := own_block_at ho8 y ey; omega) hl8.lt w8.heap.size rfl
          have hl9 := hl8.alloc (.cells #[.slice A8 z.length c8] 32)
          have hfl := Lg.frames_le (Lg.pk false a b k).gen ((Lg.pk false a b k).list.length + 1) [z] (by have := HZ.out; simp; omega)
          simp only [rowsW] at hfl
          have hpc : (Lg.pk false a b k).list.length ≤ 6000 := by
            have h1 : (Lg.pk false a b k).list = a ++ b.take k := rfl
            rw [h1, List.length_append, List.length_take]
            have := HLEN.out; omega
          have hadd := add_any gd g (Lg.pk false a b k) F (some ⟨w8.heap.size, 0, none⟩) 1 1 [z] _ hl9.lo hro (by show 1 < _; omega) (by omega) (by omega) (by have := HPL.out; have := HZ.out; omega) (by have := HPL.out; have := HZ.out; omega)
          rw [HADP.out] at hadd
          have HADD := Lib.hid hadd
          have HL9 := Lib.hid hl9
          clear ho8 hb8 hl8 hro hl9 hfl hpc hadd HCB
          go_wp2_with fail
          refine HADD.out.mono ?_
          rintro e w10 hd
          obtain ⟨rfl, F10, hl10, _, _⟩ := HL9.out.did hd
          have HL10 := Lib.hid hl10
          clear hd hl10 HADD HL9
          go_wp2_with fail
          go_roundw
          case rel => exact ⟨k + 1, F10, by have := HLT.out; omega, by go_num, HL10.out⟩
          case measure => have := HLT.out; simp [intOf]; omega
        · have hkm : k = b.length := by rw [HNB.out]; omega
          subst hkm
          have y4 : ¬ ((b.length : Nat) : Int) < (m : Int) := by have := HNB.out; omega
          have HCI := Lib.hid (copyInts_big C q qc ks wr (HC.out.below hl.be) HKQ.out)
          have HL := Lib.hid hl
          have HPL0 := Lib.hid hpl
          clear hl hpl hlt hk
          go_wp2_with fail
          refine HCI.out.mono ?_
          rintro e w9 ⟨⟨A9, c9, rfl, ho⟩, hb9⟩
          have hl9 := HL.out.kept hb9
          have HCR := Lib.hid (disk_crash gd (Lg.pk false a b b.length).D F A9 q c9 ks pw w9 hl9.lo.dk ho.rd (by have := HKQ.out; simp only [maxLen]; omega) HKW.out (by have := HPW.out; omega) (by have := HPL0.out; omega) (by have := HPL0.out; omega))
          have HL9 := Lib.hid hl9
          clear ho hb9 hl9 HCI
          go_wp2_with fail
          refine HCR.out.mono ?_
          rintro e w10 hm
          obtain ⟨gc, F10, rfl, hon, _, _⟩ := Made.on HL9.out.be HL9.out.sz hm
          have hln := (Lg.pk false a b b.length).D.len_crash ks pw
          obtain ⟨i, hii, hcm⟩ := Lg.prefix_comes false a b ks pw HALL.out.1 HALL.out.2 (by have := HLEN.out; omega)
          obtain ⟨P2, hP2⟩ : ∃ P2, P2 = (Lg.pk false a b b.length).D.crash ks pw := ⟨_, rfl⟩
          rw [← hP2] at hon hln hcm
          have HPL := Lib.hid (show P2.d0.length ≤ 50000 ∧ P2.d1.length ≤ 50000 by have := HPL0.out; omega)
          have hop := log_open gc P2 F10 w10 hon.dk (Tab.on HT.out hon HT.out.1) (below_pos hon HT.out.1) (by have := HPL.out; omega) (by have := HPL.out; omega)
          have HOP := Lib.hid hop
          have HON := Lib.hid hon
          have HI := Lib.hid hii
          have HCOME := Lib.hid hcm
          clear hm hon hln hcm hP2 hop hii HCR HL9
          go_wp2_with fail
          refine HOP.out.mono ?_
          rintro e w11 ho
          rcases HCOME.out with ⟨hzz, hli⟩ | ⟨hz40, hzz, hli⟩
          · rcases HON.out.open_ ho with ⟨hz, _⟩ | ⟨_, gk, F11, rfl, hlT, _⟩
            · exact absurd hzz hz
            have hsz := Lg.len_opn P2
            have HSIZ := Lib.hid (show (Lg.opn P2).1.D.d0.length ≤ 1099511627776 ∧ (Lg.opn P2).1.D.d1.length ≤ 1099511627776 ∧ (Lg.opn P2).1.list.length ≤ 4294967296 from ⟨by have := HPL.out; omega, by have := HPL.out; omega, by rw [hli, List.length_append, List.length_take]; have := HLEN.out; omega⟩)
            have HGOOD := Lib.hid (Lg.opn_good hzz)
            have HLIST := Lib.hid hli
            clear ho hzz hli hsz HOP HON HCOME
            have HCPA := Lib.hid (copyRows_any A n5 c a w11 (HA.out.below hlT.be) (by have := HW.out; rw [total_rowsW]; omega))
            have HLT := Lib.hid hlT
            clear hlT
            go_wp2_with fail
            refine HCPA.out.mono ?_
            rintro e w20 ⟨A20, n20, c20, rfl, hr20, hb20⟩
            have hn20 : n20 = n5 := by rw [← hr20.1]; exact HNA.out
            rw [hn20] at hr20 ⊢
            clear hn20
            have HLT2 := Lib.hid (HLT.out.kept hb20)
            have HBK := Lib.hid (show ∀ i, (Value.slice A20 n5 c20).ownBlock = some i → w11.heap.size ≤ i from hr20.block)
            have hpt := hr20.parts (B0 := w.heap.size) (F := fun _ => False) HLT.out.sz
            have HCPB := Lib.hid (copyRows_any B m d b w20 (HB.out.below HLT2.out.be) (by have := HW.out; rw [total_rowsW]; omega))
            have HPT := Lib.hid hpt
            clear hr20 hb20 hpt HCPA
            go_wp2_with fail
            refine HCPB.out.mono ?_
            rintro e w21 ⟨A21, n21, c21, rfl, hr21, hb21⟩
            have hn21 : n21 = m := by rw [← hr21.1]; exact HNB.out
            rw [hn21] at hr21 ⊢
            clear hn21
            have HLT3 := Lib.hid (HLT2.out.kept hb21)
            obtain ⟨us1, hp1⟩ := HPT.out
            have hp1 := hp1.below hb21
            obtain ⟨us2, hp2'⟩ := hr21.parts (B0 := w.heap.size) (F := fun _ => False) HLT2.out.sz
            have HP1 := Lib.hid hp1
            have HP2 := Lib.hid hp2'
            have HR2 := Lib.hid (Rd.own hp2'.1)
            have hou := hp1.1
            have HSZ := Lib.hid (show w.heap.size ≤ w21.heap.size from HLT3.out.sz)
            have HLB := Lib.hid (show n5 ≤ 3000 ∧ m ≤ 3000 by have h1 := HLEN.out; have h2 := HNA.out; have h3 := HNB.out; omega)
            clear hr21 hb21 hp1 hp2' HCPB
            go_wp2_with (at_builtin
                         refine wpList_append_rd _ rfl _ _ 37 rfl w.heap.size 32 i0 _ 24 Tryd.underlying37 hi hz0 hz1 hz2 rfl A20 n5 c20 us1 rfl hou A21 m c21 us2 rfl
                           HR2.out HP2.out.cells (by have := HLB.out; simp only [maxLen]; omega) (by have := HLB.out; omega) HSZ.out ?_
                         intro A22 c22 w22 hown22 hg22 hrow22
                         have HOW := Lib.hid hown22
                         have HGR := Lib.hid hg22
                         have HRC := Lib.hid (show LOn w.heap.size w w22 F11 gc gk (Lg.opn P2).1 from HLT3.out.other ((Chg.refl (fun i => (Value.slice A20 n5 c20).ownBlock = some i) _).grown hg22 (fun i e => .inl e)) (fun i e => Nat.le_trans HLT.out.sz (HBK.out i e)) (fun i hf e => by have h1 := HLT.out.lt i hf; have h2 := HBK.out i e; omega) (fun e => by have h1 := HLT.out.lo.bk.lt; have h2 := HBK.out _ e; omega) HT.out.1)
                         have HRE := Lib.hid (records_any gc gk (Lg.opn P2).1 F11 w22 HRC.out.lo HGOOD.out HSIZ.out.1 HSIZ.out.2.1 HSIZ.out.2.2)
                         clear hown22 hg22 hrow22)
            refine HRE.out.mono ?_
            rintro e w23 ⟨A23, n23, c23, rfl, hr23, hb23⟩
            have hll : (Lg.opn P2).1.list.length = n5 + i := by rw [HLIST.out, List.length_append, List.length_take, HNA.out]; have := HI.out; omega
            have hn23 : n23 = n5 + i := by rw [← hr23.1]; exact hll
            rw [hn23, HLIST.out] at hr23
            rw [hn23]
            have hown := HOW.out
            have hcap : n5 + m ≤ c22 ∧ c22 ≤ maxLen := by
              rcases hown.2 with ⟨e1, e2⟩ | ⟨g', cap', cur', e1, _, _, hnc', hcm', _⟩
              · injection e1 with _ _ e5
                subst e5
                exact ⟨by omega, by simp [maxLen]⟩
              · injection e1 with _ _ e5
                subst e5
                exact ⟨hnc', hcm'⟩
            have hall := (HP1.out.push (m := m) HP2.out.2.1 (by simpa using HP2.out.1.1) (fun k u l hu hl => HP2.out.2.2 k u l hu hl) HGR.out hown).rows (fun i hf => hf.elim)
            have hfs := (hall.rd.below hb23).fst (k := n5 + i) (by have := HI.out; have := HNB.out; omega)
            have htk : (a ++ b).take (n5 + i) = a ++ b.take i := by rw [← HNA.out, List.take_length_add_append]
            rw [htk] at hfs
            have hsl := rows_h A22 (n5 + m) c22 (n5 + i) (by have := HI.out; have := HNB.out; omega) hcap.2
            have HSR := Lib.hid (sameRows_self A23 A22 (n5 + i) (n5 + i) c23 c22 w23 (a ++ b.take i) hr23.rd hfs (by have := HLB.out; have := HI.out; have := HNB.out; simp only [maxLen]; omega))
            have hcast : ((n5 + i : Nat) : Int) = (n5 : Int) + (i : Int) := by omega
            rw [hcast] at hsl
            have y1 : (n5 : Int) ≤ (n5 : Int) + (i : Int) := by omega
            have y2 : i ≤ m := by have := HI.out; have := HNB.out; omega
            have HFIN := Lib.hid (HRC.out.kept hb23).be
            clear hll hn23 hr23 hown hcap hall hfs htk hb23 hcast
            go_wp2_with fail
            refine HSR.out.mono ?_
            rintro e w24 ⟨rfl, mm, rfl⟩
            go_wp2_with fail
            go_ret
            exact ⟨rfl, below_drewN HFIN.out _⟩
          · rcases HON.out.open_ ho with ⟨_, rfl, F11, hon, _⟩ | ⟨hz, _⟩
            · rw [hz40]
              have hsz := Lg.len_opn P2
              have hcr := disk_crash gc (Lg.opn P2).1.D F11 none 0 0 [] (-1) w11 hon.dk (Rd.nil_ _ _) (by simp [maxLen]) (by simp) (by omega) (by have := HPL.out; omega) (by have := HPL.out; omega)
              have hln := (Lg.opn P2).1.D.len_crash [] (-1)
              have HPL2 := Lib.hid (show ((Lg.opn P2).1.D.crash [] (-1)).d0.length ≤ 60000 ∧ ((Lg.opn P2).1.D.crash [] (-1)).d1.length ≤ 60000 by have := HPL.out; omega)
              obtain ⟨P3, hP3⟩ : ∃ P3, P3 = (Lg.opn P2).1.D.crash [] (-1) := ⟨_, rfl⟩
              rw [← hP3] at hcr HPL2 hzz hli
              have HPL := HPL2
              have HCR := Lib.hid hcr
              have HON := Lib.hid hon
              have HZZ := Lib.hid hzz
              have HLI := Lib.hid hli
              clear ho hz40 hzz hli hon hsz hcr hln hP3 HOP HCOME HPL2
              go_wp2_with fail
              refine HCR.out.mono ?_
              rintro e w12 hm
              obtain ⟨gf, F12, rfl, hon, _, _⟩ := Made.on HON.out.be HON.out.sz hm
              have hop := log_open gf P3 F12 w12 hon.dk (Tab.on HT.out hon HT.out.1) (below_pos hon HT.out.1) (by have := HPL.out; omega) (by have := HPL.out; omega)
              have HOP := Lib.hid hop
              have HON := Lib.hid hon
              clear hm hon hop HCR
              go_wp2_with fail
              refine HOP.out.mono ?_
              rintro e w13 ho
              have hzz := HZZ.out
              have hli := HLI.out
              rcases HON.out.open_ ho with ⟨hz, _⟩ | ⟨_, gk, F13, rfl, hlT, _⟩
              · exact absurd hzz hz
              have hsz := Lg.len_opn P3
              have HSIZ := Lib.hid (show (Lg.opn P3).1.D.d0.length ≤ 1099511627776 ∧ (Lg.opn P3).1.D.d1.length ≤ 1099511627776 ∧ (Lg.opn P3).1.list.length ≤ 4294967296 from ⟨by have := HPL.out; omega, by have := HPL.out; omega, by rw [hli, List.length_append, List.length_take]; have := HLEN.out; omega⟩)
              have HGOOD := Lib.hid (Lg.opn_good hzz)
              have HLIST := Lib.hid hli
              clear ho hzz hli hsz HOP HON HZZ HLI
              have HCPA := Lib.hid (copyRows_any A n5 c a w13 (HA.out.below hlT.be) (by have := HW.out; rw [total_rowsW]; omega))
              have HLT := Lib.hid hlT
              clear hlT
              go_wp2_with fail
              refine HCPA.out.mono ?_
              rintro e w20 ⟨A20, n20, c20, rfl, hr20, hb20⟩
              have hn20 : n20 = n5 := by rw [← hr20.1]; exact HNA.out
              rw [hn20] at hr20 ⊢
              clear hn20
              have HLT2 := Lib.hid (HLT.out.kept hb20)
              have HBK := Lib.hid (show ∀ i, (Value.slice A20 n5 c20).ownBlock = some i → w13.heap.size ≤ i from hr20.block)
              have hpt := hr20.parts (B0 := w.heap.size) (F := fun _ => False) HLT.out.sz
              have HCPB := Lib.hid (copyRows_any B m d b w20 (HB.out.below HLT2.out.be) (by have := HW.out; rw [total_rowsW]; omega))
              have HPT := Lib.hid hpt
              clear hr20 hb20 hpt HCPA
              go_wp2_with fail
              refine HCPB.out.mono ?_
              rintro e w21 ⟨A21, n21, c21, rfl, hr21, hb21⟩
              have hn21 : n21 = m := by rw [← hr21.1]; exact HNB.out
              rw [hn21] at hr21 ⊢
              clear hn21
              have HLT3 := Lib.hid (HLT2.out.kept hb21)
              obtain ⟨us1, hp1⟩ := HPT.out
              have hp1 := hp1.below hb21
              obtain ⟨us2, hp2'⟩ := hr21.parts (B0 := w.heap.size) (F := fun _ => False) HLT2.out.sz
              have HP1 := Lib.hid hp1
              have HP2 := Lib.hid hp2'
              have HR2 := Lib.hid (Rd.own hp2'.1)
              have hou := hp1.1
              have HSZ := Lib.hid (show w.heap.size ≤ w21.heap.size from HLT3.out.sz)
              have HLB := Lib.hid (show n5 ≤ 3000 ∧ m ≤ 3000 by have h1 := HLEN.out; have h2 := HNA.out; have h3 := HNB.out; omega)
              clear hr21 hb21 hp1 hp2' HCPB
              go_wp2_with (at_builtin
                           refine wpList_append_rd _ rfl _ _ 37 rfl w.heap.size 32 i0 _ 24 Tryd.underlying37 hi hz0 hz1 hz2 rfl A20 n5 c20 us1 rfl hou A21 m c21 us2 rfl
                             HR2.out HP2.out.cells (by have := HLB.out; simp only [maxLen]; omega) (by have := HLB.out; omega) HSZ.out ?_
                           intro A22 c22 w22 hown22 hg22 hrow22
                           have HOW := Lib.hid hown22
                           have HGR := Lib.hid hg22
                           have HRC := Lib.hid (show LOn w.heap.size w w22 F13 gf gk (Lg.opn P3).1 from HLT3.out.other ((Chg.refl (fun i => (Value.slice A20 n5 c20).ownBlock = some i) _).grown hg22 (fun i e => .inl e)) (fun i e => Nat.le_trans HLT.out.sz (HBK.out i e)) (fun i hf e => by have h1 := HLT.out.lt i hf; have h2 := HBK.out i e; omega) (fun e => by have h1 := HLT.out.lo.bk.lt; have h2 := HBK.out _ e; omega) HT.out.1)
                           have HRE := Lib.hid (records_any gf gk (Lg.opn P3).1 F13 w22 HRC.out.lo HGOOD.out HSIZ.out.1 HSIZ.out.2.1 HSIZ.out.2.2)
                           clear hown22 hg22 hrow22)
              refine HRE.out.mono ?_
              rintro e w23 ⟨A23, n23, c23, rfl, hr23, hb23⟩
              have hll : (Lg.opn P3).1.list.length = n5 + i := by rw [HLIST.out, List.length_append, List.length_take, HNA.out]; have := HI.out; omega
              have hn23 : n23 = n5 + i := by rw [← hr23.1]; exact hll
              rw [hn23, HLIST.out] at hr23
              rw [hn23]
              have hown := HOW.out
              have hcap : n5 + m ≤ c22 ∧ c22 ≤ maxLen := by
                rcases hown.2 with ⟨e1, e2⟩ | ⟨g', cap', cur', e1, _, _, hnc', hcm', _⟩
                · injection e1 with _ _ e5
                  subst e5
                  exact ⟨by omega, by simp [maxLen]⟩
                · injection e1 with _ _ e5
                  subst e5
                  exact ⟨hnc', hcm'⟩
              have hall := (HP1.out.push (m := m) HP2.out.2.1 (by simpa using HP2.out.1.1) (fun k u l hu hl => HP2.out.2.2 k u l hu hl) HGR.out hown).rows (fun i hf => hf.elim)
              have hfs := (hall.rd.below hb23).fst (k := n5 + i) (by have := HI.out; have := HNB.out; omega)
              have htk : (a ++ b).take (n5 + i) = a ++ b.take i := by rw [← HNA.out, List.take_length_add_append]
              rw [htk] at hfs
              have hsl := rows_h A22 (n5 + m) c22 (n5 + i) (by have := HI.out; have := HNB.out; omega) hcap.2
              have HSR := Lib.hid (sameRows_self A23 A22 (n5 + i) (n5 + i) c23 c22 w23 (a ++ b.take i) hr23.rd hfs (by have := HLB.out; have := HI.out; have := HNB.out; simp only [maxLen]; omega))
              have hcast : ((n5 + i : Nat) : Int) = (n5 : Int) + (i : Int) := by omega
              rw [hcast] at hsl
              have y1 : (n5 : Int) ≤ (n5 : Int) + (i : Int) := by omega
              have y2 : i ≤ m := by have := HI.out; have := HNB.out; omega
              have HFIN := Lib.hid (HRC.out.kept hb23).be
              clear hll hn23 hr23 hown hcap hall hfs htk hb23 hcast
              go_wp2_with fail
              refine HSR.out.mono ?_
              rintro e w24 ⟨rfl, mm, rfl⟩
              go_wp2_with fail
              go_ret
              exact ⟨rfl, below_drewN HFIN.out _⟩
            · rw [hz40] at hz
              exact absurd hz (by decide)
    · have HCP2 := Lib.hid (copyRows_any A n5 c a w6 (HA.out.below HL6.out.be) (by have := HW.out; rw [total_rowsW]; omega))
      go_wp2_with fail
      refine HCP2.out.mono ?_
      rintro e w6b ⟨A6, n6, c6, rfl, hr6, hb6⟩
      have hn6 : n6 = n5 := by rw [← hr6.1]; exact HNA.out
      subst hn6
      have hl6 := HL6.out.kept hb6
      have hlay := lay_any gd g (Lg.pa a) F6 A6 n6 c6 a w6b hl6.lo (hr6.off' HL6.out.lt) (by show (0 : Int) ≤ 0 ∧ (0 : Int) ≤ 1; omega) (by show 1 + 1 < _; omega) (by have := HLEN.out; have := HNA.out; omega)
        (by have h1 := HPK.out false 0; have h2 := HWA.out 2 a.length 0 (by omega) (by have := HLEN.out; omega); rw [List.take_zero, List.append_nil] at h2; have h3 := HPA.out; show (Lg.whole 1 0 a).length + (Lg.whole 2 a.length a).length ≤ _; omega)
        (by have h2 := HWA.out 2 a.length 0 (by omega) (by have := HLEN.out; omega); rw [List.take_zero, List.append_nil] at h2; show 0 + (Lg.whole 2 a.length a).length ≤ _; omega)
      rw [Lg.pl_is HLA.out] at hlay
      have HLAY := Lib.hid hlay
      have HL6b := Lib.hid hl6
      clear hr6 hb6 hl6 hlay HCP2 HL6
      go_wp2_with fail
      refine HLAY.out.mono ?_
      rintro e w6c hd
      obtain ⟨rfl, F6c, hl6c, _, _⟩ := HL6b.out.did hd
      have HLS := Lib.hid hl6c
      clear hd hl6c HLAY HL6b
      have hsy := sync_log gd g (Lg.pl a) F6c w6c HLS.out.lo
      rw [show (Lg.pl a).sync = (Lg.pk true a b 0, 0) from Lg.pk_sync (a := a) (b := b) true] at hsy
      have HSY := Lib.hid hsy
      clear hsy
      go_wp2_with fail
      refine HSY.out.mono ?_
      rintro e w7 hd
      obtain ⟨rfl, F7, hl7, _, _⟩ := HLS.out.did hd
      have HL7 := Lib.hid hl7
      clear hd hl7 HSY HLS
      have HAT := Lib.hid (show ∃ F, LOn w.heap.size w w7 F gd g (Lg.pk true a b 0) from ⟨_, HL7.out⟩)
      clear HL7
      go_wp2_with fail
      go_loopw [14] (fun i wr => ∃ k F, k ≤ m ∧ i = .int .i64 (k : Nat) ∧ LOn w.heap.size w wr F gd g (Lg.pk true a b k)) (fun i _ => m - (intOf i).toNat)
      case atStart =>
        obtain ⟨F, h⟩ := HAT.out
        exact ⟨0, F, Nat.zero_le _, rfl, h⟩
      case round =>
        clear HAT
        obtain ⟨k, F, hk, rfl, hl⟩ := hrel
        have hpl : (Lg.pk true a b k).D.d0.length ≤ 39031 ∧ (Lg.pk true a b k).D.d1.length ≤ 39031 := HPK.out true k
        by_cases hlt : k < m
        · have hkb : k < b.length := by rw [HNB.out]; exact hlt
          obtain ⟨x, E, e, rfl, hbx, hc, hd1, hd2, hr, _⟩ := (HB.out.below hl.be).at_ hlt
          have hmem := HALL.out.2 _ (getD_mem (d := ([] : List UInt8)) hkb)
          have hrw := rows_each (show rowsW b ≤ 3000 by have := HW.out; omega) _ (getD_mem (d := ([] : List UInt8)) hkb)
          have had := Lg.pk_add true k hkb hmem (a := a)
          generalize b.getD k [] = z at *
          have HCB := Lib.hid (copyBytes_any E z.length e z wr hr (by omega))
          have HL := Lib.hid hl
          have HADP := Lib.hid had
          have HZ := Lib.hid hrw
          have HLT := Lib.hid hlt
          have HPL := Lib.hid hpl
          have e1 : (0 : Int) ≤ (k : Int) := by omega
          have e2 : (k : Int) < (m : Int) := by omega
          have w1' : IntKind.i64.wrap ((k : Int) + 1) = (k : Int) + 1 := by have := HLEN.out; have := HNB.out; simp only [IntKind.wrap, IntKind.bits, IntKind.signed]; simp; omega
          clear hbx hd1 hd2 hr hmem hrw had hl hkb hlt hpl
          go_wp2_with fail
          refine HCB.out.mono ?_
          rintro e w8 ⟨A8, n8, c8, rfl, ho8, hb8⟩
          have hn8 : z.length = n8 := ho8.len
          subst hn8
          have hl8 := HL.out.kept hb8
          have hro := rows_off_1 (F := F) (Sl.own ho8) (fun y ey _ hf => by have h1 := HL.out.lt _ hf; have h2 := own_block_at ho8 y ey; omega) hl8.lt w8.heap.size rfl
          have hl9 := hl8.alloc (.cells #[.slice A8 z.length c8] 32)
          have hfl := Lg.frames_le (Lg.pk true a b k).gen ((Lg.pk true a b k).list.length + 1) [z] (by have := HZ.out; simp; omega)
          simp only [rowsW] at hfl
          have hpc : (Lg.pk true a b k).list.length ≤ 6000 := by
            have h1 : (Lg.pk true a b k).list = a ++ b.take k := rfl
            rw [h1, List.length_append, List.length_take]
            have := HLEN.out; omega
          have hadd := add_any gd g (Lg.pk true a b k) F (some ⟨w8.heap.size, 0, none⟩) 1 1 [z] _ hl9.lo hro (by show 2 < _; omega) (by omega) (by omega) (by have := HPL.out; have := HZ.out; omega) (by have := HPL.out; have := HZ.out; omega)
          rw [HADP.out] at hadd
          have HADD := Lib.hid hadd
          have HL9 := Lib.hid hl9
          clear ho8 hb8 hl8 hro hl9 hfl hpc hadd HCB
          go_wp2_with fail
          refine HADD.out.mono ?_
          rintro e w10 hd
          obtain ⟨rfl, F10, hl10, _, _⟩ := HL9.out.did hd
          have HL10 := Lib.hid hl10
          clear hd hl10 HADD HL9
          go_wp2_with fail
          go_roundw
          case rel => exact ⟨k + 1, F10, by have := HLT.out; omega, by go_num, HL10.out⟩
          case measure => have := HLT.out; simp [intOf]; omega
        · have hkm : k = b.length := by rw [HNB.out]; omega
          subst hkm
          have y4 : ¬ ((b.length : Nat) : Int) < (m : Int) := by have := HNB.out; omega
          have HCI := Lib.hid (copyInts_big C q qc ks wr (HC.out.below hl.be) HKQ.out)
          have HL := Lib.hid hl
          have HPL0 := Lib.hid hpl
          clear hl hpl hlt hk
          go_wp2_with fail
          refine HCI.out.mono ?_
          rintro e w9 ⟨⟨A9, c9, rfl, ho⟩, hb9⟩
          have hl9 := HL.out.kept hb9
          have HCR := Lib.hid (disk_crash gd (Lg.pk true a b b.length).D F A9 q c9 ks pw w9 hl9.lo.dk ho.rd (by have := HKQ.out; simp only [maxLen]; omega) HKW.out (by have := HPW.out; omega) (by have := HPL0.out; omega) (by have := HPL0.out; omega))
          have HL9 := Lib.hid hl9
          clear ho hb9 hl9 HCI
          go_wp2_with fail
          refine HCR.out.mono ?_
          rintro e w10 hm
          obtain ⟨gc, F10, rfl, hon, _, _⟩ := Made.on HL9.out.be HL9.out.sz hm
          have hln := (Lg.pk true a b b.length).D.len_crash ks pw
          obtain ⟨i, hii, hcm⟩ := Lg.prefix_comes true a b ks pw HALL.out.1 HALL.out.2 (by have := HLEN.out; omega)
          obtain ⟨P2, hP2⟩ : ∃ P2, P2 = (Lg.pk true a b b.length).D.crash ks pw := ⟨_, rfl⟩
          rw [← hP2] at hon hln hcm
          have HPL := Lib.hid (show P2.d0.length ≤ 50000 ∧ P2.d1.length ≤ 50000 by have := HPL0.out; omega)
          have hop := log_open gc P2 F10 w10 hon.dk (Tab.on HT.out hon HT.out.1) (below_pos hon HT.out.1) (by have := HPL.out; omega) (by have := HPL.out; omega)
          have HOP := Lib.hid hop
          have HON := Lib.hid hon
          have HI := Lib.hid hii
          have HCOME := Lib.hid hcm
          clear hm hon hln hcm hP2 hop hii HCR HL9
          go_wp2_with fail
          refine HOP.out.mono ?_
          rintro e w11 ho
          rcases HCOME.out with ⟨hzz, hli⟩ | ⟨hz40, hzz, hli⟩
          · rcases HON.out.open_ ho with ⟨hz, _⟩ | ⟨_, gk, F11, rfl, hlT, _⟩
            · exact absurd hzz hz
            have hsz := Lg.len_opn P2
            have HSIZ := Lib.hid (show (Lg.opn P2).1.D.d0.length ≤ 1099511627776 ∧ (Lg.opn P2).1.D.d1.length ≤ 1099511627776 ∧ (Lg.opn P2).1.list.length ≤ 4294967296 from ⟨by have := HPL.out; omega, by have := HPL.out; omega, by rw [hli, List.length_append, List.length_take]; have := HLEN.out; omega⟩)
            have HGOOD := Lib.hid (Lg.opn_good hzz)
            have HLIST := Lib.hid hli
            clear ho hzz hli hsz HOP HON HCOME
            have HCPA := Lib.hid (copyRows_any A n6 c a w11 (HA.out.below hlT.be) (by have := HW.out; rw [total_rowsW]; omega))
            have HLT := Lib.hid hlT
            clear hlT
            go_wp2_with fail
            refine HCPA.out.mono ?_
            rintro e w20 ⟨A20, n20, c20, rfl, hr20, hb20⟩
            have hn20 : n20 = n6 := by rw [← hr20.1]; exact HNA.out
            rw [hn20] at hr20 ⊢
            clear hn20
            have HLT2 := Lib.hid (HLT.out.kept hb20)
            have HBK := Lib.hid (show ∀ i, (Value.slice A20 n6 c20).ownBlock = some i → w11.heap.size ≤ i from hr20.block)
            have hpt := hr20.parts (B0 := w.heap.size) (F := fun _ => False) HLT.out.sz
            have HCPB := Lib.hid (copyRows_any B m d b w20 (HB.out.below HLT2.out.be) (by have := HW.out; rw [total_rowsW]; omega))
            have HPT := Lib.hid hpt
            clear hr20 hb20 hpt HCPA
            go_wp2_with fail
            refine HCPB.out.mono ?_
            rintro e w21 ⟨A21, n21, c21, rfl, hr21, hb21⟩
            have hn21 : n21 = m := by rw [← hr21.1]; exact HNB.out
            rw [hn21] at hr21 ⊢
            clear hn21
            have HLT3 := Lib.hid (HLT2.out.kept hb21)
            obtain ⟨us1, hp1⟩ := HPT.out
            have hp1 := hp1.below hb21
            obtain ⟨us2, hp2'⟩ := hr21.parts (B0 := w.heap.size) (F := fun _ => False) HLT2.out.sz
            have HP1 := Lib.hid hp1
            have HP2 := Lib.hid hp2'
            have HR2 := Lib.hid (Rd.own hp2'.1)
            have hou := hp1.1
            have HSZ := Lib.hid (show w.heap.size ≤ w21.heap.size from HLT3.out.sz)
            have HLB := Lib.hid (show n6 ≤ 3000 ∧ m ≤ 3000 by have h1 := HLEN.out; have h2 := HNA.out; have h3 := HNB.out; omega)
            clear hr21 hb21 hp1 hp2' HCPB
            go_wp2_with (at_builtin
                         refine wpList_append_rd _ rfl _ _ 37 rfl w.heap.size 32 i0 _ 24 Tryd.underlying37 hi hz0 hz1 hz2 rfl A20 n6 c20 us1 rfl hou A21 m c21 us2 rfl
                           HR2.out HP2.out.cells (by have := HLB.out; simp only [maxLen]; omega) (by have := HLB.out; omega) HSZ.out ?_
                         intro A22 c22 w22 hown22 hg22 hrow22
                         have HOW := Lib.hid hown22
                         have HGR := Lib.hid hg22
                         have HRC := Lib.hid (show LOn w.heap.size w w22 F11 gc gk (Lg.opn P2).1 from HLT3.out.other ((Chg.refl (fun i => (Value.slice A20 n6 c20).ownBlock = some i) _).grown hg22 (fun i e => .inl e)) (fun i e => Nat.le_trans HLT.out.sz (HBK.out i e)) (fun i hf e => by have h1 := HLT.out.lt i hf; have h2 := HBK.out i e; omega) (fun e => by have h1 := HLT.out.lo.bk.lt; have h2 := HBK.out _ e; omega) HT.out.1)
                         have HRE := Lib.hid (records_any gc gk (Lg.opn P2).1 F11 w22 HRC.out.lo HGOOD.out HSIZ.out.1 HSIZ.out.2.1 HSIZ.out.2.2)
                         clear hown22 hg22 hrow22)
            refine HRE.out.mono ?_
            rintro e w23 ⟨A23, n23, c23, rfl, hr23, hb23⟩
            have hll : (Lg.opn P2).1.list.length = n6 + i := by rw [HLIST.out, List.length_append, List.length_take, HNA.out]; have := HI.out; omega
            have hn23 : n23 = n6 + i := by rw [← hr23.1]; exact hll
            rw [hn23, HLIST.out] at hr23
            rw [hn23]
            have hown := HOW.out
            have hcap : n6 + m ≤ c22 ∧ c22 ≤ maxLen := by
              rcases hown.2 with ⟨e1, e2⟩ | ⟨g', cap', cur', e1, _, _, hnc', hcm', _⟩
              · injection e1 with _ _ e5
                subst e5
                exact ⟨by omega, by simp [maxLen]⟩
              · injection e1 with _ _ e5
                subst e5
                exact ⟨hnc', hcm'⟩
            have hall := (HP1.out.push (m := m) HP2.out.2.1 (by simpa using HP2.out.1.1) (fun k u l hu hl => HP2.out.2.2 k u l hu hl) HGR.out hown).rows (fun i hf => hf.elim)
            have hfs := (hall.rd.below hb23).fst (k := n6 + i) (by have := HI.out; have := HNB.out; omega)
            have htk : (a ++ b).take (n6 + i) = a ++ b.take i := by rw [← HNA.out, List.take_length_add_append]
            rw [htk] at hfs
            have hsl := rows_h A22 (n6 + m) c22 (n6 + i) (by have := HI.out; have := HNB.out; omega) hcap.2
            have HSR := Lib.hid (sameRows_self A23 A22 (n6 + i) (n6 + i) c23 c22 w23 (a ++ b.take i) hr23.rd hfs (by have := HLB.out; have := HI.out; have := HNB.out; simp only [maxLen]; omega))
            have hcast : ((n6 + i : Nat) : Int) = (n6 : Int) + (i : Int) := by omega
            rw [hcast] at hsl
            have y1 : (n6 : Int) ≤ (n6 : Int) + (i : Int) := by omega
            have y2 : i ≤ m := by have := HI.out; have := HNB.out; omega
            have HFIN := Lib.hid (HRC.out.kept hb23).be
            clear hll hn23 hr23 hown hcap hall hfs htk hb23 hcast
            go_wp2_with fail
            refine HSR.out.mono ?_
            rintro e w24 ⟨rfl, mm, rfl⟩
            go_wp2_with fail
            go_ret
            exact ⟨rfl, below_drewN HFIN.out _⟩
          · rcases HON.out.open_ ho with ⟨_, rfl, F11, hon, _⟩ | ⟨hz, _⟩
            · rw [hz40]
              have hsz := Lg.len_opn P2
              have hcr := disk_crash gc (Lg.opn P2).1.D F11 none 0 0 [] (-1) w11 hon.dk (Rd.nil_ _ _) (by simp [maxLen]) (by simp) (by omega) (by have := HPL.out; omega) (by have := HPL.out; omega)
              have hln := (Lg.opn P2).1.D.len_crash [] (-1)
              have HPL2 := Lib.hid (show ((Lg.opn P2).1.D.crash [] (-1)).d0.length ≤ 60000 ∧ ((Lg.opn P2).1.D.crash [] (-1)).d1.length ≤ 60000 by have := HPL.out; omega)
              obtain ⟨P3, hP3⟩ : ∃ P3, P3 = (Lg.opn P2).1.D.crash [] (-1) := ⟨_, rfl⟩
              rw [← hP3] at hcr HPL2 hzz hli
              have HPL := HPL2
              have HCR := Lib.hid hcr
              have HON := Lib.hid hon
              have HZZ := Lib.hid hzz
              have HLI := Lib.hid hli
              clear ho hz40 hzz hli hon hsz hcr hln hP3 HOP HCOME HPL2
              go_wp2_with fail
              refine HCR.out.mono ?_
              rintro e w12 hm
              obtain ⟨gf, F12, rfl, hon, _, _⟩ := Made.on HON.out.be HON.out.sz hm
              have hop := log_open gf P3 F12 w12 hon.dk (Tab.on HT.out hon HT.out.1) (below_pos hon HT.out.1) (by have := HPL.out; omega) (by have := HPL.out; omega)
              have HOP := Lib.hid hop
              have HON := Lib.hid hon
              clear hm hon hop HCR
              go_wp2_with fail
              refine HOP.out.mono ?_
              rintro e w13 ho
              have hzz := HZZ.out
              have hli := HLI.out
              rcases HON.out.open_ ho with ⟨hz, _⟩ | ⟨_, gk, F13, rfl, hlT, _⟩
              · exact absurd hzz hz
              have hsz := Lg.len_opn P3
              have HSIZ := Lib.hid (show (Lg.opn P3).1.D.d0.length ≤ 1099511627776 ∧ (Lg.opn P3).1.D.d1.length ≤ 1099511627776 ∧ (Lg.opn P3).1.list.length ≤ 4294967296 from ⟨by have := HPL.out; omega, by have := HPL.out; omega, by rw [hli, List.length_append, List.length_take]; have := HLEN.out; omega⟩)
              have HGOOD := Lib.hid (Lg.opn_good hzz)
              have HLIST := Lib.hid hli
              clear ho hzz hli hsz HOP HON HZZ HLI
              have HCPA := Lib.hid (copyRows_any A n6 c a w13 (HA.out.below hlT.be) (by have := HW.out; rw [total_rowsW]; omega))
              have HLT := Lib.hid hlT
              clear hlT
              go_wp2_with fail
              refine HCPA.out.mono ?_
              rintro e w20 ⟨A20, n20, c20, rfl, hr20, hb20⟩
              have hn20 : n20 = n6 := by rw [← hr20.1]; exact HNA.out
              rw [hn20] at hr20 ⊢
              clear hn20
              have HLT2 := Lib.hid (HLT.out.kept hb20)
              have HBK := Lib.hid (show ∀ i, (Value.slice A20 n6 c20).ownBlock = some i → w13.heap.size ≤ i from hr20.block)
              have hpt := hr20.parts (B0 := w.heap.size) (F := fun _ => False) HLT.out.sz
              have HCPB := Lib.hid (copyRows_any B m d b w20 (HB.out.below HLT2.out.be) (by have := HW.out; rw [total_rowsW]; omega))
              have HPT := Lib.hid hpt
              clear hr20 hb20 hpt HCPA
              go_wp2_with fail
              refine HCPB.out.mono ?_
              rintro e w21 ⟨A21, n21, c21, rfl, hr21, hb21⟩
              have hn21 : n21 = m := by rw [← hr21.1]; exact HNB.out
              rw [hn21] at hr21 ⊢
              clear hn21
              have HLT3 := Lib.hid (HLT2.out.kept hb21)
              obtain ⟨us1, hp1⟩ := HPT.out
              have hp1 := hp1.below hb21
              obtain ⟨us2, hp2'⟩ := hr21.parts (B0 := w.heap.size) (F := fun _ => False) HLT2.out.sz
              have HP1 := Lib.hid hp1
              have HP2 := Lib.hid hp2'
              have HR2 := Lib.hid (Rd.own hp2'.1)
              have hou := hp1.1
              have HSZ := Lib.hid (show w.heap.size ≤ w21.heap.size from HLT3.out.sz)
              have HLB := Lib.hid (show n6 ≤ 3000 ∧ m ≤ 3000 by have h1 := HLEN.out; have h2 := HNA.out; have h3 := HNB.out; omega)
              clear hr21 hb21 hp1 hp2' HCPB
              go_wp2_with (at_builtin
                           refine wpList_append_rd _ rfl _ _ 37 rfl w.heap.size 32 i0 _ 24 Tryd.underlying37 hi hz0 hz1 hz2 rfl A20 n6 c20 us1 rfl hou A21 m c21 us2 rfl
                             HR2.out HP2.out.cells (by have := HLB.out; simp only [maxLen]; omega) (by have := HLB.out; omega) HSZ.out ?_
                           intro A22 c22 w22 hown22 hg22 hrow22
                           have HOW := Lib.hid hown22
                           have HGR := Lib.hid hg22
                           have HRC := Lib.hid (show LOn w.heap.size w w22 F13 gf gk (Lg.opn P3).1 from HLT3.out.other ((Chg.refl (fun i => (Value.slice A20 n6 c20).ownBlock = some i) _).grown hg22 (fun i e => .inl e)) (fun i e => Nat.le_trans HLT.out.sz (HBK.out i e)) (fun i hf e => by have h1 := HLT.out.lt i hf; have h2 := HBK.out i e; omega) (fun e => by have h1 := HLT.out.lo.bk.lt; have h2 := HBK.out _ e; omega) HT.out.1)
                           have HRE := Lib.hid (records_any gf gk (Lg.opn P3).1 F13 w22 HRC.out.lo HGOOD.out HSIZ.out.1 HSIZ.out.2.1 HSIZ.out.2.2)
                           clear hown22 hg22 hrow22)
              refine HRE.out.mono ?_
              rintro e w23 ⟨A23, n23, c23, rfl, hr23, hb23⟩
              have hll : (Lg.opn P3).1.list.length = n6 + i := by rw [HLIST.out, List.length_append, List.length_take, HNA.out]; have := HI.out; omega
              have hn23 : n23 = n6 + i := by rw [← hr23.1]; exact hll
              rw [hn23, HLIST.out] at hr23
              rw [hn23]
              have hown := HOW.out
              have hcap : n6 + m ≤ c22 ∧ c22 ≤ maxLen := by
                rcases hown.2 with ⟨e1, e2⟩ | ⟨g', cap', cur', e1, _, _, hnc', hcm', _⟩
                · injection e1 with _ _ e5
                  subst e5
                  exact ⟨by omega, by simp [maxLen]⟩
                · injection e1 with _ _ e5
                  subst e5
                  exact ⟨hnc', hcm'⟩
              have hall := (HP1.out.push (m := m) HP2.out.2.1 (by simpa using HP2.out.1.1) (fun k u l hu hl => HP2.out.2.2 k u l hu hl) HGR.out hown).rows (fun i hf => hf.elim)
              have hfs := (hall.rd.below hb23).fst (k := n6 + i) (by have := HI.out; have := HNB.out; omega)
              have htk : (a ++ b).take (n6 + i) = a ++ b.take i := by rw [← HNA.out, List.take_length_add_append]
              rw [htk] at hfs
              have hsl := rows_h A22 (n6 + m) c22 (n6 + i) (by have := HI.out; have := HNB.out; omega) hcap.2
              have HSR := Lib.hid (sameRows_self A23 A22 (n6 + i) (n6 + i) c23 c22 w23 (a ++ b.take i) hr23.rd hfs (by have := HLB.out; have := HI.out; have := HNB.out; simp only [maxLen]; omega))
              have hcast : ((n6 + i : Nat) : Int) = (n6 : Int) + (i : Int) := by omega
              rw [hcast] at hsl
              have y1 : (n6 : Int) ≤ (n6 : Int) + (i : Int) := by omega
              have y2 : i ≤ m := by have := HI.out; have := HNB.out; omega
              have HFIN := Lib.hid (HRC.out.kept hb23).be
              clear hll hn23 hr23 hown hcap hall hfs htk hb23 hcast
              go_wp2_with fail
              refine HSR.out.mono ?_
              rintro e w24 ⟨rfl, mm, rfl⟩
              go_wp2_with fail
              go_ret
              exact ⟨rfl, below_drewN HFIN.out _⟩
            · rw [hz40] at hz
              exact absurd hz (by decide)
  · go_wp2_with fail
    go_ret
    exact ⟨rfl, HB2.out⟩
end Go.Proofs.YtmiejaohkgemnaaDoor
