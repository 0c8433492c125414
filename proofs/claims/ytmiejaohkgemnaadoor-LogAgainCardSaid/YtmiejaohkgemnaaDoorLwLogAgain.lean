/-
  LogAgain: the walk.
-/
import Derived.Test.YtmiejaohkgemnaaDoorLogKeep
namespace Go.Proofs.YtmiejaohkgemnaaDoor
open Go.RowKit
open Pk Sh
set_option linter.unusedVariables false
set_option maxRecDepth 100000

set_option maxHeartbeats 6400000 in
theorem logAgain_walk (w : World) (hT : Tab w) (v0 : Value) (a : List UInt8) (h0 : InBs w v0 a) (v1 : Value) (b : List UInt8) (h1 : InBs w v1 b) (v2 : Value) (rs : List (List UInt8)) (h2 : InR w v2 rs) :
    Calls Tryd.prog 9 #[v0, v1, v2] w (Tr w) := by
  obtain ⟨i0, hi, hz0, hz1, hz2⟩ := info_parts info_bytes
  have h2' := h2
  obtain ⟨⟨A, n, c, rfl, hnc, hcm, hA, hAz⟩, has⟩ := h0
  obtain ⟨⟨B, m, d, rfl, hmd, hdm, hB, hBz⟩, hbs⟩ := h1
  obtain ⟨C, q, qc, rfl, hqc, hqm, hC, hCz⟩ := h2'
  have hla : a.length = n := by simpa using hA.1
  have hlb : b.length = m := by simpa using hB.1
  have HA := Lib.hid hA
  have HB := Lib.hid hB
  have HC := Lib.hid hC
  have HC0 := Lib.hid h2
  have HLA := Lib.hid hla
  have HLB := Lib.hid hlb
  have HNC := Lib.hid (show rs.length = q from hC.1)
  have HT := Lib.hid hT
  have HAL := Lib.hid (alive5 w hT)
  have y1 : (n : Int) ≤ 140737488355328 := by omega
  have y2 : (m : Int) ≤ 140737488355328 := by omega
  clear h2 hA hB hC hla hlb hnc hcm hAz hmd hdm hBz hqc hqm hCz has hbs hT
  go_enter Tryd.func9, Tryd.ntmps9
  go_wp2_with fail
  refine HAL.out.mono ?_
  rintro e w1 ⟨rfl, hb1⟩
  have HB1 := Lib.hid hb1
  have HGR := Lib.hid (great_one C q qc rs w1 (HC0.out.below hb1))
  clear hb1 HAL
  by_cases hg : n + m ≤ 5000
  · have HG := Lib.hid hg
    have y3 : ¬ (5000 : Int) < (n : Int) + (m : Int) := by omega
    clear hg
    go_wp2_with fail
    refine HGR.out.mono ?_
    rintro e w2 ⟨gr, rfl, hgr, hw2⟩
    have HB2 := Lib.hid (show Below w.heap.size w w2 by rw [hw2]; exact HB1.out.alloc HB1.out.size _)
    clear hw2 HGR HB1
    cases gr
    · have hW := hgr rfl
      have HW := Lib.hid hW
      have hal : ∀ l ∈ rs, l.length ≤ 65536 := fun l hl => by have := rows_each hW l hl; omega
      have hlr := rows_len rs
      have HLEN := Lib.hid (show rs.length ≤ 3000 by omega)
      have HLO := Lib.hid (Lg.longs_of hal)
      have HALL := Lib.hid hal
      have HN := Lib.hid (disk_new (-1) w2 (by omega))
      clear hgr hW hal hlr
      go_wp2_with fail
      refine HN.out.mono ?_
      rintro e w3 hm
      obtain ⟨gd, F3, rfl, hon, _, _⟩ := Made.on HB2.out HB2.out.size hm
      have HCA := Lib.hid (copyBytes_any A n c a w3 (HA.out.below hon.be) (by have := HG.out; omega))
      have HON := Lib.hid hon
      clear hm hon HN HB2
      go_wp2_with fail
      refine HCA.out.mono ?_
      rintro e w4 ⟨A4, n4, c4, rfl, ho4, hb4⟩
      have hon4 := HON.out.kept hb4
      have hst := stay_1' (F := F3) (base := w3.heap.size) (Sl.own ho4) (own_block_at ho4) HON.out.lt hb4.size w4.heap.size rfl
      have hon5 := hon4.alloc (.cells #[.slice A4 n4 c4] 32)
      have hap := disk_append gd 0 (PD.new (-1)) F3 (some ⟨w4.heap.size, 0, none⟩) 1 1 [a] _ hon5.dk hst (by have := HG.out; have := HLA.out; simp [PD.new]; omega) (by have := HG.out; have := HLA.out; simp [PD.new]; omega) (by omega)
      rw [Lg.pa1] at hap
      have HAP := Lib.hid hap
      have HON := Lib.hid hon5
      clear ho4 hb4 hon4 hst hon5 hap HCA
      go_wp2_with fail
      refine HAP.out.mono ?_
      rintro e w6 hd
      obtain ⟨rfl, F6, hon, _, _⟩ := HON.out.did hd
      have HCB := Lib.hid (copyBytes_any B m d b w6 (HB.out.below hon.be) (by have := HG.out; omega))
      have HON := Lib.hid hon
      clear hd hon HAP
      go_wp2_with fail
      refine HCB.out.mono ?_
      rintro e w7 ⟨A7, n7, c7, rfl, ho7, hb7⟩
      have hon7 := HON.out.kept hb7
      have hst := stay_1' (F := F6) (base := w6.heap.size) (Sl.own ho7) (own_block_at ho7) HON.out.lt hb7.size w7.heap.size rfl
      have hon8 := hon7.alloc (.cells #[.slice A7 n7 c7] 32)
      have hap := disk_append gd 1 (Lg.PA a []) F6 (some ⟨w7.heap.size, 0, none⟩) 1 1 [b] _ hon8.dk hst (by have := HG.out; have := HLA.out; have := HLB.out; simp [Lg.PA]; omega) (by have := HG.out; have := HLB.out; simp [Lg.PA]; omega) (by omega)
      rw [Lg.pa2] at hap
      have HAP := Lib.hid hap
      have HON := Lib.hid hon8
      clear ho7 hb7 hon7 hst hon8 hap HCB
      go_wp2_with fail
      refine HAP.out.mono ?_
      rintro e w9 hd
      obtain ⟨rfl, F9, hon, _, _⟩ := HON.out.did hd
      have hpl : (Lg.PA a b).d0.length ≤ 5000 ∧ (Lg.PA a b).d1.length ≤ 5000 := ⟨by show a.length ≤ 5000; have := HLA.out; have := HG.out; omega, by show b.length ≤ 5000; have := HLB.out; have := HG.out; omega⟩
      have hop := log_open gd (Lg.PA a b) F9 w9 hon.dk (Tab.on HT.out hon HT.out.1) (below_pos hon HT.out.1) (by omega) (by omega)
      have hla := Lg.opn_lasts (D := Lg.PA a b) rfl
      have hgo := Lg.opn_good hla.1
      have hbe := Lg.opn_is_best hla.1
      have hsz := Lg.len_opn (Lg.PA a b)
      obtain ⟨r1, hr1⟩ : ∃ r1, r1 = Lg.opn (Lg.PA a b) := ⟨_, rfl⟩
      rw [← hr1] at hop hla hgo hbe hsz
      obtain ⟨L, e0⟩ := r1
      obtain rfl : e0 = 0 := hla.1
      simp only at hla hgo hbe hsz
      have hli := Lg.list_le hgo
      have hdl := PD.data_le (P := L.D) (N := 5031) (by omega) (by omega) L.a
      have HOP := Lib.hid hop
      have HON := Lib.hid hon
      have HLL := Lib.hid hla.2
      have HGO := Lib.hid hgo
      have HBE := Lib.hid hbe
      have HSZ := Lib.hid (show L.D.d0.length ≤ 5031 ∧ L.D.d1.length ≤ 5031 ∧ L.list.length ≤ 5031 by omega)
      clear hd hon hop hla hgo hbe hsz hr1 hpl hli hdl HAP
      go_wp2_with fail
      refine HOP.out.mono ?_
      rintro e w10 ho
      rcases HON.out.open_ ho with ⟨hz, _⟩ | ⟨_, g1, F10, rfl, hl, _⟩
      · exact absurd rfl hz
      have HRC := Lib.hid (records_any gd g1 L F10 w10 hl.lo HGO.out (by have := HSZ.out; omega) (by have := HSZ.out; omega) (by have := HSZ.out; omega))
      have HL := Lib.hid hl
      clear ho hl HOP HON
      go_wp2_with fail
      refine HRC.out.mono ?_
      rintro e w11 ⟨A11, n11, c11, rfl, hr11, hb11⟩
      have hn11 : L.list.length = n11 := hr11.1
      subst hn11
      have HFX := Lib.hid (hr11.x HL.out.lt)
      have HB10 := Lib.hid (And.intro HL.out.sz hb11.size)
      have HL := Lib.hid (HL.out.kept hb11)
      have hrd := disk_read gd 0 L.D F10 w11 HL.out.lo.dk (by have := HSZ.out; omega) (by have := HSZ.out; omega)
      rw [PD.read_some _ 0 rfl] at hrd
      have HRD := Lib.hid hrd
      clear hr11 hb11 hrd HRC
      go_wp2_with fail
      refine HRD.out.mono ?_
      rintro e w12 ⟨A12, n12, c12, rfl, ho12, hb12⟩
      have HXX := Lib.hid (ho12.x HL.out.lt)
      have HFX := Lib.hid (HFX.out.below hb12)
      have HL := Lib.hid (HL.out.kept hb12)
      have hrd := disk_read gd 1 L.D F10 w12 HL.out.lo.dk (by have := HSZ.out; omega) (by have := HSZ.out; omega)
      rw [PD.read_some _ 1 rfl] at hrd
      have HRD := Lib.hid hrd
      clear ho12 hb12 hrd
      go_wp2_with fail
      refine HRD.out.mono ?_
      rintro e w13 ⟨A13, n13, c13, rfl, ho13, hb13⟩
      have HYX := Lib.hid (ho13.x HL.out.lt)
      have HXX := Lib.hid (HXX.out.below hb13)
      have HFX := Lib.hid (HFX.out.below hb13)
      have hl := HL.out.kept hb13
      have hon := hl.on
      have hop := log_open gd L.D F10 w13 hon.dk (Tab.on HT.out hon HT.out.1) (below_pos hon HT.out.1) (by have := HSZ.out; omega) (by have := HSZ.out; omega)
      rw [Lg.opn_self HGO.out HBE.out] at hop
      have HOP := Lib.hid hop
      have HON := Lib.hid hon
      clear ho13 hb13 hl hon hop HL
      go_wp2_with fail
      refine HOP.out.mono ?_
      rintro e w14 ho
      rcases HON.out.open_ ho with ⟨hz, _⟩ | ⟨_, g2, F14, rfl, hl, hF14, hc14, hg14⟩
      · exact absurd rfl hz
      have HYX := Lib.hid (HYX.out.step hc14 hF14)
      have HXX := Lib.hid (HXX.out.step hc14 hF14)
      have HFX := Lib.hid (HFX.out.step (F' := fun i => F14 i ∨ i = g2) hc14 (fun i hi => hi.elim (hF14 i) (fun e => .inr (e ▸ hg14))))
      have HRC := Lib.hid (records_any gd g2 L F14 w14 hl.lo HGO.out (by have := HSZ.out; omega) (by have := HSZ.out; omega) (by have := HSZ.out; omega))
      have HL := Lib.hid hl
      clear ho hl hF14 hc14 hg14 HOP HON
      go_wp2_with fail
      refine HRC.out.mono ?_
      rintro e w15 ⟨A15, n15, c15, rfl, hr15, hb15⟩
      have hn15 : L.list.length = n15 := hr15.1
      subst hn15
      have HSR := Lib.hid (fun k => sameRows_self A15 A11 L.list.length L.list.length c15 c11 (w15.drewN k) L.list (hr15.drewN k).rd ((HFX.out.below hb15).own.drewN k).rd (by have := HSZ.out; simp only [maxLen]; omega))
      have HYX := Lib.hid (HYX.out.below hb15)
      have HXX := Lib.hid (HXX.out.below hb15)
      have HFX := Lib.hid (HFX.out.below hb15)
      have HL := Lib.hid (HL.out.kept hb15)
      clear hr15 hb15 HRC
      go_wp2_with fail
      refine (HSR.out 0).mono ?_
      rintro e w16 ⟨rfl, k16, rfl⟩
      have hbd : Below w15.heap.size w15 ((w15.drewN 0).drewN k16) := below_drewN (Below.refl _ _) _
      obtain ⟨w16, hw16⟩ : ∃ w16, w16 = (w15.drewN 0).drewN k16 := ⟨_, rfl⟩
      rw [← hw16] at hbd ⊢
      have HYX := Lib.hid (HYX.out.below hbd)
      have HXX := Lib.hid (HXX.out.below hbd)
      have HFX := Lib.hid (HFX.out.below hbd)
      have HL := Lib.hid (HL.out.kept hbd)
      have hrd := disk_read gd 0 L.D F14 w16 HL.out.lo.dk (by have := HSZ.out; omega) (by have := HSZ.out; omega)
      rw [PD.read_some _ 0 rfl] at hrd
      have HRD := Lib.hid hrd
      clear hbd hw16 hrd
      go_wp2_with fail
      refine HRD.out.mono ?_
      rintro e w17 ⟨A17, n17, c17, rfl, ho17, hb17⟩
      have HO17 := Lib.hid ho17
      have HYX := Lib.hid (HYX.out.below hb17)
      have HXX := Lib.hid (HXX.out.below hb17)
      have HFX := Lib.hid (HFX.out.below hb17)
      have HL := Lib.hid (HL.out.kept hb17)
      have hrd := disk_read gd 1 L.D F14 w17 HL.out.lo.dk (by have := HSZ.out; omega) (by have := HSZ.out; omega)
      rw [PD.read_some _ 1 rfl] at hrd
      have HRD := Lib.hid hrd
      clear ho17 hb17 hrd
      go_wp2_with fail
      refine HRD.out.mono ?_
      rintro e w18 ⟨A18, n18, c18, rfl, ho18, hb18⟩
      have HYX := Lib.hid (HYX.out.below hb18)
      have HXX := Lib.hid (HXX.out.below hb18)
      have HFX := Lib.hid (HFX.out.below hb18)
      have HL := Lib.hid (HL.out.kept hb18)
      have HS1 := Lib.hid (sameBytes_self A12 A17 n12 n17 c12 c17 w18 (L.D.data 0) HXX.out.1.rd (HO17.out.below hb18).rd (by have h1 := HXX.out.1.len; have h2 : (L.D.data 0).length ≤ 5031 := HSZ.out.1; simp only [maxLen]; omega))
      have HS2 := Lib.hid (fun k => sameBytes_self A13 A18 n13 n18 c13 c18 (w18.drewN k) (L.D.data 1) (HYX.out.1.drewN k).rd (ho18.drewN k).rd (by have h1 := HYX.out.1.len; have h2 : (L.D.data 1).length ≤ 5031 := HSZ.out.2.1; simp only [maxLen]; omega))
      clear ho18 hb18 HXX HYX HO17
      go_wp2_with fail
      refine HS1.out.mono ?_
      rintro e w19 ⟨rfl, k19, rfl⟩
      go_wp2_with fail
      refine (HS2.out k19).mono ?_
      rintro e w20 ⟨rfl, k20, rfl⟩
      have hbd : Below w18.heap.size w18 ((w18.drewN k19).drewN k20) := below_drewN (below_drewN (Below.refl _ _) _) _
      obtain ⟨w20, hw20⟩ : ∃ w20, w20 = (w18.drewN k19).drewN k20 := ⟨_, rfl⟩
      rw [← hw20] at hbd ⊢
      have HFX := Lib.hid (HFX.out.below hbd)
      have HL := Lib.hid (HL.out.kept hbd)
      have HCR := Lib.hid (copyRows_any C q qc rs w20 (HC.out.below HL.out.be) (by have := HW.out; rw [total_rowsW]; omega))
      clear hbd hw20
      go_wp2_with fail
      refine HCR.out.mono ?_
      rintro e w21 ⟨A21, n21, c21, rfl, hr21, hb21⟩
      have hn21 : n21 = q := by rw [← hr21.1]; exact HNC.out
      subst hn21
      have hl := HL.out.kept hb21
      have hfl := Lg.frames_le L.gen (L.list.length + 1) rs HALL.out
      have hadd := add_any gd g2 L F14 A21 n21 c21 rs w21 hl.lo (hr21.off' HL.out.lt) HGO.out.g (by have := HLEN.out; have := HNC.out; omega) (by have := HSZ.out; omega) (by have := HSZ.out; have := HW.out; omega) (by have := HSZ.out; have := HW.out; omega)
      have hal := Lg.add_lasts HGO.out HLL.out HLO.out
      have hag := Lg.add_good (ls := rs) HGO.out
      have hab := Lg.add_best (ls := rs) HGO.out HBE.out
      have hlen := L.D.len_append L.a [Lg.frames L.gen (L.list.length + 1) rs]
      have hsz2 : (L.add rs).1.D.d0.length ≤ 50000 ∧ (L.add rs).1.D.d1.length ≤ 50000 := by
        have h1 := HSZ.out
        have h2 := HW.out
        have e : [Lg.frames L.gen (L.list.length + 1) rs].flatten.length = (Lg.frames L.gen (L.list.length + 1) rs).length := by simp
        unfold Lg.PL.add
        split
        · exact ⟨by show L.D.d0.length ≤ _; omega, by show L.D.d1.length ≤ _; omega⟩
        · split
          · exact ⟨by show L.D.d0.length ≤ _; omega, by show L.D.d1.length ≤ _; omega⟩
          · split
            · exact ⟨by show (L.D.append L.a _).1.d0.length ≤ _; omega, by show (L.D.append L.a _).1.d1.length ≤ _; omega⟩
            · exact ⟨by show (L.D.append L.a _).1.d0.length ≤ _; omega, by show (L.D.append L.a _).1.d1.length ≤ _; omega⟩
      obtain ⟨r2, hr2⟩ : ∃ r2, r2 = L.add rs := ⟨_, rfl⟩
      rw [← hr2] at hadd hal hag hab hsz2
      obtain ⟨L2, e2⟩ := r2
      obtain rfl : e2 = 0 := hal.1
      simp only at hal hag hab hsz2
      have HADD := Lib.hid hadd
      have HAL2 := Lib.hid hal.2.1
      have HAG := Lib.hid hag
      have HAB := Lib.hid hab
      have HSZ2 := Lib.hid hsz2
      have HFX := Lib.hid (HFX.out.below hb21)
      have HL := Lib.hid hl
      clear hr21 hb21 hl hfl hadd hal hag hab hlen hsz2 hr2 HCR
      go_wp2_with fail
      refine HADD.out.mono ?_
      rintro e w22 hd
      obtain ⟨rfl, F22, hl, hF22, hc22⟩ := HL.out.did hd
      have HFX := Lib.hid (HFX.out.step (F' := F22) hc22 (fun i hi => (hF22 i hi).imp .inl id))
      have hon := hl.on
      have hop := log_open gd L2.D F22 w22 hon.dk (Tab.on HT.out hon HT.out.1) (below_pos hon HT.out.1) (by have := HSZ2.out; omega) (by have := HSZ2.out; omega)
      rw [Lg.opn_self HAG.out HAB.out] at hop
      have HOP := Lib.hid hop
      have HON := Lib.hid hon
      clear hd hl hF22 hc22 hon hop HADD HL
      go_wp2_with fail
      refine HOP.out.mono ?_
      rintro e w23 ho
      rcases HON.out.open_ ho with ⟨hz, _⟩ | ⟨_, g3, F23, rfl, hl, hF23, hc23, _⟩
      · exact absurd rfl hz
      have HFX := Lib.hid (HFX.out.step hc23 hF23)
      have HBK := Lib.hid (show ∀ i, (Value.slice A11 L.list.length c11).ownBlock = some i → w10.heap.size ≤ i ∧ i < w23.heap.size from fun i e => by
        obtain ⟨_, us, ho, _⟩ := HFX.out.own
        exact World.ownsRow.lt ho i e)
      have HRC := Lib.hid (records_any gd g3 L2 F23 w23 hl.lo HAG.out (by have := HSZ2.out; omega) (by have := HSZ2.out; omega) (by rw [HAL2.out, List.length_append]; have := HSZ.out; have := HLEN.out; omega))
      have HL := Lib.hid hl
      clear ho hl hF23 hc23 HOP HON
      go_wp2_with fail
      refine HRC.out.mono ?_
      rintro e w24 ⟨A24, n24, c24, rfl, hr24, hb24⟩
      rw [HAL2.out] at hr24
      have hn24 : n24 = L.list.length + n21 := by rw [← hr24.1, List.length_append, HNC.out]
      rw [hn24] at hr24 ⊢
      have HR24 := Lib.hid hr24
      have HFX := Lib.hid (HFX.out.below hb24)
      have HL := Lib.hid (HL.out.kept hb24)
      have HSZ24 := Lib.hid (show w.heap.size ≤ w24.heap.size from HL.out.sz)
      obtain ⟨us1, hp1⟩ := HFX.out.own.parts (B0 := w.heap.size) (F := fun _ => False) HB10.out.1
      obtain ⟨hq1, us2, hq2, hq3, hq4⟩ := HC.out.all
      have HP1 := Lib.hid hp1
      have HR2 := Lib.hid (hq2.below HL.out.be)
      have HO2 := Lib.hid (show ∀ u ∈ us2, u.oneCell' = true from fun u hu => by
        obtain ⟨k, hk, e⟩ := List.getElem_of_mem hu
        have hlen := hq2.1
        obtain ⟨A', c', e2, _⟩ := hq4 k u (rs[k]'(by omega)) (by rw [← e]; exact List.getElem?_eq_getElem hk) (List.getElem?_eq_getElem _)
        rw [e2]; rfl)
      have HK2 := Lib.hid (show ∀ (k : Nat) (u : Value) (l : List UInt8), us2[k]? = some u → rs[k]? = some l → RowK w.heap.size (fun _ => False) w24 u l from fun k u l hu hl => ((hq4 k u l hu hl).k rfl).below HL.out.be)
      have HU2 := Lib.hid (show us2.length = n21 from hq2.1)
      have hou := hp1.1
      clear hn24 hr24 hb24 hp1 hq1 hq2 hq3 hq4 HRC
      go_wp2_with (at_builtin
                   refine wpList_append_rd _ rfl _ _ 37 rfl w.heap.size 32 i0 _ 24 Tryd.underlying37 hi hz0 hz1 hz2 rfl A11 L.list.length c11 us1 rfl hou C n21 qc us2 rfl
                     HR2.out HO2.out (by have := HSZ.out; have := HLEN.out; have := HNC.out; simp only [maxLen]; omega) (by have := HSZ.out; have := HLEN.out; have := HNC.out; omega) HSZ24.out ?_
                   intro A25 c25 w25 hown25 hg25 hrow25
                   have HOW := Lib.hid hown25
                   have HGR2 := Lib.hid hg25
                   have HCH := Lib.hid (show Chg (fun i => (Value.slice A11 L.list.length c11).ownBlock = some i) w24 w25 from (Chg.refl (fun i => (Value.slice A11 L.list.length c11).ownBlock = some i) _).grown hg25 (fun i e => .inl e))
                   have HR25 := Lib.hid (HCH.out.ownRs HR24.out (fun i e => (HBK.out i e).2))
                   have HALLR := Lib.hid ((HP1.out.push (m := n21) HNC.out HU2.out HK2.out hg25 hown25).rows (fun i hf => hf.elim))
                   have HSRF := Lib.hid (sameRows_self A24 A25 (L.list.length + n21) (L.list.length + n21) c24 c25 w25 (L.list ++ rs) HR25.out.rd HALLR.out.rd (by have := HSZ.out; have := HLEN.out; have := HNC.out; simp only [maxLen]; omega))
                   have HFIN := Lib.hid (show Below w.heap.size w w25 from HL.out.be.grown hg25 HSZ24.out (fun i e => Nat.le_trans HB10.out.1 (HBK.out i e).1))
                   clear hown25 hg25 hrow25)
      refine HSRF.out.mono ?_
      rintro e w26 ⟨rfl, k26, rfl⟩
      go_wp2_with fail
      go_ret
      exact ⟨rfl, below_drewN HFIN.out _⟩
    · go_wp2_with fail
      go_ret
      exact ⟨rfl, HB2.out⟩
  · have y3 : (5000 : Int) < (n : Int) + (m : Int) := by omega
    clear hg
    go_wp2_with fail
    go_ret
    exact ⟨rfl, HB1.out⟩
end Go.Proofs.YtmiejaohkgemnaaDoor
