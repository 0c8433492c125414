/-
  DiskTrims: the walk.
-/
import Derived.Test.YtcibjdodkcfpeaaDiskLaw
namespace Go.Proofs.Ytcibjdodkcfpeaa
open Go.RowKit
set_option linter.unusedVariables false

def tr1 (l : List UInt8) : PD := ⟨-1, l, [], 0, 0⟩
def tr2 (l : List UInt8) : PD := ⟨-1, l, [], l.length, 0⟩
def tr3 (l : List UInt8) (k : Nat) : PD := ⟨-1, l.take k, [], k, 0⟩
def tr4 (l : List UInt8) (k : Nat) (m : List UInt8) : PD := ⟨-1, l.take k ++ m, [], k, 0⟩
theorem tr1_eq (l : List UInt8) : (PD.new (-1)).append 0 [l] = (tr1 l, 0) := by simp [PD.append, PD.new, known, PD.drew, drawn, PD.setData, PD.data, tr1]
theorem tr2_eq (l : List UInt8) : (tr1 l).sync [] = (tr2 l, 0) := by simp [PD.sync, tr1, tr2, PD.drew, drawn, PD.mark, PD.setSafe, PD.data]
theorem tr3_eq (l : List UInt8) (k : Nat) (h : k ≤ l.length) : (tr2 l).trim 0 k = (tr3 l k, 0) := by
  simp [PD.trim, tr2, tr3, known, PD.data, h, PD.drew, drawn, PD.setData, PD.setSafe, PD.safe]
  omega
theorem tr3_no (l : List UInt8) (n : Int) (h : n < 0 ∨ (l.length : Int) < n) : (tr2 l).trim 0 n = (tr2 l, 41) := by
  have : ¬ (0 ≤ n ∧ n ≤ (l.length : Int)) := by omega
  simp [PD.trim, tr2, known, PD.data]
  omega
theorem tr4_eq (l : List UInt8) (k : Nat) (m : List UInt8) : (tr3 l k).append 0 [m] = (tr4 l k m, 0) := by simp [PD.append, tr3, tr4, known, PD.drew, drawn, PD.setData, PD.data]
theorem tr5_eq (l : List UInt8) (k : Nat) (m : List UInt8) (h : k ≤ l.length) : (((tr4 l k m).crash [] (-1)).read 0) = (l.take k, 0) := by
  simp [PD.read, known, PD.crash, tr4, PD.data, PD.left]
  have e : (l.take k).length = k := by simp; omega
  rw [if_neg (by omega)]
  simp [e]
theorem tr6_eq (l : List UInt8) (k : Nat) (m : List UInt8) (h : k ≤ l.length) (hm : m.length ≤ 5000) : (((tr4 l k m).crash [1099511627776] (-1)).read 0) = (l.take k ++ m, 0) := by
  simp [PD.read, known, PD.crash, tr4, PD.data, PD.left]
  have e : min k l.length = k := by omega
  rw [if_pos (by omega)]
  rw [List.take_of_length_le]
  simp
  omega
set_option maxHeartbeats 1600000 in
theorem diskTrims_walk (w : World) (v0 : Value) (l : List UInt8) (h0 : InBs w v0 l) (n : Int) (hn : (Lit.int .i64 n).wf = true) (v2 : Value) (m : List UInt8) (h2 : InBs w v2 m) :
    Calls Try.prog 8 #[v0, .int .i64 n, v2] w (Tr w) := by
  obtain ⟨i0, hi, hz0, hz1, hz2⟩ := info_parts info_u8
  obtain ⟨⟨A, a, c, rfl, hac, hcm, hA, hAz⟩, hls⟩ := h0
  obtain ⟨⟨B, b, d, rfl, hbd, hdm, hB, hBz⟩, hms⟩ := h2
  have hla : l.length = a := by simpa using hA.1
  have hmb : m.length = b := by simpa using hB.1
  have HA := Lib.hid hA
  have HB := Lib.hid hB
  have HLA := Lib.hid hla
  have HMB := Lib.hid hmb
  have y1 : (a : Int) ≤ 140737488355328 := by omega
  have y2 : (b : Int) ≤ 140737488355328 := by omega
  have HAC := Lib.hid hac
  have HAL := Lib.hid (alive_ok w)
  have HWF := Lib.hid hn
  clear hA hB hla hmb hls hms hAz hBz hcm hdm hn hac hbd
  by_cases hg : a + b ≤ 5000
  · have HG := Lib.hid hg
    have y3 : ¬ (5000 : Int) < (a : Int) + (b : Int) := by omega
    clear hg
    go_enter Try.func8, Try.ntmps8
    go_wp2_with fail
    refine HAL.out.mono ?_
    rintro e w1 ⟨rfl, hb1⟩
    have HB1 := Lib.hid hb1
    have HN := Lib.hid (disk_new (-1) w1 (by omega))
    clear hb1
    go_wp2_with fail
    refine HN.out.mono ?_
    rintro e w2 hm
    obtain ⟨g, F, rfl, hon, _, _⟩ := Made.on HB1.out HB1.out.size hm
    have HON := Lib.hid hon
    have HCP := Lib.hid (copyBytes_any A a c l w2 (HA.out.below hon.be) (by have := HG.out; omega))
    clear hm hon HN
    go_wp2_with fail
    refine HCP.out.mono ?_
    rintro e w3 ⟨A3, n3, c3, rfl, ho, hb3⟩
    have hon := HON.out.kept hb3
    have hst := stay_1' (F := F) (base := w2.heap.size) (Sl.own ho) (own_block_at ho) HON.out.lt hb3.size w3.heap.size rfl
    have hon2 := hon.alloc (.cells #[.slice A3 n3 c3] 28)
    have HAP := Lib.hid (disk_append g 0 (PD.new (-1)) F (some ⟨w3.heap.size, 0, none⟩) 1 1 [l] _ hon2.dk hst (by have := HG.out; have := HLA.out; simp [PD.new]; omega) (by have := HG.out; have := HLA.out; simp [PD.new]; omega) (by omega))
    have HON := Lib.hid hon2
    clear ho hb3 hon hst hon2 HCP
    go_wp2_with fail
    refine HAP.out.mono ?_
    rintro e w4 hd
    obtain ⟨rfl, F4, hon, _, _⟩ := HON.out.did hd
    rw [tr1_eq] at hon ⊢
    have HSY := Lib.hid (disk_sync g (tr1 l) F4 none 0 0 [] w4 hon.dk (fun w' _ => Rd.nil_ _ _) (by simp [maxLen]))
    have HON := Lib.hid hon
    clear hd hon HAP
    go_wp2_with fail
    refine HSY.out.mono ?_
    rintro e w5 hd
    obtain ⟨rfl, F5, hon, _, _⟩ := HON.out.did hd
    rw [tr2_eq] at hon ⊢
    have HTR := Lib.hid (disk_trim g 0 n (tr2 l) F5 w5 hon.dk)
    have HON := Lib.hid hon
    clear hd hon HSY
    go_wp2_with fail
    refine HTR.out.mono ?_
    rintro e w6 hd
    obtain ⟨rfl, F6, hon, hF6, hc6⟩ := HON.out.did hd
    by_cases hn : n < 0 ∨ (a : Int) < n
    · rw [tr3_no l n (by have := HLA.out; omega)] at hon ⊢
      have HRD := Lib.hid (disk_read g 0 (tr2 l) F6 w6 hon.dk (by have := HG.out; have := HLA.out; simp [tr2]; omega) (by simp [tr2]))
      rw [show (tr2 l).read 0 = (l, 0) from rfl] at HRD
      have HON := Lib.hid hon
      clear hd hon HTR hF6 hc6
      rcases hn with hn | hn
      · go_wp2_with fail
        refine HRD.out.mono ?_
        rintro e w7 ⟨A7, n7, c7, rfl, hs, hb7⟩
        replace hs := Sl.own hs
        have hb := HON.out.kept hb7
        have HSB := Lib.hid (sameBytes_self A7 A n7 a c7 c w7 l hs.rd (HA.out.below hb.be) (Nat.le_trans hs.1 hs.2.1))
        have HBE := Lib.hid hb.be
        clear hs hb7 hb
        go_wp2_with fail
        refine HSB.out.mono ?_
        rintro e w8 ⟨rfl, k, rfl⟩
        go_wp2_with fail
        go_ret
        exact ⟨rfl, below_drewN HBE.out k⟩
      · have y4 : ¬ n < 0 := by omega
        go_wp2_with fail
        refine HRD.out.mono ?_
        rintro e w7 ⟨A7, n7, c7, rfl, hs, hb7⟩
        replace hs := Sl.own hs
        have hb := HON.out.kept hb7
        have HSB := Lib.hid (sameBytes_self A7 A n7 a c7 c w7 l hs.rd (HA.out.below hb.be) (Nat.le_trans hs.1 hs.2.1))
        have HBE := Lib.hid hb.be
        clear hs hb7 hb
        go_wp2_with fail
        refine HSB.out.mono ?_
        rintro e w8 ⟨rfl, k, rfl⟩
        go_wp2_with fail
        go_ret
        exact ⟨rfl, below_drewN HBE.out k⟩
    · obtain ⟨k, rfl⟩ : ∃ k : Nat, n = k := ⟨n.toNat, by omega⟩
      rw [tr3_eq l k (by have := HLA.out; omega)] at hon ⊢
      have HKA := Lib.hid (show k ≤ a by omega)
      have y4 : ¬ (k : Int) < 0 := by omega
      have y5 : ¬ (a : Int) < (k : Int) := by omega
      have y6 : (k : Int) ≤ (c : Int) := by have := HAC.out; omega
      have HCP := Lib.hid (copyBytes_any B b d m w6 (HB.out.below hon.be) (by have := HG.out; omega))
      have HON := Lib.hid hon
      clear hd hon HTR hF6 hc6 hn
      go_wp2_with fail
      refine HCP.out.mono ?_
      rintro e w7 ⟨A7, n7, c7, rfl, ho, hb7⟩
      have hon := HON.out.kept hb7
      have hst := stay_1' (F := F6) (base := w6.heap.size) (Sl.own ho) (own_block_at ho) HON.out.lt hb7.size w7.heap.size rfl
      have hon2 := hon.alloc (.cells #[.slice A7 n7 c7] 28)
      have hlk : (l.take k).length = k := by have := HKA.out; have := HLA.out; simp; omega
      have HAP := Lib.hid (disk_append g 0 (tr3 l k) F6 (some ⟨w7.heap.size, 0, none⟩) 1 1 [m] _ hon2.dk hst (by have := HG.out; have := HKA.out; have := HMB.out; simp [tr3]; omega) (by have := HG.out; have := HMB.out; simp [tr3]; omega) (by omega))
      have HON := Lib.hid hon2
      have HLK := Lib.hid hlk
      clear ho hb7 hon hst hon2 HCP hlk
      go_wp2_with fail
      refine HAP.out.mono ?_
      rintro e w8 hd
      obtain ⟨rfl, F8, hon, _, _⟩ := HON.out.did hd
      rw [tr4_eq] at hon ⊢
      have HSZ8 := Lib.hid hon.sz
      have HCP := Lib.hid (copyBytes_any A k c (l.take k) w8 (by have := (HA.out.below hon.be).front (k := k) HKA.out; rwa [← List.map_take] at this) (by have := HG.out; have := HKA.out; omega))
      have HON := Lib.hid hon
      clear hd hon HAP
      go_wp2_with fail
      refine HCP.out.mono ?_
      rintro e w9 ⟨A9, n9, c9, rfl, ho, hb9⟩
      have hon := HON.out.kept hb9
      have hl4 : (tr4 l k m).d0.length ≤ 1099511627776 := by have := HG.out; have := HKA.out; have := HMB.out; simp [tr4]; omega
      have HL4 := Lib.hid hl4
      have HCR := Lib.hid (disk_crash g (tr4 l k m) F8 none 0 0 [] (-1) w9 hon.dk (Rd.nil_ _ _) (by simp [maxLen]) (by simp) (by omega) hl4 (by simp [tr4]))
      have HON := Lib.hid hon
      have HO9 := Lib.hid ho
      have hn9 : n9 = k := by rw [← ho.len]; exact HLK.out
      subst hn9
      clear ho hb9 hon HCP hl4
      go_wp2_with fail
      refine HCR.out.mono ?_
      rintro e w10 hm
      obtain ⟨g1, F10, rfl, hon10, _, hb10⟩ := Made.on HON.out.be HON.out.sz hm
      have hon := (HON.out.kept hb10).alloc (.cells #[.int .i64 1099511627776] 3)
      have HCR := Lib.hid (disk_crash g (tr4 l n9 m) F8 (some ⟨w10.heap.size, 0, none⟩) 1 1 [1099511627776] (-1) _ hon.dk (Rd.new w10 ([1099511627776].map iv) 3) (by simp [maxLen]) (by simp) (by omega) HL4.out (by simp [tr4]))
      have HON := Lib.hid hon
      have HON10 := Lib.hid (hon10.alloc (.cells #[.int .i64 1099511627776] 3))
      have HO9 := Lib.hid ((HO9.out.below hb10).alloc (.cells #[.int .i64 1099511627776] 3))
      clear hm hon hon10 hb10
      go_wp2_with fail
      refine HCR.out.mono ?_
      rintro e w11 hm
      obtain ⟨g2, F11, rfl, hon11, _, hb11⟩ := Made.on HON.out.be HON.out.sz hm
      have HON10 := Lib.hid (HON10.out.kept hb11)
      have HO9 := Lib.hid (HO9.out.below hb11)
      have HLL := Lib.hid (show ∀ ks p, ((tr4 l n9 m).crash ks p).d0.length ≤ 1099511627776 ∧ ((tr4 l n9 m).crash ks p).d1.length ≤ 1099511627776 from fun ks p => by
        have := HL4.out
        constructor <;> simp only [PD.crash, List.length_take]
        · omega
        · simp [tr4])
      have HRD := Lib.hid (disk_read g1 0 _ F10 w11 HON10.out.dk (HLL.out _ _).1 (HLL.out _ _).2)
      rw [tr5_eq l n9 m (by have := HKA.out; have := HLA.out; omega)] at HRD
      have HON := Lib.hid hon11
      clear hm hon11 hb11
      go_wp2_with fail
      refine HRD.out.mono ?_
      rintro e w12 ⟨A12, n12, c12, rfl, hs12, hb12⟩
      have hon := HON.out.kept hb12
      have HRD := Lib.hid (disk_read g2 0 _ F11 w12 hon.dk (HLL.out _ _).1 (HLL.out _ _).2)
      rw [tr6_eq l n9 m (by have := HKA.out; have := HLA.out; omega) (by have := HG.out; have := HMB.out; omega)] at HRD
      have HON := Lib.hid hon
      have HO9 := Lib.hid (HO9.out.below hb12)
      have HS12 := Lib.hid (Sl.own hs12)
      clear hs12 hb12 hon
      go_wp2_with fail
      refine HRD.out.mono ?_
      rintro e w13 ⟨A13, n13, c13, rfl, hs13, hb13⟩
      have hon := HON.out.kept hb13
      have hs12 := HS12.out.below hb13
      have ho9 := HO9.out.below hb13
      have HSB := Lib.hid (sameBytes_self A12 A9 n12 n9 c12 c9 w13 (l.take n9) hs12.rd ho9.rd (Nat.le_trans hs12.1 hs12.2.1))
      have HNE := Lib.hid (show ∀ x, A13 = some x → ∀ k, (Value.slice A9 n9 c9).ownBlock = some k → k ≠ x.block from fun x e k ek => by have h1 := own_block_at hs13 x e; have h2 := (World.ownsRow.lt HO9.out k ek).2; omega)
      have HBE := Lib.hid hon.be
      have HO9 := Lib.hid ho9
      have HS13 := Lib.hid hs13
      have HSZ := Lib.hid hon.sz
      clear hs12 hs13 hb13 hon ho9
      go_wp2_with fail
      refine HSB.out.mono ?_
      rintro e w14 ⟨rfl, k, rfl⟩
      have HBM := Lib.hid (HB.out.below (below_drewN HBE.out k))
      have HO9 := Lib.hid (HO9.out.drewN k)
      go_wp2_with (at_builtin
                   refine wpList_append_rd _ rfl _ _ 28 rfl w.heap.size 5 i0 _ 1 Try.underlying28 hi hz0 hz1 hz2 rfl A9 n9 c9 ((l.take n9).map bv) rfl (HO9.out.more HSZ8.out) B b d (m.map bv) rfl
                     HBM.out (oneCell_bytes m) (by have := HG.out; have := HKA.out; simp only [maxLen]; omega) (by have := HG.out; have := HKA.out; omega) HSZ.out ?_
                   intro A15 c15 w15 hown hgr hrow)
      have HBF := Lib.hid ((below_drewN HBE.out k).grown hgr HSZ.out (fun b e => Nat.le_trans HSZ8.out (OwnB.block HO9.out b e)))
      have HX := Lib.hid ((Sl.own (HS13.out.drewN k)).rd.grown hgr (fun x e q => HNE.out x e x.block q rfl))
      have HY := Lib.hid (show OwnB w15 w.heap.size A15 (n9 + b) c15 (l.take n9 ++ m) by simpa [OwnB] using hown)
      have HCAP := Lib.hid (Nat.le_trans (own_cap HS13.out).1 (own_cap HS13.out).2)
      have HSB := Lib.hid (sameBytes_self A13 A15 n13 (n9 + b) c13 c15 w15 (l.take n9 ++ m) HX.out HY.out.rd HCAP.out)
      clear hown hgr hrow
      refine HSB.out.mono ?_
      rintro e w16 ⟨rfl, k2, rfl⟩
      go_wp2_with fail
      go_ret
      exact ⟨rfl, below_drewN HBF.out k2⟩
  · have y3 : (5000 : Int) < (a : Int) + (b : Int) := by omega
    clear hg
    go_enter Try.func8, Try.ntmps8
    go_wp2_with fail
    refine HAL.out.mono ?_
    rintro e w1 ⟨rfl, hb1⟩
    have HB1 := Lib.hid hb1
    clear hb1
    go_wp2_with fail
    go_ret
    exact ⟨rfl, HB1.out⟩
end Go.Proofs.Ytcibjdodkcfpeaa
