/-
  LogOne: the walk.
-/
import Derived.Test.YtmiejaohkgemnaaDoorMLaw
namespace Go.Proofs.YtmiejaohkgemnaaDoor
open Go.RowKit
open Pk Sh
set_option linter.unusedVariables false
set_option maxRecDepth 100000

/-- two logs that have no block in common -/
structure LTwo (B : Nat) (w0 w : World) (F : Nat → Prop) (gd g : Nat) (L : Lg.PL) (F' : Nat → Prop) (gd' g' : Nat) (L' : Lg.PL) : Prop where
  one : LOn B w0 w F gd g L
  two : LOn B w0 w F' gd' g' L'
  apart : ∀ i, (F i ∨ i = g) → ¬ (F' i ∨ i = g')
  pos : 0 < B
section
variable {B gd g gd' g' : Nat} {w0 w w' : World} {F F' : Nat → Prop} {L L' : Lg.PL} {r : Lg.PL × Int} {e : Ending}
theorem LTwo.kept (h : LTwo B w0 w F gd g L F' gd' g' L') (hb : Below w.heap.size w w') : LTwo B w0 w' F gd g L F' gd' g' L' := ⟨h.one.kept hb, h.two.kept hb, h.apart, h.pos⟩
theorem LTwo.did1 (h : LTwo B w0 w F gd g L F' gd' g' L') (hd : LDid F gd g r w e w') : e = .returned (.int .i64 r.2) ∧ ∃ G, LTwo B w0 w' G gd g r.1 F' gd' g' L' := by
  obtain ⟨he, G, hl, hG, hc⟩ := h.one.did hd
  refine ⟨he, G, hl, h.two.other hc (fun i hi => hi.elim (h.one.up i) (fun e => e ▸ h.one.gb)) (fun i hf hi => h.apart i hi (.inl hf)) (fun hi => h.apart g' hi (.inr rfl)) h.pos, fun i hi hf => ?_, h.pos⟩
  rcases hi with hi | hi
  · rcases hG i hi with q | q
    · exact h.apart i (.inl q) hf
    · have h1 : i < w.heap.size := hf.elim (h.two.lt i) (fun e => e ▸ h.two.lo.bk.lt)
      omega
  · exact h.apart i (.inr hi) hf
theorem LTwo.swap (h : LTwo B w0 w F gd g L F' gd' g' L') : LTwo B w0 w F' gd' g' L' F gd g L := ⟨h.two, h.one, fun i hi hf => h.apart i hf hi, h.pos⟩
theorem LTwo.did2 (h : LTwo B w0 w F gd g L F' gd' g' L') (hd : LDid F' gd' g' r w e w') : e = .returned (.int .i64 r.2) ∧ ∃ G, LTwo B w0 w' F gd g L G gd' g' r.1 := by
  obtain ⟨he, G, h'⟩ := h.swap.did1 hd
  exact ⟨he, G, h'.swap⟩
end
namespace Lg
/-- so many records, added one by one -/
def pj (a : List (List UInt8)) (k : Nat) : PL := ⟨⟨-1, whole 1 0 (a.take k), [], H0.length, 0⟩, 0, 1, 0, a.take k⟩
theorem pj_zero (a : List (List UInt8)) : pj a 0 = L0 := rfl
theorem pj_all (a : List (List UInt8)) : pj a a.length = pa a := by unfold pj pa; rw [List.take_length]
theorem pj_add {a : List (List UInt8)} (k : Nat) (hk : k < a.length) (hl : (a.getD k []).length ≤ 65536) : (pj a k).add [a.getD k []] = (pj a (k + 1), 0) := by
  have hlo : longs [a.getD k []] = false := longs_of (by simpa using hl)
  unfold pj
  rw [add0 hlo, take_snocD a [] k hk, whole_append, Nat.add_comm]
theorem pa_good {a : List (List UInt8)} (h : ∀ l ∈ a, l.length ≤ 65536) : Good (pa a) := ⟨rfl, .inl rfl, Nat.le_refl _, (by show (1 : Nat) < _; omega), (by show (0 : Nat) < _; omega), Nat.zero_le _, h⟩
theorem pj_len {a : List (List UInt8)} (h : rowsW a ≤ 3000) (k : Nat) : (pj a k).D.d0.length ≤ 39031 ∧ (pj a k).D.d1.length ≤ 39031 :=
  ⟨by have := whole_all 1 0 (a.take k) [] (by omega) (by omega) (by have := rowsW_take a k; simp only [rowsW]; omega); rw [List.append_nil] at this; exact this, by show (0 : Nat) ≤ _; omega⟩
end Lg
set_option maxHeartbeats 6400000 in
theorem logOne_walk (w : World) (hT : Tab w) (v0 : Value) (a : List (List UInt8)) (h0 : InR w v0 a) : Calls Tryd.prog 8 #[v0] w (Tr w) := by
  have h0' := h0
  obtain ⟨A, n, c, rfl, hnc, hcm, hA, hAz⟩ := h0'
  have HA0 := Lib.hid h0
  have HA := Lib.hid hA
  have HNA := Lib.hid (show a.length = n from hA.1)
  have HT := Lib.hid hT
  have HAL := Lib.hid (alive5 w hT)
  clear h0 hA hnc hcm hAz hT
  go_enter Tryd.func8, Tryd.ntmps8
  go_wp2_with fail
  refine HAL.out.mono ?_
  rintro e w1 ⟨rfl, hb1⟩
  have HB1 := Lib.hid hb1
  have HGR := Lib.hid (great_one A n c a w1 (HA0.out.below hb1))
  clear hb1 HAL
  go_wp2_with fail
  refine HGR.out.mono ?_
  rintro e w2 ⟨gr, rfl, hgr, hw2⟩
  have HB2 := Lib.hid (show Below w.heap.size w w2 by rw [hw2]; exact HB1.out.alloc HB1.out.size _)
  clear hw2 HGR HB1
  cases gr
  · have hW := hgr rfl
    have HW := Lib.hid hW
    have hal : ∀ l ∈ a, l.length ≤ 65536 := fun l hl => by have := rows_each hW l hl; omega
    have hla := rows_len a
    have HALL := Lib.hid hal
    have HLEN := Lib.hid (show a.length ≤ 3000 by omega)
    have HLA := Lib.hid (Lg.longs_of hal)
    have hfa := Lg.frames_le 1 1 a hal
    have HFA := Lib.hid (show (Lg.frames 1 1 a).length ≤ 39000 by omega)
    have HPJ := Lib.hid (Lg.pj_len hW)
    have HN := Lib.hid (disk_new (-1) w2 (by omega))
    clear hgr hW hal hla hfa
    go_wp2_with fail
    refine HN.out.mono ?_
    rintro e w3 hm
    obtain ⟨d1, F1, rfl, hon1, _, _⟩ := Made.on HB2.out HB2.out.size hm
    have HN2 := Lib.hid (disk_new (-1) w3 (by omega))
    have HON1 := Lib.hid hon1
    clear hm hon1 HN HB2
    go_wp2_with fail
    refine HN2.out.mono ?_
    rintro e w4 hm
    obtain ⟨d2, F2, rfl, hon2, hF2, hb4⟩ := Made.on HON1.out.be HON1.out.sz hm
    have hon1 := HON1.out.kept hb4
    have hdis : ∀ i, F1 i → ¬ F2 i := fun i h1 h2 => by have := HON1.out.lt i h1; have := hF2 i h2; omega
    have hop := log_open d1 (PD.new (-1)) F1 w4 hon1.dk (Tab.on HT.out hon1 HT.out.1) (below_pos hon1 HT.out.1) (by simp [PD.new]) (by simp [PD.new])
    rw [Lg.opn_new] at hop
    have HOP := Lib.hid hop
    have HON1 := Lib.hid hon1
    have HON2 := Lib.hid hon2
    have HDIS := Lib.hid hdis
    clear hm hon1 hon2 hop HN2 hF2 hb4 hdis
    go_wp2_with fail
    refine HOP.out.mono ?_
    rintro e w5 ho
    rcases HON1.out.open_ ho with ⟨hz, _⟩ | ⟨_, g1, F3, rfl, hl1, hF3, hc5, hg1⟩
    · exact absurd rfl hz
    have hon2 := HON2.out.other hc5 HON1.out.up (fun i h2 h1 => HDIS.out i h1 h2)
    have hd3 : ∀ i, (F3 i ∨ i = g1) → ¬ F2 i := fun i h3 h2 => by
      have h4 := HON2.out.lt i h2
      rcases h3 with h3 | h3
      · rcases hF3 i h3 with q | q
        · exact HDIS.out i q h2
        · omega
      · omega
    have hop2 := log_open d2 (PD.new (-1)) F2 w5 hon2.dk (Tab.on HT.out hon2 HT.out.1) (below_pos hon2 HT.out.1) (by simp [PD.new]) (by simp [PD.new])
    rw [Lg.opn_new] at hop2
    have HOP2 := Lib.hid hop2
    have HL1 := Lib.hid hl1
    have HON2 := Lib.hid hon2
    have HD3 := Lib.hid hd3
    clear ho hl1 hF3 hc5 hg1 hon2 hd3 hop2 HOP HON1 HDIS
    go_wp2_with fail
    refine HOP2.out.mono ?_
    rintro e w6 ho
    rcases HON2.out.open_ ho with ⟨hz, _⟩ | ⟨_, g2, F4, rfl, hl2, hF4, hc6, hg2⟩
    · exact absurd rfl hz
    have htw : LTwo w.heap.size w w6 F3 d1 g1 Lg.L0 F4 d2 g2 Lg.L0 := ⟨HL1.out.other hc6 HON2.out.up (fun i h3 h2 => HD3.out i (.inl h3) h2) (fun h2 => HD3.out g1 (.inr rfl) h2) HT.out.1, hl2, fun i h3 h4 => by
      have h5 : i < w5.heap.size := h3.elim (HL1.out.lt i) (fun e => e ▸ HL1.out.lo.bk.lt)
      rcases h4 with h4 | h4
      · rcases hF4 i h4 with q | q
        · exact HD3.out i h3 q
        · omega
      · omega, HT.out.1⟩
    have HCP := Lib.hid (copyRows_any A n c a w6 (HA.out.below hl2.be) (by have := HW.out; rw [total_rowsW]; omega))
    have HTW := Lib.hid htw
    clear ho hl2 hF4 hc6 hg2 htw HOP2 HON2 HD3 HL1
    go_wp2_with fail
    refine HCP.out.mono ?_
    rintro e w7 ⟨A7, n7, c7, rfl, hr7, hb7⟩
    have hn7 : n7 = n := by rw [← hr7.1]; exact HNA.out
    subst hn7
    have htw := HTW.out.kept hb7
    have had := add_any d1 g1 Lg.L0 F3 A7 n7 c7 a w7 htw.one.lo (hr7.off' HTW.out.one.lt) (by decide) (by have := HLEN.out; have := HNA.out; omega) (by decide)
      (by have := Lg.H0_le; have := HFA.out; show Lg.H0.length + (Lg.frames 1 1 a).length ≤ _; omega)
      (by have := HFA.out; show 0 + (Lg.frames 1 1 a).length ≤ _; omega)
    rw [Lg.pa_is HLA.out] at had
    have HAD := Lib.hid had
    have HTW := Lib.hid htw
    clear hr7 hb7 htw had HCP
    go_wp2_with fail
    refine HAD.out.mono ?_
    rintro e w8 hd
    obtain ⟨rfl, F5, htw⟩ := HTW.out.did1 hd
    have HAT := Lib.hid (show ∃ G, LTwo w.heap.size w w8 F5 d1 g1 (Lg.pa a) G d2 g2 (Lg.pj a 0) from ⟨F4, htw⟩)
    clear hd htw HAD HTW
    go_wp2_with fail
    go_loopw [9] (fun i wr => ∃ (k : Nat) (G : Nat → Prop), k ≤ n7 ∧ i = .int .i64 (k : Nat) ∧ LTwo w.heap.size w wr F5 d1 g1 (Lg.pa a) G d2 g2 (Lg.pj a k)) (fun i _ => n7 - (intOf i).toNat)
    case atStart =>
      obtain ⟨G, h⟩ := HAT.out
      exact ⟨0, G, Nat.zero_le _, rfl, h⟩
    case round =>
      clear HAT
      obtain ⟨k, G, hk, rfl, ht⟩ := hrel
      by_cases hlt : k < n7
      · have hka : k < a.length := by rw [HNA.out]; exact hlt
        obtain ⟨x, E, e, rfl, hbx, hc, hd1, hd2, hr, _⟩ := (HA.out.below ht.one.be).at_ hlt
        have hmem := HALL.out _ (getD_mem (d := ([] : List UInt8)) hka)
        have hrw := rows_each HW.out _ (getD_mem (d := ([] : List UInt8)) hka)
        have had := Lg.pj_add k hka hmem
        generalize a.getD k [] = z at *
        have HCB := Lib.hid (copyBytes_any E z.length e z wr hr (by omega))
        have HTT := Lib.hid ht
        have HADP := Lib.hid had
        have HZ := Lib.hid hrw
        have HLT := Lib.hid hlt
        have e1 : (0 : Int) ≤ (k : Int) := by omega
        have e2 : (k : Int) < (n7 : Int) := by omega
        have w1' : IntKind.i64.wrap ((k : Int) + 1) = (k : Int) + 1 := by have := HLEN.out; have := HNA.out; simp only [IntKind.wrap, IntKind.bits, IntKind.signed]; simp; omega
        clear hbx hd1 hd2 hr hmem hrw had ht hka hlt
        go_wp2_with fail
        refine HCB.out.mono ?_
        rintro e w9 ⟨A9, n9, c9, rfl, ho9, hb9⟩
        have hn9 : z.length = n9 := ho9.len
        subst hn9
        have ht9 := HTT.out.kept hb9
        have hro := rows_off_1 (F := G) (Sl.own ho9) (fun y ey _ hf => by have h1 := HTT.out.two.lt _ hf; have h2 := own_block_at ho9 y ey; omega) ht9.two.lt w9.heap.size rfl
        have ht10 := ht9.kept ((Below.refl _ _).alloc (Nat.le_refl _) (.cells #[.slice A9 z.length c9] 32))
        have hfl := Lg.frames_le (Lg.pj a k).gen ((Lg.pj a k).list.length + 1) [z] (by have := HZ.out; simp; omega)
        simp only [rowsW] at hfl
        have hpc : (Lg.pj a k).list.length ≤ 6000 := by
          have h1 : (Lg.pj a k).list = a.take k := rfl
          rw [h1, List.length_take]
          have := HLEN.out; omega
        have hpl := HPJ.out k
        have hadd := add_any d2 g2 (Lg.pj a k) G (some ⟨w9.heap.size, 0, none⟩) 1 1 [z] _ ht10.two.lo hro (by show 1 < _; omega) (by omega) (by omega) (by have := HZ.out; omega) (by have := HZ.out; omega)
        rw [HADP.out] at hadd
        have HADD := Lib.hid hadd
        have HT10 := Lib.hid ht10
        clear ho9 hb9 ht9 hro ht10 hfl hpc hpl hadd HCB
        go_wp2_with fail
        refine HADD.out.mono ?_
        rintro e w11 hd
        obtain ⟨rfl, G2, ht11⟩ := HT10.out.did2 hd
        have HT11 := Lib.hid ht11
        clear hd ht11 HADD HT10
        go_wp2_with fail
        go_roundw
        case rel => exact ⟨k + 1, G2, by have := HLT.out; omega, by go_num, HT11.out⟩
        case measure => have := HLT.out; simp [intOf]; omega
      · have hkm : k = a.length := by rw [HNA.out]; omega
        subst hkm
        rw [Lg.pj_all] at ht
        have y4 : ¬ ((a.length : Nat) : Int) < (n7 : Int) := by have := HNA.out; omega
        have HAT := Lib.hid ht
        have hpl := HPJ.out a.length
        rw [Lg.pj_all] at hpl
        have HPL := Lib.hid hpl
        clear hlt hk ht hpl
        go_wp2_with fail
        go_loopw [10] (fun i wx => ∃ k : Nat, k ≤ 2 ∧ i = .int .i64 (k : Nat) ∧ LTwo w.heap.size w wx F5 d1 g1 (Lg.pa a) G d2 g2 (Lg.pa a)) (fun i _ => 2 - (intOf i).toNat)
        case atStart => exact ⟨0, Nat.zero_le _, rfl, HAT.out⟩
        case round =>
          clear HAT
          obtain ⟨k, hk, rfl, ht⟩ := hrel
          rename World => wx
          by_cases hlt : k < 2
          · have hkn : known (k : Int) = true := by
              unfold known
              match k, hlt with
              | 0, _ => rfl
              | 1, _ => rfl
            have hr1 := disk_read d1 k (Lg.pa a).D F5 wx ht.one.lo.dk (by have := HPL.out; omega) (by have := HPL.out; omega)
            rw [PD.read_some _ k hkn] at hr1
            have HR1 := Lib.hid hr1
            have HTT := Lib.hid ht
            have HKN := Lib.hid hkn
            have HLT := Lib.hid hlt
            have e1 : (k : Int) < 2 := by omega
            have w1' : IntKind.i64.wrap ((k : Int) + 1) = (k : Int) + 1 := by simp only [IntKind.wrap, IntKind.bits, IntKind.signed]; simp; omega
            clear hr1 ht hkn hlt hk
            go_wp2_with fail
            refine HR1.out.mono ?_
            rintro e w12 ⟨A12, n12, c12, rfl, ho12, hb12⟩
            have ht12 := HTT.out.kept hb12
            have hr2 := disk_read d2 k (Lg.pa a).D G w12 ht12.two.lo.dk (by have := HPL.out; omega) (by have := HPL.out; omega)
            rw [PD.read_some _ k HKN.out] at hr2
            have HR2 := Lib.hid hr2
            have HO12 := Lib.hid ho12
            have HT12 := Lib.hid ht12
            clear ho12 hb12 ht12 hr2 HR1
            go_wp2_with fail
            refine HR2.out.mono ?_
            rintro e w13 ⟨A13, n13, c13, rfl, ho13, hb13⟩
            have HSB := Lib.hid (sameBytes_self A12 A13 n12 n13 c12 c13 w13 ((Lg.pa a).D.data k) ((HO12.out.below hb13).rd) ho13.rd (by have h1 := HO12.out.len; have h2 := PD.data_le HPL.out.1 HPL.out.2 (k : Int); simp only [maxLen]; omega))
            have HT13 := Lib.hid (HT12.out.kept hb13)
            clear ho13 hb13 HR2
            go_wp2_with fail
            refine HSB.out.mono ?_
            rintro e w14 ⟨rfl, mm, rfl⟩
            go_wp2_with fail
            go_roundw
            case rel => exact ⟨k + 1, by have := HLT.out; omega, by go_num, HT13.out.kept (below_drewN (Below.refl _ _) _)⟩
            case measure => have := HLT.out; simp [intOf]; omega
          · have y5 : ¬ (k : Int) < 2 := by omega
            have HRC := Lib.hid (records_any d1 g1 (Lg.pa a) F5 wx ht.one.lo (Lg.pa_good HALL.out) (by have := HPL.out; omega) (by have := HPL.out; omega) (by show a.length ≤ _; have := HLEN.out; omega))
            have HTT := Lib.hid ht
            clear ht hlt hk
            go_wp2_with fail
            refine HRC.out.mono ?_
            rintro e w15 ⟨A15, n15, c15, rfl, hr15, hb15⟩
            have ht15 := HTT.out.kept hb15
            have HRC2 := Lib.hid (records_any d2 g2 (Lg.pa a) G w15 ht15.two.lo (Lg.pa_good HALL.out) (by have := HPL.out; omega) (by have := HPL.out; omega) (by show a.length ≤ _; have := HLEN.out; omega))
            have HR15 := Lib.hid hr15
            have HT15 := Lib.hid ht15
            clear hr15 hb15 ht15 HRC
            go_wp2_with fail
            refine HRC2.out.mono ?_
            rintro e w16 ⟨A16, n16, c16, rfl, hr16, hb16⟩
            have HSR := Lib.hid (sameRows_self A15 A16 n15 n16 c15 c16 w16 a (HR15.out.below hb16).rd hr16.rd (by have h1 : a.length = n15 := HR15.out.1; have := HLEN.out; simp only [maxLen]; omega))
            have HFIN := Lib.hid (HT15.out.kept hb16).one.be
            clear hr16 hb16 HRC2
            go_wp2_with fail
            refine HSR.out.mono ?_
            rintro e w17 ⟨rfl, mm, rfl⟩
            go_wp2_with fail
            go_ret
            exact ⟨rfl, below_drewN HFIN.out _⟩
  · go_wp2_with fail
    go_ret
    exact ⟨rfl, HB2.out⟩
end Go.Proofs.YtmiejaohkgemnaaDoor
