/-
  DiskMemory: the walk.
-/
import Derived.Test.YtcibjdodkcfpeaaDiskTwo
namespace Go.Proofs.Ytcibjdodkcfpeaa
open Go.RowKit
set_option linter.unusedVariables false

def me1 (l m : List UInt8) : PD := ⟨-1, l ++ m, [], 0, 0⟩
def me2 (l m : List UInt8) : PD := ⟨-1, l ++ m, [], (l ++ m).length, 0⟩
def moreB : List UInt8 := [109, 111, 114, 101]
def me3 (l m : List UInt8) : PD := ⟨-1, l ++ m ++ moreB, [], (l ++ m).length, 0⟩
theorem me1_eq (l m : List UInt8) : (PD.new (-1)).append 0 [l, m] = (me1 l m, 0) := by simp [PD.append, PD.new, known, PD.drew, drawn, PD.setData, PD.data, me1]
theorem me2_any (l m : List UInt8) (K : Int) (hK : 5000 ≤ K) (h : l.length + m.length ≤ 5000) : (me1 l m).crash [K] (-1) = me2 l m := by
  have e : PD.left (l ++ m) 0 K = (l ++ m).length := by
    have := left_eq (l ++ m) 0 K (by omega) (by omega)
    simp only [List.length_append] at this ⊢
    omega
  have e1 : (me1 l m).d0 = l ++ m := rfl
  have e2 : (me1 l m).s0 = 0 := rfl
  have e3 : (me1 l m).d1 = [] := rfl
  simp only [PD.crash, e1, e2, e3, List.getD_cons_zero, e, List.take_length, List.take_nil]
  rfl
theorem me2_eq (l m : List UInt8) (h : l.length + m.length ≤ 5000) : (me1 l m).crash [1073741824] (-1) = me2 l m := me2_any l m 1073741824 (by omega) h
theorem me3_eq (l m : List UInt8) : (me2 l m).append 0 [moreB] = (me3 l m, 0) := by simp [PD.append, me2, me3, known, PD.drew, drawn, PD.setData, PD.data]
/-- how a loop that turns all bytes of a row stands -/
def XorAt (w8 : World) (base : Nat) (A : Option Addr) (n c : Nat) (l : List UInt8) (k : Nat) (wr : World) : Prop :=
  ∃ xs, wr.ownsRow base 5 1 (.slice A n c) n xs ∧ xs.drop k = (l.map bv).drop k ∧ Chg (fun i => (Value.slice A n c).ownBlock = some i) w8 wr
theorem xor_start {w8 : World} {base n c : Nat} {A : Option Addr} {l : List UInt8} (h : OwnB w8 base A n c l) : XorAt w8 base A n c l 0 w8 := ⟨_, h, rfl, Chg.refl _ _⟩
/-- the next byte: where it lies -/
theorem xor_here {w8 wr : World} {base n c k : Nat} {A : Option Addr} {l : List UInt8} (h : XorAt w8 base A n c l k wr) (hl : l.length = n) (hk : k < n) :
    ∃ g x, A = some ⟨g, 0, none⟩ ∧ wr.cell? ⟨g, k, none⟩ = some (bv x) ∧ wr.frozen? ⟨g, k, none⟩ = false ∧ ∀ u, XorAt w8 base A n c l (k + 1) (wr.setCell ⟨g, k, none⟩ u) := by
  obtain ⟨xs, ho, hd, hc⟩ := h
  have hxl : xs.length = n := by simpa using ho.1
  rcases ho.2 with ⟨e1, e2⟩ | ⟨g, cap, cur, e1, _⟩
  · omega
  · injection e1 with e3 e4 e5
    subst e3 e5
    have hg : xs[k]? = some (bv (l[k]'(by omega))) := by
      have := congrArg List.head? hd
      simpa [List.head?_drop, hl, hk] using this
    refine ⟨g, l[k]'(by omega), rfl, ?_, ho.frozenAt k, fun u => ?_⟩
    · rw [ho.cellAt k (by omega)]; exact hg
    · obtain ⟨h1, h2⟩ := ho.stored k u
      refine ⟨_, h1, ?_, hc.grown h2 (fun b e => .inl (by injection e with e; subst e; rfl))⟩
      have hd2 := congrArg List.tail hd
      rw [List.tail_drop, List.tail_drop] at hd2
      rw [List.drop_set_of_lt (by omega)]
      exact hd2
set_option maxHeartbeats 3200000 in
theorem diskMemory_walk (w : World) (v0 : Value) (l : List UInt8) (h0 : InBs w v0 l) (v1 : Value) (m : List UInt8) (h1 : InBs w v1 m) :
    Calls Try.prog 6 #[v0, v1] w (Tr w) := by
  obtain ⟨i0, hi, hz0, hz1, hz2⟩ := info_parts info_u8
  obtain ⟨⟨A, a, c, rfl, hac, hcm, hA, hAz⟩, hls⟩ := h0
  obtain ⟨⟨B, b, d, rfl, hbd, hdm, hB, hBz⟩, hms⟩ := h1
  have hla : l.length = a := by simpa using hA.1
  have hmb : m.length = b := by simpa using hB.1
  have HA := Lib.hid hA
  have HB := Lib.hid hB
  have HLA := Lib.hid hla
  have HMB := Lib.hid hmb
  have y1 : (a : Int) ≤ 140737488355328 := by omega
  have y2 : (b : Int) ≤ 140737488355328 := by omega
  have HAL := Lib.hid (alive_ok w)
  clear hA hB hla hmb hls hms hAz hBz hcm hdm hac hbd
  go_enter Try.func6, Try.ntmps6
  go_wp2_with fail
  refine HAL.out.mono ?_
  rintro e w1 ⟨rfl, hb1⟩
  have HB1 := Lib.hid hb1
  have HN := Lib.hid (disk_new (-1) w1 (by omega))
  clear hb1 HAL
  go_wp2_with fail
  refine HN.out.mono ?_
  rintro e w2 hm
  obtain ⟨g, F, rfl, hon, _, _⟩ := Made.on HB1.out HB1.out.size hm
  have HON := Lib.hid hon
  clear hm hon HN
  by_cases hg : a + b ≤ 5000
  · have HG := Lib.hid hg
    have y3 : ¬ (5000 : Int) < (a : Int) + (b : Int) := by omega
    have HCP := Lib.hid (copyBytes_any A a c l w2 (HA.out.below HON.out.be) (by omega))
    clear hg
    go_wp2_with fail
    refine HCP.out.mono ?_
    rintro e w3 ⟨A3, n3, c3, rfl, ho3, hb3⟩
    have hon := HON.out.kept hb3
    have HCP := Lib.hid (copyBytes_any B b d m w3 (HB.out.below hon.be) (by have := HG.out; omega))
    have HNF := Lib.hid (show ∀ i, (Value.slice A3 n3 c3).ownBlock = some i → ¬ F i ∧ w.heap.size ≤ i from fun i e => by
      have h1 := ho3.block i e
      exact ⟨fun hf => by have := HON.out.lt i hf; omega, Nat.le_trans HON.out.sz h1⟩)
    have HON2 := Lib.hid HON.out
    have HON := Lib.hid hon
    have HO3 := Lib.hid ho3
    have HS23 := Lib.hid hb3.size
    clear hon ho3 hb3
    go_wp2_with fail
    refine HCP.out.mono ?_
    rintro e w4 ⟨A4, n4, c4, rfl, ho4, hb4⟩
    have hon := HON.out.kept hb4
    have ho3 := HO3.out.below hb4
    have hst := stay_2 (F := F) (base := w2.heap.size) (Sl.own ho3) (own_block_at ho3) (Sl.own ho4) (fun x e => Nat.le_trans HS23.out (own_block_at ho4 x e)) HON2.out.lt (Nat.le_trans HS23.out hb4.size) w4.heap.size rfl
    have hon2 := hon.alloc (.cells #[.slice A3 n3 c3, .slice A4 n4 c4] 28)
    have HAP := Lib.hid (disk_append g 0 (PD.new (-1)) F (some ⟨w4.heap.size, 0, none⟩) 2 2 [l, m] _ hon2.dk hst (by have := HG.out; have := HLA.out; have := HMB.out; simp [PD.new]; omega) (by have := HG.out; have := HLA.out; have := HMB.out; simp [PD.new]; omega) (by omega))
    have HON := Lib.hid hon2
    have HO3 := Lib.hid (ho3.alloc (.cells #[.slice A3 n3 c3, .slice A4 n4 c4] 28))
    have HL3 := Lib.hid ho3.len
    have HC3 := Lib.hid (own_cap ho3)
    clear ho3 ho4 hb4 hon hst hon2 HCP
    go_wp2_with fail
    refine HAP.out.mono ?_
    rintro e w5 hd
    obtain ⟨rfl, F5, hon, hF5, hc5⟩ := HON.out.did hd
    rw [me1_eq] at hon ⊢
    have HNF5 := Lib.hid (show ∀ i, (Value.slice A3 n3 c3).ownBlock = some i → ¬ F5 i ∧ w.heap.size ≤ i from fun i e => ⟨fun hf => by
      rcases hF5 i hf with q | q
      · exact (HNF.out i e).1 q
      · have := (World.ownsRow.lt HO3.out i e).2; omega, (HNF.out i e).2⟩)
    have HXA := Lib.hid (xor_start (hc5.ownB HO3.out (fun i e => (HNF.out i e).1)))
    have HON := Lib.hid hon
    have hn3 : n3 = a := by rw [← HL3.out]; exact HLA.out
    subst hn3
    have y4 : (n3 : Int) ≤ 5000 := by have := HG.out; omega
    clear hd hon hc5 hF5 HAP HNF HO3
    go_wp2_with fail
    go_loopw [7] (fun i wr => ∃ k : Nat, k ≤ n3 ∧ i = .int .i64 k ∧ XorAt w5 w2.heap.size A3 n3 c3 l k wr) (fun i _ => n3 - (intOf i).toNat)
    case atStart => exact ⟨0, Nat.zero_le _, rfl, HXA.out⟩
    case round =>
      clear HXA
      obtain ⟨k, hk, rfl, hx⟩ := hrel
      by_cases hkn : k < n3
      · obtain ⟨gx, x, rfl, x0, x1, hnx⟩ := xor_here hx HL3.out hkn
        have HNX := Lib.hid hnx
        have HKN := Lib.hid hkn
        unfold bv at x0
        have y5 : (0 : Int) ≤ (k : Int) := by omega
        have y6 : (k : Int) < (n3 : Int) := by omega
        have w1' : IntKind.i64.wrap ((k : Int) + 1) = (k : Int) + 1 := by simp only [IntKind.wrap, IntKind.bits, IntKind.signed]; simp; omega
        clear hx hnx hkn
        go_wp2_with fail
        go_roundw
        case rel => exact ⟨k + 1, by have := HKN.out; omega, by go_num, HNX.out _⟩
        case measure => have := HKN.out; simp [intOf]; omega
      · have y6 : ¬ (k : Int) < (n3 : Int) := by omega
        obtain ⟨_, _, _, hch⟩ := hx
        have hon := HON.out.other hch (fun i e => (HNF5.out i e).2) (fun i hf e => (HNF5.out i e).1 hf)
        have HCP := Lib.hid (copyBytes_any A n3 c l wr (HA.out.below hon.be) (by have := HG.out; omega))
        have HON := Lib.hid hon
        clear hon hch hkn
        go_wp2_with fail
        refine HCP.out.mono ?_
        rintro e w6 ⟨A6, n6, c6, rfl, ho6, hb6⟩
        have hon := HON.out.kept hb6
        have hn6 : n6 = n3 := by rw [← ho6.len]; exact HLA.out
        rw [hn6] at ho6 ⊢
        clear hn6
        have HBM := Lib.hid (HB.out.below hon.be)
        have HO6 := Lib.hid ho6
        have HNW := Lib.hid (show ∀ i, (Value.slice A6 n3 c6).ownBlock = some i → ¬ F5 i ∧ w.heap.size ≤ i from fun i e => by
          have h1 := ho6.block i e
          exact ⟨fun hf => by have := HON.out.lt i hf; omega, Nat.le_trans HON.out.sz h1⟩)
        have HON := Lib.hid hon
        have HSZ := Lib.hid (show w6.heap.size ≤ w6.heap.size from Nat.le_refl _)
        have HS6 := Lib.hid hb6.size
        clear hon ho6 hb6 HCP
        go_wp2_with (at_builtin
                     refine wpList_append_rd _ rfl _ _ 28 rfl wr.heap.size 5 i0 _ 1 Try.underlying28 hi hz0 hz1 hz2 rfl A6 n3 c6 (l.map bv) rfl HO6.out B b d (m.map bv) rfl
                       HBM.out (oneCell_bytes m) (by have := HG.out; simp only [maxLen]; omega) (by have := HG.out; omega) HS6.out ?_
                     intro A7 c7 w7 hown hgr hrow
                     have HOWN := Lib.hid hown
                     have HGR := Lib.hid hgr
                     have HROW := Lib.hid hrow
                     have HCR := Lib.hid (show ∀ W, Below w7.heap.size w7 W → True from fun _ _ => trivial)
                     clear hown hgr hrow)
        have HW7 := Lib.hid (show OwnB w7 wr.heap.size A7 (n3 + b) c7 (l ++ m) by simpa [OwnB] using HOWN.out)
        have hc7 : Chg (fun i => (Value.slice A6 n3 c6).ownBlock = some i) w6 w7 := (Chg.refl _ _).grown HGR.out (fun i e => .inl e)
        have hon := HON.out.other hc7 (fun i e => (HNW.out i e).2) (fun i hf e => (HNW.out i e).1 hf)
        have hon2 := hon.alloc (.cells #[.int .i64 1073741824] 3)
        have hl1 : (me1 l m).d0.length ≤ 1099511627776 := by have := HG.out; have := HLA.out; have := HMB.out; simp [me1]; omega
        have HCR := Lib.hid (disk_crash g (me1 l m) F5 (some ⟨w7.heap.size, 0, none⟩) 1 1 [1073741824] (-1) _ hon2.dk (Rd.new w7 ([1073741824].map iv) 3) (by simp [maxLen]) (by simp) (by omega) hl1 (by simp [me1]))
        rw [me2_eq l m (by have := HG.out; have := HLA.out; have := HMB.out; omega)] at HCR
        have HNW7 := Lib.hid (show ∀ i, (Value.slice A7 (n3 + b) c7).ownBlock = some i → ¬ F5 i from fun i e hf => by
          have h1 := HON.out.lt i hf
          rcases HROW.out with q | q
          · rw [q] at e; exact (HNW.out i e).1 hf
          · rw [q] at e; injection e with e; omega)
        have HON := Lib.hid hon2
        have HW7 := Lib.hid (HW7.out.alloc (.cells #[.int .i64 1073741824] 3))
        have HL1 := Lib.hid hl1
        clear hc7 hon hon2 hl1 HOWN HGR HROW HNW HO6
        refine HCR.out.mono ?_
        rintro e w8 hm
        obtain ⟨g2, F8, rfl, hon2, hF8, hb8⟩ := Made.on HON.out.be HON.out.sz hm
        have HTW := Lib.hid (show Two w.heap.size w w8 F5 g (me1 l m) F8 g2 (me2 l m) from ⟨HON.out.kept hb8, hon2, fun i hi hf => by have h1 := HON.out.lt i hi; have h2 := hF8 i hf; omega⟩)
        have HW8 := Lib.hid (HW7.out.below hb8)
        have HNW8 := Lib.hid (show ∀ i, (Value.slice A7 (n3 + b) c7).ownBlock = some i → ¬ F5 i ∧ ¬ F8 i from fun i e => ⟨HNW7.out i e, fun hf => by
          have h1 := (World.ownsRow.lt HW7.out i e).2
          have h2 := hF8 i hf
          omega⟩)
        have HRD := Lib.hid (disk_read g 0 (me1 l m) F5 w8 (HON.out.kept hb8).dk HL1.out (by simp [me1]))
        rw [show (me1 l m).read 0 = (l ++ m, 0) from rfl] at HRD
        clear hm hon2 hF8 hb8 HCR HNW7 HW7 HON
        go_wp2_with fail
        refine HRD.out.mono ?_
        rintro e w9 ⟨A9, n9, c9, rfl, ho9, hb9⟩
        have HTW9 := Lib.hid (HTW.out.kept hb9)
        have HW9 := Lib.hid (HW8.out.below hb9)
        have HN9 := Lib.hid (show ∀ i, (Value.slice A9 n9 c9).ownBlock = some i → ¬ F5 i ∧ ¬ F8 i ∧ w.heap.size ≤ i ∧ (Value.slice A7 (n3 + b) c7).ownBlock ≠ some i from fun i e => by
          have h1 := ho9.block i e
          exact ⟨fun hf => by have := HTW.out.one.lt i hf; omega, fun hf => by have := HTW.out.two.lt i hf; omega, Nat.le_trans HTW.out.one.sz h1, fun e7 => by have := (World.ownsRow.lt HW8.out i e7).2; omega⟩)
        have HL9 := Lib.hid ho9.len
        have HXA := Lib.hid (xor_start ho9)
        have hn9 : (n9 : Int) ≤ 5000 := by have := ho9.len; have := HG.out; have := HLA.out; have := HMB.out; simp at *; omega
        clear ho9 hb9 HRD HW8 HTW
        go_wp2_with fail
        go_loopw [12] (fun i wx => ∃ k : Nat, k ≤ n9 ∧ i = .int .i64 k ∧ XorAt w9 w8.heap.size A9 n9 c9 (l ++ m) k wx) (fun i _ => n9 - (intOf i).toNat)
        case atStart => exact ⟨0, Nat.zero_le _, rfl, HXA.out⟩
        case round =>
          clear HXA
          obtain ⟨k2, hk2, rfl, hx2⟩ := hrel
          rename World => wx
          by_cases hkn : k2 < n9
          · obtain ⟨gx, x, rfl, x0, x1, hnx⟩ := xor_here hx2 HL9.out hkn
            have HNX := Lib.hid hnx
            have HKN := Lib.hid hkn
            unfold bv at x0
            have y5 : (0 : Int) ≤ (k2 : Int) := by omega
            have y6 : (k2 : Int) < (n9 : Int) := by omega
            have w1' : IntKind.i64.wrap ((k2 : Int) + 1) = (k2 : Int) + 1 := by simp only [IntKind.wrap, IntKind.bits, IntKind.signed]; simp; omega
            clear hx2 hnx hkn
            go_wp2_with fail
            go_roundw
            case rel => exact ⟨k2 + 1, by have := HKN.out; omega, by go_num, HNX.out _⟩
            case measure => have := HKN.out; simp [intOf]; omega
          · have y6 : ¬ (k2 : Int) < (n9 : Int) := by omega
            obtain ⟨_, _, _, hch⟩ := hx2
            have hone := HTW9.out.one.other hch (fun i e => (HN9.out i e).2.2.1) (fun i hf e => (HN9.out i e).1 hf)
            have htwo := HTW9.out.two.other hch (fun i e => (HN9.out i e).2.2.1) (fun i hf e => (HN9.out i e).2.1 hf)
            have hw10 := hch.ownB HW9.out (fun i e e9 => (HN9.out i e9).2.2.2 e)
            obtain ⟨wz, hwz⟩ : ∃ wz, wz = wx := ⟨_, rfl⟩
            rw [← hwz] at hone htwo hw10 ⊢
            have kc := conv_const wz wz.heap.size rfl #[.int .u8 109, .int .u8 111, .int .u8 114, .int .u8 101] 4 4
            have hs := Sl.const wz moreB #[.int .u8 109, .int .u8 111, .int .u8 114, .int .u8 101] 4 wz.heap.size rfl rfl rfl (4, 5) (by simp [maxLen, moreB])
            have hst := stay_1' (F := F8) (base := wz.heap.size) hs (fun a e => by injection e with e; subst e; exact Nat.le_refl _) htwo.lt (by simp) (wz.heap.size + 1) (by simp)
            have htb := (show Two w.heap.size w wz F5 g (me1 l m) F8 g2 (me2 l m) from ⟨hone, htwo, HTW9.out.apart⟩).kept (((Below.refl _ _).alloc (Nat.le_refl _) (.cells #[.int .u8 109, .int .u8 111, .int .u8 114, .int .u8 101] 5 (4, 5))).alloc (by simp) (.cells #[.slice (some ⟨wz.heap.size, 0, none⟩) 4 4] 28))
            have HAP := Lib.hid (disk_append g2 0 (me2 l m) F8 (some ⟨wz.heap.size + 1, 0, none⟩) 1 1 [moreB] _ htb.two.dk hst (by have := HG.out; have := HLA.out; have := HMB.out; simp [me2, moreB]; omega) (by simp [me2, moreB]) (by omega))
            have HTB := Lib.hid htb
            have HW10 := Lib.hid ((hw10.alloc (.cells #[.int .u8 109, .int .u8 111, .int .u8 114, .int .u8 101] 5 (4, 5))).alloc (.cells #[.slice (some ⟨wz.heap.size, 0, none⟩) 4 4] 28))
            clear hch hone htwo hw10 hs hst htb hkn hwz HW9 HTW9
            go_wp2_with fail
            refine HAP.out.mono ?_
            rintro e w11 hd
            obtain ⟨rfl, F11, ht, _, hc11⟩ := HTB.out.did2 hd
            rw [me3_eq] at ht ⊢
            have HW11 := Lib.hid (hc11.ownB HW10.out (fun i e => (HNW8.out i e).2))
            have HRD := Lib.hid (disk_read g 0 (me1 l m) F5 w11 ht.one.dk HL1.out (by simp [me1]))
            rw [show (me1 l m).read 0 = (l ++ m, 0) from rfl] at HRD
            have HT := Lib.hid ht
            clear hd ht hc11 HAP HW10 HTB kc
            go_wp2_with fail
            refine HRD.out.mono ?_
            rintro e w12 ⟨A12, n12, c12, rfl, ho12, hb12⟩
            have ht := HT.out.kept hb12
            have HRD := Lib.hid (disk_read g2 0 (me3 l m) F11 w12 ht.two.dk (by have := HG.out; have := HLA.out; have := HMB.out; simp [me3, moreB]; omega) (by simp [me3]))
            rw [show (me3 l m).read 0 = (l ++ m ++ moreB, 0) from rfl] at HRD
            have HT := Lib.hid ht
            have HW12 := Lib.hid (HW11.out.below hb12)
            have HO12 := Lib.hid ho12
            clear ho12 hb12 ht HW11
            go_wp2_with fail
            refine HRD.out.mono ?_
            rintro e w13 ⟨A13, n13, c13, rfl, ho13, hb13⟩
            have ht := HT.out.kept hb13
            have hw13 := HW12.out.below hb13
            have ho12 := HO12.out.below hb13
            have HSB := Lib.hid (sameBytes_self A12 A7 n12 (n3 + b) c12 c7 w13 (l ++ m) ho12.rd hw13.rd (Nat.le_trans (own_cap ho12).1 (own_cap ho12).2))
            have hl13 := ho13.len
            rw [List.length_append, hw13.len] at hl13
            have hl13' : n13 = n3 + b + 4 := by rw [← hl13]; rfl
            have hrf := ho13.rd.front (k := n3 + b) (by omega)
            rw [← List.map_take, List.take_left' hw13.len] at hrf
            have HSB2 := Lib.hid (fun c c' n => sameBytes_self A13 A7 (n3 + b) (n3 + b) c c' (w13.drewN n) (l ++ m) (hrf.drewN n) (hw13.rd.drewN n) (by have := own_cap hw13; omega))
            have z1 : ((n13 : Int) == (n3 : Int) + (b : Int) + 4) = true := by simp; omega
            have z2 : (n3 : Int) + (b : Int) ≤ (c13 : Int) := by have := (own_cap ho13).1; omega
            have HBE := Lib.hid ht.one.be
            clear hw13 ho12 ho13 hb13 ht hl13 hl13' hrf HT HW12 HO12 HRD
            go_wp2_with fail
            refine HSB.out.mono ?_
            rintro e w14 ⟨rfl, kq, rfl⟩
            go_wp2_with fail
            (with_reducible refine (HSB2.out _ _ _).mono ?_)
            rintro e w15 ⟨rfl, kr, rfl⟩
            go_wp2_with fail
            go_ret
            exact ⟨rfl, below_drewN HBE.out (kq + kr)⟩
  · have y3 : (5000 : Int) < (a : Int) + (b : Int) := by omega
    clear hg
    go_wp2_with fail
    go_ret
    exact ⟨rfl, HON.out.be⟩
end Go.Proofs.Ytcibjdodkcfpeaa
