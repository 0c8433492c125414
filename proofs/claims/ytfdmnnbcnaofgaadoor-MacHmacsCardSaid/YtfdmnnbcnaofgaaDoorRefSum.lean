import Derived.Test.YtfdmnnbcnaofgaaDoorRefSumA
import Derived.Test.YtfdmnnbcnaofgaaDoorRefSumB
import Derived.Test.YtfdmnnbcnaofgaaDoorRefSumC
namespace Go.Proofs.YtfdmnnbcnaofgaaDoor
open Go.RowKit
open Sh
set_option linter.unusedVariables false

set_option maxHeartbeats 20000000 in
set_option maxRecDepth 100000 in
theorem refSum_any (A : Option Addr) (n c : Nat) (l : List UInt8) (w : World) (h : Rd w A n (l.map bv)) (hn : n ≤ 1099511627776) :
    Calls Tryd.prog 32 #[.slice A n c] w (Fresh1 (sum l) w) := by
  obtain ⟨i0, hi, hz0, hz1, hz2⟩ := info_parts info_u8
  have hx : l.length = n := by simpa using h.1
  have HN := Lib.hid hn
  have HX := Lib.hid hx
  go_enter Tryd.func32, Tryd.ntmps32
  go_wp2_with (first
    | (at_builtin
       refine wpList_append_rd _ rfl (.tmp 23) (.tmp 24) 22 rfl w.heap.size 5 i0 _ 1 Tryd.underlying22 hi hz0 hz1 hz2 rfl (some ⟨w.heap.size, 0, none⟩) 0 0 ([].map bv) rfl (own_empty w) A n c (l.map bv) rfl
                 (h.alloc _) (oneCell_bytes l) (by have := HN.out; simp only [maxLen]; omega) (by have := HN.out; omega) (by simp) ?_
       intro A1 c1 w1 hown1 hg1 hrow1
       simp only [Nat.zero_add, List.map_nil, List.nil_append] at hown1)
    | (at_builtin
       refine wpList_append_rd _ rfl (.tmp 26) (.tmp 27) 22 rfl w.heap.size 5 i0 _ 1 Tryd.underlying22 hi hz0 hz1 hz2 rfl A1 n c1 (l.map bv) rfl (World.ownsRow.alloc hown1 _) (some ⟨w1.heap.size, 0, none⟩) 1 1 [.int .u8 128] rfl
                     (Rd.new w1 [Value.int .u8 128] 5) (by simp [Value.oneCell']) (by have := HN.out; simp only [maxLen]; omega) (by have := HN.out; omega) (by have := hg1.size; simp at this ⊢; omega) ?_
       intro A2 c2 w2 hown2 hg2 hrow2))
  have hb2 : Below w.heap.size w w2 := by
    have b1 := ((Below.refl w.heap.size w).alloc (Nat.le_refl _) (.cells #[] 5)).grown hg1 (by simp) (fun k e => by simp [Value.ownBlock] at e; omega)
    have b2 := b1.alloc b1.size (.cells #[.int .u8 128] 5)
    exact b2.grown hg2 b2.size (fun k e => (World.ownsRow.lt hown1 k e).1)
  have ho2 : OwnB w2 w.heap.size A2 (n + 1) c2 (l ++ [128] ++ zeros 0) := by
    show w2.ownsRow _ _ _ _ _ _
    have e : (l ++ [128] ++ zeros 0).map bv = l.map bv ++ [.int .u8 128] := by simp [zeros, bv]
    rw [e]; exact hown2
  have HB2 := Lib.hid hb2
  have HO2 := Lib.hid ho2
  clear hb2 ho2 hown1 hown2 hg1 hg2 hrow1 hrow2 h hx hn
  go_loopw [3] (fun b wr => ∃ (A' : Option Addr) (n' c' j : Nat), b = .slice A' n' c' ∧ j ≤ gap n ∧ n' = n + 1 + j ∧ OwnB wr w.heap.size A' n' c' (l ++ [128] ++ zeros j) ∧ Below w.heap.size w wr) (fun b _ => match b with | .slice _ n' _ => n + 1 + gap n - n' | _ => 0)
  case atStart => exact ⟨A2, n + 1, c2, 0, rfl, Nat.zero_le _, rfl, HO2.out, HB2.out⟩
  case round =>
    obtain ⟨A', n', c', j, rfl, hj, hn', ho, hb⟩ := hrel
    by_cases hlt : j < gap n
    · have hmod := gap_lt n j hlt
      rw [← hn'] at hmod
      have hnb : n' ≤ 1099511627900 := by have := HN.out; unfold gap at hj; omega
      have HJ := Lib.hid hlt
      have HNN := Lib.hid hn'
      clear hn' hlt hj
      have he : ((n' : Int) % 64 != 56) = true := by rw [bne_iff_ne]; omega
      have hs := hb.size
      have HB := Lib.hid hb
      have HO := Lib.hid ho
      clear hb ho
      go_wp2_with (at_builtin
                   refine wpList_append_rd _ rfl (.tmp 33) (.tmp 34) 22 rfl w.heap.size 5 i0 _ 1 Tryd.underlying22 hi hz0 hz1 hz2 rfl A' n' c' ((l ++ [128] ++ zeros j).map bv) rfl (World.ownsRow.alloc HO.out _) (some ⟨wr.heap.size, 0, none⟩) 1 1 [.int .u8 0] rfl
                     (Rd.new wr [Value.int .u8 0] 5) (by simp [Value.oneCell']) (by simp only [maxLen]; omega) (by omega) (by simp; omega) ?_
                   intro A3 c3 w3 hown3 hg3 hrow3)
      have ho3 : OwnB w3 w.heap.size A3 (n' + 1) c3 (l ++ [128] ++ zeros (j + 1)) := by
        rw [← zeros_snoc, ← List.append_assoc]
        show w3.ownsRow _ _ _ _ _ _
        rw [List.map_append]; exact hown3
      have hb3 : Below w.heap.size w w3 := (HB.out.alloc HB.out.size _).grown hg3 (HB.out.alloc HB.out.size _).size (OwnB.block HO.out)
      refine ⟨⟨A3, n' + 1, c3, j + 1, rfl, HJ.out, by have := HNN.out; omega, ho3, hb3⟩, ?_⟩
      show n + 1 + gap n - (n' + 1) < n + 1 + gap n - n'
      have := HNN.out
      have := HJ.out
      omega
    · have ej : j = gap n := by omega
      subst ej
      have hmod := gap_end n _ rfl
      rw [← hn'] at hmod
      have he : ((n' : Int) % 64 != 56) = false := by rw [bne_eq_false_iff_eq]; omega
      have hnb : n' ≤ 1099511627900 := by have := HN.out; unfold gap at hn'; omega
      have HNN := Lib.hid hn'
      clear hn' hlt hj
      have HO3 := Lib.hid ho
      have HB3 := Lib.hid hb
      have hn := HN.out
      clear ho hb
      go_wp2_with fail
      go_loopw [3, 5] (fun b i wr => ∃ (A3 : Option Addr) (n3 c3 t : Nat), b = .slice A3 n3 c3 ∧ t ≤ 8 ∧ n3 = n' + t ∧ i = .int .i64 (7 - (t : Int)) ∧ OwnB wr w.heap.size A3 n3 c3 (l ++ [128] ++ zeros (gap n) ++ (big 8 (n * 8)).take t) ∧ Below w.heap.size w wr) (fun _ i _ => (intOf i + 1).toNat)
      case atStart => exact ⟨A', n', c', 0, rfl, Nat.zero_le _, rfl, rfl, by simpa using HO3.out, HB3.out⟩
      case round =>
        obtain ⟨A3, n3, c3, t, rfl, ht, hn3, rfl, ho, hb⟩ := hrel
        by_cases hlt : t < 8
        · obtain ⟨k, hk⟩ : ∃ k, k = 7 - t := ⟨_, rfl⟩
          have ek : 7 - (t : Int) = (k : Int) := by omega
          have hk7 : k ≤ 7 := by omega
          have hnb3 : n3 ≤ 1099511628000 := by omega
          have hs := hb.size
          have HT := Lib.hid hk
          have HLT := Lib.hid hlt
          have HN3 := Lib.hid hn3
          have HB := Lib.hid hb
          have HO := Lib.hid ho
          have HE := Lib.hid ek
          rw [ek]
          clear ho hb ek hk ht hlt hn3
          have HBY := Lib.hid (byte_len n k)
          go_wp2_with (at_builtin
                       refine wpList_append_rd _ rfl (.tmp 44) (.tmp 51) 22 rfl w.heap.size 5 i0 _ 1 Tryd.underlying22 hi hz0 hz1 hz2 rfl A3 n3 c3 ((l ++ [128] ++ zeros (gap n) ++ (big 8 (n * 8)).take t).map bv) rfl (World.ownsRow.alloc HO.out _) (some ⟨wr.heap.size, 0, none⟩) 1 1 [.int .u8 ((n : Int) * 8 / 2 ^ (8 * k) % 256)] rfl
                         (Rd.new wr [Value.int .u8 ((n : Int) * 8 / 2 ^ (8 * k) % 256)] 5) (by simp [Value.oneCell']) (by simp only [maxLen]; omega) (by omega) (by simp; omega) ?_
                       intro A4 c4 w4 hown4 hg4 hrow4)
          have ho4 : OwnB w4 w.heap.size A4 (n3 + 1) c4 (l ++ [128] ++ zeros (gap n) ++ (big 8 (n * 8)).take (t + 1)) := by
            rw [big_take 8 (n * 8) t HLT.out, show 8 - 1 - t = k from HT.out.symm, ← List.append_assoc]
            show w4.ownsRow _ _ _ _ _ _
            rw [List.map_append, List.map_cons, HBY.out]; exact hown4
          have hb4 : Below w.heap.size w w4 := (HB.out.alloc HB.out.size _).grown hg4 (HB.out.alloc HB.out.size _).size (OwnB.block HO.out)
          refine ⟨⟨A4, n3 + 1, c4, t + 1, rfl, HLT.out, by have := HN3.out; omega, by have := HE.out; congr 1; omega, ho4, hb4⟩, ?_⟩
          simp [intOf]
        · have et : t = 8 := by omega
          subst et
          have e71 : (7 - ((8 : Nat) : Int)) = -1 := rfl
          rw [e71]
          clear e71
          have hlen : n3 = (pad l).length := by rw [← OwnB.len ho, pad_eq, HX.out, List.take_of_length_le (by rw [big_len]; omega)]
          have hop : OwnB wr w.heap.size A3 n3 c3 (pad l) := by
            rw [pad_eq, HX.out]
            rw [List.take_of_length_le (by rw [big_len]; omega)] at ho
            exact ho
          have hn3b : n3 ≤ 1099511628000 := by omega
          have HP := Lib.hid hop
          have HL := Lib.hid hlen
          have HB := Lib.hid hb
          have H64 := Lib.hid (pad_len l)
          clear ho hb hop hlen hn3
          go_wp2_with fail
          refine (table_any wr).mono ?_
          rintro e w3 ⟨rfl, hb3⟩
          have HB3 := Lib.hid hb3
          have hzz := zero_w64
          have hz8 := zero_w8
          have hi64 : (Tryd.prog.info? 79).map (·.size) = some (K.map wv).length := by rw [info_w64, List.length_map, K_len]
          have hi8 : (Tryd.prog.info? 71).map (·.size) = some (init.list.map wv).length := by rw [info_w8]; rfl
          clear hb3 HX
          go_wp2_with (with_reducible change wpList _ _ _ _ _ _
                       first
                         | (refine wpList_store_bk rfl 79 _ _ rfl w3.heap.size (K.map wv) rfl rfl 79 (rowW []) (Bk.new w3 _ _) (by rw [List.length_map, K_len, rowW_nil_len]) hi64 (mem_words K) ?_
                            intro w4 HB4 HG4)
                         | refine wpList_build rfl 71 _ rfl (.agg (init.list.map wv).toArray) (fun _ => by kernel_rfl) ?_
                         | (refine wpList_store_bk rfl 71 _ _ rfl w4.heap.size (init.list.map wv) rfl rfl 71 ([0, 0, 0, 0, 0, 0, 0, 0].map wv) (Bk.new w4 _ _) rfl hi8 (mem_words _) ?_
                            intro w5 HB5 HG5))
          have hk3 : wr.heap.size ≤ w3.heap.size := HB3.out.size
          have hks : w3.heap.size < w4.heap.size := HB4.out.lt
          have hb5 : Below wr.heap.size wr w5 := by
            have b1 := HB3.out.alloc hk3 (.cells (rowW []).toArray 79)
            have b2 := b1.grown HG4.out b1.size (fun g e => by injection e with e; omega)
            have b3 := b2.alloc b2.size (.cells ([0, 0, 0, 0, 0, 0, 0, 0].map wv).toArray 71)
            exact b3.grown HG5.out b3.size (fun g e => by injection e with e; omega)
          have hbk : Bk w5 w3.heap.size 79 (K.map wv) := (HB4.out.alloc _).grown HG5.out (by intro e; injection e with e; omega)
          have hrd : Rd w5 A3 n3 ((pad l).map bv) := HP.out.rd.below hb5
          have hA3 : 0 < n3 → ∃ gm, A3 = some ⟨gm, 0, none⟩ ∧ gm < w3.heap.size := by
            intro q
            obtain ⟨gm, cap, hv, _, hlt⟩ := World.ownsRow.form HP.out q
            injection hv with hv
            exact ⟨gm, hv, Nat.lt_of_lt_of_le hlt hk3⟩
          have hbs : Below w.heap.size w w5 := HB.out.trans ⟨hb5.os, hb5.tape, hb5.output, hb5.size, fun k hk => hb5.block k (Nat.lt_of_lt_of_le hk HB.out.size)⟩
          have hsw : w.heap.size ≤ w4.heap.size := by have := HB.out.size; omega
          have HBK := Lib.hid hbk
          have HRD := Lib.hid hrd
          have HA3 := Lib.hid hA3
          have HBS := Lib.hid hbs
          have HSW := Lib.hid hsw
          have HKS := Lib.hid hks
          have HK3 := Lib.hid hk3
          clear hbk hrd hA3 hbs hsw hb5 HP HB HB4 HG4 HG5 HB3 hzz hz8 HO3 HNN hnb hn
          clear HK3 hks hk3
          generalize w3.heap.size = gk at HBK HA3 HKS ⊢
          generalize w4.heap.size = gs at HB5 HKS HSW ⊢
          go_loopw [8] (fun i wx => ∃ q : Nat, 64 * q ≤ n3 ∧ i = .int .i64 (64 * (q : Int)) ∧ Bk wx gs 71 ((absorb q init (pad l)).list.map wv) ∧ w5.grownBy wx (some gs)) (fun i _ => n3 - (intOf i).toNat)
          case atStart => exact ⟨0, by omega, rfl, HB5.out, grown_refl _ _⟩
          case round =>
            obtain ⟨q, hq, rfl, hbx, hgx⟩ := hrel
            by_cases hlt : 64 * q < n3
            · have hq64 : 64 * q + 64 ≤ n3 := by
                have h1 := HL.out
                have h2 := H64.out
                omega
              obtain ⟨gm, rfl, hgm⟩ := HA3.out (by omega)
              have hgms : gm ≠ gs := by have := HKS.out; omega
              have hrx := HRD.out.grown hgx (fun a e he => by injection e with e; injection he with he; subst e; exact hgms he.symm)
              have hbkx := HBK.out.grown hgx (by intro e; injection e with e; have := HKS.out; omega)
              obtain ⟨b, hb⟩ : ∃ b, b = ((pad l).drop (64 * q)).take 64 := ⟨_, rfl⟩
              have hbl : b.length = 64 := by rw [hb, List.length_take, List.length_drop, ← HL.out]; omega
              have hcell : ∀ k, k < 64 → wr.cell? ⟨gm, 64 * q + k, none⟩ = some (.int .u8 ((b.getD k 0).toNat : Int)) := by
                intro k hk
                obtain ⟨a, e, _, hc⟩ := hrx.at_ (k := 64 * q + k) (by omega)
                injection e with e
                subst e
                rw [at_add, Nat.zero_add] at hc
                rw [hc]
                have hlp : 64 * q + k < (pad l).length := by rw [← HL.out]; omega
                simp [hb, bv, hk, hlp]
              have HSTEP := Lib.hid (show absorb (q + 1) init (pad l) = mixS (absorb q init (pad l)) b by rw [hb]; exact absorb_step q init (pad l))
              have HBL := Lib.hid hbl
              have HC := Lib.hid hcell
              have HBX := Lib.hid hbx
              have HGX := Lib.hid hgx
              have HBKX := Lib.hid hbkx
              have hi64 : (Tryd.prog.info? 79).map (·.size) = some (rowW []).length := by rw [info_w64, rowW_nil_len]
              have hzz := zero_w64
              clear hb hbl hcell hbx hgx hbkx hrx HRD HA3
              generalize absorb q init (pad l) = s at HSTEP HBX
              go_wp2_with (with_reducible change wpList _ _ _ _ _ _
                           first
                             | refine wpList_build rfl 79 _ rfl (.agg (rowW []).toArray) (fun _ => by kernel_rfl) ?_
                             | (refine wpList_store_bk rfl 79 _ _ rfl wr.heap.size (rowW []) rfl rfl 79 (rowW []) (Bk.new wr _ _) rfl hi64 mem_zeros ?_
                                intro wy HBY HGY))
              have hgsw : gs < wr.heap.size := HBX.out.lt
              have hgmw : gm < wr.heap.size := by have := HKS.out; omega
              have hgkw : gk < wr.heap.size := by have := HKS.out; omega
              have hby : Below wr.heap.size wr wy := ((Below.refl wr.heap.size wr).alloc (Nat.le_refl _) (.cells (rowW []).toArray 79)).grown HGY.out (by simp) (fun g e => by injection e with e; omega)
              have HCB := Lib.hid (fun (wz : World) (hz : Below wr.heap.size wr wz) (k : Nat) (hk : k < 64) => (hz.cell (p := ⟨gm, 64 * q + k, none⟩) hgmw).trans (HC.out k hk))
              have HKB := Lib.hid (fun (wz : World) (hz : Below wr.heap.size wr wz) => HBKX.out.below hz hgkw)
              have HSB := Lib.hid (fun (wz : World) (hz : Below wr.heap.size wr wz) => HBX.out.below hz hgsw)
              have HGB := Lib.hid (fun (wz : World) (hz : Below wr.heap.size wr wz) => grown_trans HGX.out (grown_of_below hz (some gs)) (.inl rfl))
              have HBY2 := Lib.hid hby
              clear hby HGY HC HBKX HBX HGX hzz hi64
              generalize wr.heap.size = gw at HCB HKB HSB HGB HBY HBY2 hgsw hgmw hgkw ⊢
              go_loopw [10] (fun i wz => ∃ m : Nat, m ≤ 16 ∧ i = .int .i64 m ∧ Bk wz gw 79 (rowW (spread b m)) ∧ Below gw wr wz) (fun i _ => 16 - (intOf i).toNat)
              case atStart => exact ⟨0, by omega, rfl, HBY.out, HBY2.out⟩
              case round =>
                obtain ⟨m, hm, rfl, hb1, hbl⟩ := hrel
                by_cases hlm : m < 16
                · skip
                  exact sumWords (fun k hk => HCB.out wr hbl k hk) hb1 hbl hlm (by omega) hq64 hn3b _
                · have e16 : m = 16 := by omega
                  have e16' : ((m : Nat) : Int) = 16 := by omega
                  rw [e16']
                  subst e16
                  clear e16' hlm hm
                  go_wp2_with fail
                  go_loopw [12] (fun i wz => ∃ m : Nat, 16 ≤ m ∧ m ≤ 64 ∧ i = .int .i64 m ∧ Bk wz gw 79 (rowW (spread b m)) ∧ Below gw wr wz) (fun i _ => 64 - (intOf i).toNat)
                  case atStart => exact ⟨16, by omega, by omega, rfl, hb1, Below.refl _ _⟩
                  case round =>
                    obtain ⟨m, hm0, hm, rfl, hb2, hb3⟩ := hrel
                    by_cases hlm : m < 64
                    · exact sumSpread hb2 hb3 hm0 hlm _
                    · have e64 : m = 64 := by omega
                      have e64' : ((m : Nat) : Int) = 64 := by omega
                      rw [e64']
                      subst e64
                      clear e64' hlm hm hm0
                      have hbo := hbl.trans hb3
                      have hrow : rowW (spread b 64) = (spread b 64).map wv := by simp [rowW, spread_len]
                      rw [hrow] at hb2
                      have hW := spread_len b 64
                      have HWE := Lib.hid (show IsSp b (spread b 64) from fun _ => rfl)
                      have HKB2 := Lib.hid (HKB.out _ hbo)
                      have HSB2 := HSB.out _ hbo
                      have HGB2 := Lib.hid (HGB.out _ hbo)
                      have HB2 := Lib.hid hb2
                      have HWL := Lib.hid hW
                      have hwsz := hb2.lt
                      clear hbo hrow hb2 hW hbl hb1 hb3 HCB HKB HSB HGB HBY HBY2
                      generalize spread b 64 = W at HWE HB2 HWL
                      have hi8 : (Tryd.prog.info? 71).map (·.size) = some (s.list.map wv).length := by rw [info_w8]; rfl
                      have hi8a : (Tryd.prog.info? 71).map (·.size) = some (s.list.map wv).toArray.size := by rw [info_w8]; rfl
                      have hz8 := zero_w8
                      go_wp2_with (with_reducible change wpList _ _ _ _ _ _
                                   first
                                     | refine wpList_load_row rfl 71 _ rfl gs rfl 71 (s.list.map wv).toArray (0, 0) _ HSB2 Tryd.underlying71 rfl hi8a ?_
                                     | (refine wpList_store_bk rfl 71 _ _ rfl wr.heap.size (s.list.map wv) rfl rfl 71 ([0, 0, 0, 0, 0, 0, 0, 0].map wv) (Bk.new wr _ _) rfl hi8 (mem_words _) ?_
                                        intro w7 HB7 HG7))
                      have hb7 : Below wr.heap.size wr w7 := ((Below.refl wr.heap.size wr).alloc (Nat.le_refl _) (.cells ([0, 0, 0, 0, 0, 0, 0, 0].map wv).toArray 71)).grown HG7.out (by simp) (fun g e => by injection e with e; omega)
                      have HK7 := Lib.hid (HKB2.out.kept hb7)
                      have HW7 := Lib.hid (HB2.out.kept hb7)
                      have HS7 := Lib.hid (HSB2.kept hb7)
                      have HG7s := Lib.hid (grown_trans HGB2.out (grown_of_below hb7 (some gs)) (.inl rfl))
                      have hlk : gk < wr.heap.size := HKB2.out.lt
                      have hlw : gw < wr.heap.size := HB2.out.lt
                      have hls : gs < wr.heap.size := HSB2.lt
                      have hl5 : w5.heap.size ≤ wr.heap.size := HGB2.out.size
                      clear hb7 HKB2 HB2 HSB2 HGB2 HG7 hz8 hi8a hwsz
                      generalize wr.heap.size = gv at HB7 hlk hlw hls hl5 ⊢
                      have hi8n : (Tryd.prog.info? 71).map (·.size) = some 8 := info_w8
                      go_loopw [16] (fun i wz => ∃ m : Nat, m ≤ 64 ∧ i = .int .i64 m ∧ Bk wz gv 71 ((rounds W m s).list.map wv) ∧ w7.grownBy wz (some gv)) (fun i _ => 64 - (intOf i).toNat)
                      case atStart => exact ⟨0, by omega, rfl, HB7.out, grown_refl _ _⟩
                      case round =>
                        obtain ⟨m, hm, rfl, hb8, hg8⟩ := hrel
                        by_cases hlm : m < 64
                        · exact sumRound (HK7.out.grown hg8 (by intro e; injection e with e; omega)) (HW7.out.grown hg8 (by intro e; injection e with e; omega)) HWL.out hb8 hg8 hlm _
                        · have e64 : m = 64 := by omega
                          have e64' : ((m : Nat) : Int) = 64 := by omega
                          rw [e64']
                          subst e64
                          clear e64' hlm hm
                          have HM := Lib.hid (HWE.out s)
                          have HS9 := Lib.hid (HS7.out.grown hg8 (by intro e; injection e with e; omega))
                          have HV9 := Lib.hid hb8
                          have HG9 := Lib.hid (grown_new HG7s.out hg8 hl5)
                          clear hb8 hg8 HS7 HG7s HK7 HW7 HB7
                          generalize rounds W 64 s = r at HM HV9
                          go_wp2_with fail
                          go_loopw [19] (fun i wz => ∃ m : Nat, m ≤ 8 ∧ i = .int .i64 m ∧ Bk wz gs 71 ((addN s.list r.list m).map wv) ∧ Bk wz gv 71 (r.list.map wv) ∧ w5.grownBy wz (some gs)) (fun i _ => 8 - (intOf i).toNat)
                          case atStart => exact ⟨0, by omega, rfl, HS9.out, HV9.out, HG9.out⟩
                          case round =>
                            obtain ⟨m, hm, rfl, hb1, hb2, hb3⟩ := hrel
                            by_cases hlm : m < 8
                            · have sc : wr.cell? ⟨gs, m, none⟩ = some (.int .u32 ((s.list.getD m 0).toNat : Int)) := by
                                rw [← addN_at s.list r.list m m (Nat.le_refl _)]
                                exact hb1.at_ (words_at (by rw [addN_len]; exact hlm))
                              exact sumAdd sc hb1 hb2 hb3 hlm (by omega) _
                            · have e8 : m = 8 := by omega
                              subst e8
                              rw [addN_8, ← HM.out, ← HSTEP.out] at hb1
                              have HF1 := Lib.hid hb1
                              have HF3 := Lib.hid hb3
                              clear hb1 hb2 hb3
                              go_wp2_with fail
                              refine ⟨⟨q + 1, by omega, ?_, HF1.out, HF3.out⟩, ?_⟩
                              · congr 1
                              · simp [intOf]; omega
            · have hqe : 64 * q = n3 := by omega
              have HSU := Lib.hid (show sum l = (absorb q init (pad l)).bytes by unfold sum; rw [← HL.out, ← hqe, Nat.mul_div_cancel_left q (by decide)])
              have hbz := HBS.out
              have hbw : Below w.heap.size w wr := by
                exact ⟨hgx.os.trans hbz.os, hgx.tape.trans hbz.tape, hgx.output.trans hbz.output, Nat.le_trans hbz.size hgx.size, fun k hk => (hgx.block k (Nat.lt_of_lt_of_le hk hbz.size) (by intro e; injection e with e; have := HSW.out; omega)).trans (hbz.block k hk)⟩
              generalize absorb q init (pad l) = s at hbx HSU
              have HX := Lib.hid hbx
              have HB := Lib.hid hbw
              have hsz := hbw.size
              clear hbx hbw hgx hbz HRD HA3 HBK hqe HBS HB5
              go_wp2_with fail
              go_loopw [20, 21] (fun b i wz => ∃ (A4 : Option Addr) (n4 c4 m : Nat), m ≤ 8 ∧ b = .slice A4 n4 c4 ∧ i = .int .i64 m ∧ n4 = 4 * m ∧ OwnB wz w.heap.size A4 n4 c4 (bytesTo s.list m) ∧ Bk wz gs 71 (s.list.map wv) ∧ Below w.heap.size w wz) (fun _ i _ => 8 - (intOf i).toNat)
              case atStart => exact ⟨some ⟨wr.heap.size, 0, none⟩, 0, 0, 0, by omega, rfl, rfl, rfl, World.ownsRow_lit (e := 5) (base := w.heap.size) (size := 1) wr #[] 0 hsz (by simp [maxLen]) rfl, HX.out.alloc _, HB.out.alloc hsz _⟩
              case round =>
                obtain ⟨A4, n4, c4, m, hm, rfl, rfl, rfl, ho, hb, hbl⟩ := hrel
                by_cases hlm : m < 8
                · have sc : wr.cell? ⟨gs, m, none⟩ = some (.int .u32 ((s.list.getD m 0).toNat : Int)) := hb.at_ (words_at hlm)
                  exact sumOut sc ho hb hbl hlm _
                · have e8 : m = 8 := by omega
                  subst e8
                  have e9 : bytesTo s.list 8 = s.bytes := by
                    unfold bytesTo S8.bytes
                    rw [List.take_of_length_le (show s.list.length ≤ 8 from Nat.le_refl 8)]
                  rw [e9, ← HSU.out] at ho
                  have HO := Lib.hid ho
                  have HBL := Lib.hid hbl
                  clear ho hb hbl
                  go_wp2_with fail
                  go_ret
                  exact ⟨_, _, _, rfl, HO.out, HBL.out⟩
end Go.Proofs.YtfdmnnbcnaofgaaDoor
