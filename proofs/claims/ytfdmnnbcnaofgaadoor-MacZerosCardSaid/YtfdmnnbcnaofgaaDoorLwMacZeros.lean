import Derived.Test.YtfdmnnbcnaofgaaDoorMacAlive
namespace Go.Proofs.YtfdmnnbcnaofgaaDoor
open Go.RowKit
open Pk Sh
set_option linter.unusedVariables false

theorem hmac_zeros (key b : List UInt8) (z : Nat) (h : key.length + z ≤ 64) : hmac (key ++ zeros z) b = hmac key b := by
  have h1 : hkey (key ++ zeros z) = key ++ zeros z := by unfold hkey; rw [if_neg (by rw [List.length_append, zeros_len]; omega)]
  have h2 : hkey key = key := by unfold hkey; rw [if_neg (by omega)]
  have hc : ∀ c, over c (key ++ zeros z) 64 = over c key 64 := fun c => over_congr c _ _ (fun i _ => by
    rcases Nat.lt_or_ge i key.length with hi | hi
    · simp [List.getD, List.getElem?_append_left hi]
    · simp only [List.getD, List.getElem?_append_right hi, List.getElem?_eq_none hi]
      unfold zeros
      rw [List.getElem?_replicate]
      split <;> rfl) 64 (Nat.le_refl _)
  unfold hmac
  rw [h1, h2, hc, hc]

theorem zeros_succ (k : Nat) : zeros (k + 1) = zeros k ++ [0] := by unfold zeros; rw [List.replicate_succ']

theorem macZeros_early (w : World) (hT : Tab w) (A B : Option Addr) (n c m d : Nat) (z : Int) (h : (64 : Int) < n ∨ (5000 : Int) < m ∨ z < 0 ∨ 64 - (n : Int) < z) (hn : n ≤ maxLen) (hm : m ≤ maxLen) :
    Calls Tryd.prog 8 #[.slice A n c, .int .i64 z, .slice B m d] w (Tr w) := by
  unfold maxLen at hn hm
  have HA := Lib.hid (alive_ok w hT)
  clear hT
  by_cases h1 : (64 : Int) < n
  · clear h
    go_enter Tryd.func8, Tryd.ntmps8
    go_wp2_with fail
    refine HA.out.mono ?_
    rintro e w1 ⟨rfl, hb1⟩
    go_wp2_with fail
    go_ret
    exact ⟨rfl, hb1⟩
  · by_cases h2 : (5000 : Int) < m
    · clear h
      go_enter Tryd.func8, Tryd.ntmps8
      go_wp2_with fail
      refine HA.out.mono ?_
      rintro e w1 ⟨rfl, hb1⟩
      go_wp2_with fail
      go_ret
      exact ⟨rfl, hb1⟩
    · by_cases h3 : z < 0
      · clear h
        go_enter Tryd.func8, Tryd.ntmps8
        go_wp2_with fail
        refine HA.out.mono ?_
        rintro e w1 ⟨rfl, hb1⟩
        go_wp2_with fail
        go_ret
        exact ⟨rfl, hb1⟩
      · have h4 : 64 - (n : Int) < z := by omega
        clear h
        go_enter Tryd.func8, Tryd.ntmps8
        go_wp2_with fail
        refine HA.out.mono ?_
        rintro e w1 ⟨rfl, hb1⟩
        go_wp2_with fail
        go_ret
        exact ⟨rfl, hb1⟩

set_option maxHeartbeats 800000 in
theorem macZeros_main (w : World) (hT : Tab w) (A B : Option Addr) (n c m d z : Nat) (key b : List UInt8) (h : Sl w A n c key) (hb : Sl w B m d b) (hm : m ≤ 5000) (hz : n + z ≤ 64) :
    Calls Tryd.prog 8 #[.slice A n c, .int .i64 (z : Int), .slice B m d] w (Tr w) := by
  obtain ⟨i0, hi, hz0, hz1, hz2⟩ := info_parts info_u8
  have HA := Lib.hid (alive_ok w hT)
  have HT := Lib.hid hT
  have HK := Lib.hid h
  have HB := Lib.hid hb
  have HX := Lib.hid h.len
  have HZ := Lib.hid (hmac_zeros key b z (by rw [h.len]; exact hz))
  have h1 : ¬ (64 : Int) < n := by omega
  have h2 : ¬ (5000 : Int) < m := by omega
  have h3 : ¬ (z : Int) < 0 := by omega
  have h4 : ¬ 64 - (n : Int) < z := by omega
  clear hT h hb
  go_enter Tryd.func8, Tryd.ntmps8
  go_wp2_with fail
  refine HA.out.mono ?_
  rintro e w1 ⟨rfl, hb1⟩
  have HB1 := Lib.hid hb1
  clear hb1
  go_wp2_with fail
  refine (copyBytes_any A n c key w1 (HK.out.below HB1.out).rd (by omega)).mono ?_
  rintro e w2 ⟨A2, n2, c2, rfl, ho2, hb2⟩
  have hn2 : n2 = n := by rw [← ho2.len]; exact HX.out
  subst hn2
  have HO2 := Lib.hid (ho2.more HB1.out.size)
  have HB2 := Lib.hid (below_next HB1.out hb2 HB1.out.size)
  clear ho2 hb2 h1 h2 h3 h4
  go_wp2_with fail
  go_loopw [7, 8] (fun s i wr => ∃ (k : Nat) (A' : Option Addr) (c' : Nat), k ≤ z ∧ s = .slice A' (n2 + k) c' ∧ i = .int .i64 k ∧ OwnB wr w.heap.size A' (n2 + k) c' (key ++ zeros k) ∧ Below w.heap.size w wr) (fun _ i _ => z - (intOf i).toNat)
  case atStart => exact ⟨0, A2, c2, by omega, rfl, rfl, by simpa [zeros] using HO2.out, HB2.out⟩
  case round =>
    obtain ⟨k, A', c', hk, rfl, rfl, ho, hbl⟩ := hrel
    have hsz := hbl.size
    by_cases hlt : k < z
    · have e2 : (k : Int) < (z : Int) := by omega
      have HBL := Lib.hid hbl
      have HO := Lib.hid ho
      clear hbl ho
      go_wp2_with (at_builtin
                   refine wpList_append_rd _ rfl _ _ 22 rfl w.heap.size 5 i0 _ 1 Tryd.underlying22 hi hz0 hz1 hz2 rfl A' (n2 + k) c' ((key ++ zeros k).map bv) rfl (World.ownsRow.alloc HO.out _) (some ⟨wr.heap.size, 0, none⟩) 1 1 [.int .u8 0] rfl
                     (Rd.new wr [Value.int .u8 0] 5) (by simp [Value.oneCell']) (by simp only [maxLen]; omega) (by omega) (by simp; omega) ?_
                   intro A3 c3 w3 hown3 hg3 hrow3
                   have HG3 := Lib.hid hg3
                   have HN3 := Lib.hid hown3
                   clear hg3 hown3 hrow3)
      have ho3 : OwnB w3 w.heap.size A3 (n2 + (k + 1)) c3 (key ++ zeros (k + 1)) := by
        have e := HN3.out
        show w3.ownsRow _ _ _ _ _ _
        rw [zeros_succ, ← List.append_assoc, List.map_append]
        exact e
      have hb3 : Below w.heap.size w w3 := (HBL.out.alloc hsz _).grown HG3.out (HBL.out.alloc hsz _).size (OwnB.block HO.out)
      have HO3 := Lib.hid ho3
      have HB3 := Lib.hid hb3
      clear ho3 hb3
      go_roundw
      case rel => exact ⟨k + 1, A3, c3, by omega, by go_num, by go_num, HO3.out, HB3.out⟩
      case measure => simp [intOf]; omega
    · have ek : k = z := by omega
      subst ek
      have HBL := Lib.hid hbl
      have HO := Lib.hid (Sl.own ho)
      clear hbl ho HO2 HB2
      go_wp2_with fail
      refine (copyBytes_any A n2 c key wr (HK.out.below HBL.out).rd (by omega)).mono ?_
      rintro e w4 ⟨A4, n4, c4, rfl, ho4, hb4⟩
      have hn4 : n4 = n2 := by rw [← ho4.len]; exact HX.out
      subst hn4
      have HO4 := Lib.hid (Sl.own ho4)
      have HB4 := Lib.hid (below_next HBL.out hb4 HBL.out.size)
      have HOL := Lib.hid (HO.out.below hb4)
      clear ho4 hb4
      go_wp2_with fail
      refine (hmac_any A4 B n4 c4 m d key b w4 HO4.out (HB.out.below HB4.out) (HT.out.kept HB4.out) (by omega) (by omega)).mono ?_
      rintro e w5 ⟨A5, n5, c5, rfl, ho5, hb5⟩
      have hn5 : n5 = 32 := by rw [← ho5.len, hmac_len]
      subst hn5
      have HO5 := Lib.hid ho5
      have HB5 := Lib.hid (below_next HB4.out hb5 HB4.out.size)
      have HOL2 := Lib.hid (HOL.out.below hb5)
      clear ho5 hb5
      go_wp2_with fail
      refine (hmac_any A' B (n4 + k) c' m d (key ++ zeros k) b w5 HOL2.out (HB.out.below HB5.out) (HT.out.kept HB5.out) (by omega) (by omega)).mono ?_
      rintro e w6 ⟨A6, n6, c6, rfl, ho6, hb6⟩
      rw [HZ.out] at ho6
      have HB6 := Lib.hid (below_next HB5.out hb6 HB5.out.size)
      have HSM := Lib.hid (sameBytes_self A5 A6 32 n6 c5 c6 w6 _ (HO5.out.below hb6).rd ho6.rd (by simp [maxLen]))
      clear ho6 hb6
      go_wp2_with fail
      refine HSM.out.mono ?_
      rintro e w7 ⟨rfl, k7, rfl⟩
      go_wp2_with fail
      go_ret
      exact ⟨rfl, below_drewN HB6.out _⟩

theorem macZeros_walk (w : World) (hT : Tab w) (v0 : Value) (key : List UInt8) (h0 : InB w v0 key) (z : Int) (hz : (Lit.int .i64 z).wf = true) (v2 : Value) (b : List UInt8) (h2 : InB w v2 b) :
    Calls Tryd.prog 8 #[v0, .int .i64 z, v2] w (Tr w) := by
  obtain ⟨A, n, c, rfl, hs⟩ := h0
  obtain ⟨B, m, d, rfl, hs2⟩ := h2
  by_cases h : (64 : Int) < n ∨ (5000 : Int) < m ∨ z < 0 ∨ 64 - (n : Int) < z
  · exact macZeros_early w hT A B n c m d z h (Nat.le_trans hs.1 hs.2.1) (Nat.le_trans hs2.1 hs2.2.1)
  · obtain ⟨k, rfl⟩ : ∃ k : Nat, z = k := ⟨z.toNat, by omega⟩
    exact macZeros_main w hT A B n c m d k key b hs hs2 (by omega) (by omega)
end Go.Proofs.YtfdmnnbcnaofgaaDoor
