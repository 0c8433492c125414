import Derived.Test.YtfdmnnbcnaofgaaDoorMacSeal
import Derived.Test.YtfdmnnbcnaofgaaDoorHexWalk
import Derived.Lib.SlBytesConst
namespace Go.Proofs.YtfdmnnbcnaofgaaDoor
open Go.RowKit
open Pk Sh
set_option linter.unusedVariables false

/-- is a sealed letter open? -/
theorem open_sealed (s : List UInt8) (f : Int × Int) (r : Int) (body : List UInt8) (bad : List Int) (n : Nat) (i : Int) :
    openN s (r, i) f r body (tagsN s f r body bad n) = (decide (0 ≤ i) && decide (i < (n : Int)) && !(isIn bad i.toNat)) := by
  unfold openN
  rw [tagsN_len]
  by_cases h0 : 0 ≤ i
  · by_cases h1 : i < (n : Int)
    · obtain ⟨k, rfl⟩ : ∃ k : Nat, i = k := ⟨i.toNat, by omega⟩
      have hk : k < n := by omega
      have e : (tagsN s f r body bad n).getD k [] = letterTag s f r body bad k := tagsN_at s f r body bad hk
      have hne : tagN s f (r, (k : Int)) body ≠ [] := by
        intro q
        have := tagN_len s f (r, (k : Int)) body
        rw [q] at this
        cases this
      have hlt : letterTag s f r body bad k = tagN s f (r, (k : Int)) body ↔ isIn bad k = false := by
        unfold letterTag
        cases hin : isIn bad k
        · simp
        · simp only [if_true]
          exact ⟨fun q => absurd q (turned_ne hne), fun q => by cases q⟩
      simp only [Int.toNat_natCast, e]
      cases hin : isIn bad k
      · have := hlt.2 hin
        simp [this, h0, h1]
      · have : ¬ letterTag s f r body bad k = tagN s f (r, (k : Int)) body := fun q => by rw [hlt.1 q] at hin; cases hin
        simp [this]
    · simp [h1]
  · simp [h0]
theorem open_other (s : List UInt8) (f : Int × Int) (r r' : Int) (body : List UInt8) (tags : List (List UInt8)) (i : Int) (h : r ≠ r') : openN s (r', i) f r body tags = false := by
  unfold openN
  simp [h]

/-- "key" -/
def keyB : List UInt8 := [107, 101, 121]
/-- "The quick brown fox jumps over the lazy dog" -/
def foxB : List UInt8 := [84, 104, 101, 32, 113, 117, 105, 99, 107, 32, 98, 114, 111, 119, 110, 32, 102, 111, 120, 32, 106, 117, 109, 112, 115, 32, 111, 118, 101, 114, 32, 116, 104, 101, 32, 108, 97, 122, 121, 32, 100, 111, 103]
/-- the digits of the example -/
def exB : List UInt8 := [102, 55, 98, 99, 56, 51, 102, 52, 51, 48, 53, 51, 56, 52, 50, 52, 98, 49, 51, 50, 57, 56, 101, 54, 97, 97, 54, 102, 98, 49, 52, 51, 101, 102, 52, 100, 53, 57, 97, 49, 52, 57, 52, 54, 49, 55, 53, 57, 57, 55, 52, 55, 57, 100, 98, 99, 50, 100, 49, 97, 51, 99, 100, 56]
theorem example_digits : hexL (hmac keyB foxB) = exB := by decide +kernel
theorem Sl.marked (w : World) (l : List UInt8) (fr : Nat × Nat) (h : l.length ≤ maxLen) : Sl (w.alloc (.cells (l.map bv).toArray 5 fr)) (some ⟨w.heap.size, 0, none⟩) l.length l.length l :=
  ⟨Nat.le_refl _, h, by have := Rd.marked w (l.map bv) 5 fr; rwa [List.length_map] at this, fun e => by cases e⟩
/-- a constant's bytes go on as they are -/
theorem conv_const (W : World) (g : Nat) (hg : g = W.heap.size) (C : Array Value) (n c : Nat) :
    (convert 22 22 (.slice (some ⟨g, 0, none⟩) n c)).run Tryd.prog (W.alloc (.cells C 5)) = .ok (.slice (some ⟨g, 0, none⟩) n c) (W.alloc (.cells C 5 (C.size, C.size + 1))) := by
  subst hg
  exact Lib.run_convert_bytes_const W 22 5 C n c Tryd.underlying22 Tryd.underlying5

set_option maxHeartbeats 1600000 in
set_option maxRecDepth 100000 in
theorem alive_ok (w : World) (hT : Tab w) : Calls Tryd.prog 10 #[] w (Tr w) := by
  have HT := Lib.hid hT
  have kc1 := conv_const w w.heap.size rfl #[.int .u8 107, .int .u8 101, .int .u8 121] 3 3
  have kc2 := conv_const (w.alloc (.cells #[.int .u8 107, .int .u8 101, .int .u8 121] 5 (3, 4))) (w.heap.size + 1) (by simp) #[.int .u8 84, .int .u8 104, .int .u8 101, .int .u8 32, .int .u8 113, .int .u8 117, .int .u8 105, .int .u8 99, .int .u8 107, .int .u8 32, .int .u8 98, .int .u8 114, .int .u8 111, .int .u8 119, .int .u8 110, .int .u8 32, .int .u8 102, .int .u8 111, .int .u8 120, .int .u8 32, .int .u8 106, .int .u8 117, .int .u8 109, .int .u8 112, .int .u8 115, .int .u8 32, .int .u8 111, .int .u8 118, .int .u8 101, .int .u8 114, .int .u8 32, .int .u8 116, .int .u8 104, .int .u8 101, .int .u8 32, .int .u8 108, .int .u8 97, .int .u8 122, .int .u8 121, .int .u8 32, .int .u8 100, .int .u8 111, .int .u8 103] 43 43
  have HS1 := Lib.hid (show Sl ((w.alloc (.cells #[.int .u8 107, .int .u8 101, .int .u8 121] 5 (3, 4))).alloc (.cells #[.int .u8 84, .int .u8 104, .int .u8 101, .int .u8 32, .int .u8 113, .int .u8 117, .int .u8 105, .int .u8 99, .int .u8 107, .int .u8 32, .int .u8 98, .int .u8 114, .int .u8 111, .int .u8 119, .int .u8 110, .int .u8 32, .int .u8 102, .int .u8 111, .int .u8 120, .int .u8 32, .int .u8 106, .int .u8 117, .int .u8 109, .int .u8 112, .int .u8 115, .int .u8 32, .int .u8 111, .int .u8 118, .int .u8 101, .int .u8 114, .int .u8 32, .int .u8 116, .int .u8 104, .int .u8 101, .int .u8 32, .int .u8 108, .int .u8 97, .int .u8 122, .int .u8 121, .int .u8 32, .int .u8 100, .int .u8 111, .int .u8 103] 5 (43, 44))) (some ⟨w.heap.size, 0, none⟩) 3 3 keyB from (Sl.marked w keyB (3, 4) (by simp [maxLen, keyB])).alloc _)
  have hs2 := Sl.marked (w.alloc (.cells #[.int .u8 107, .int .u8 101, .int .u8 121] 5 (3, 4))) foxB (43, 44) (by simp [maxLen, foxB])
  rw [show (w.alloc (.cells #[.int .u8 107, .int .u8 101, .int .u8 121] 5 (3, 4))).heap.size = w.heap.size + 1 by simp] at hs2
  have HS2 := Lib.hid hs2
  have HB2 := Lib.hid (((Below.refl w.heap.size w).alloc (Nat.le_refl _) (.cells #[.int .u8 107, .int .u8 101, .int .u8 121] 5 (3, 4))).alloc (by simp) (.cells #[.int .u8 84, .int .u8 104, .int .u8 101, .int .u8 32, .int .u8 113, .int .u8 117, .int .u8 105, .int .u8 99, .int .u8 107, .int .u8 32, .int .u8 98, .int .u8 114, .int .u8 111, .int .u8 119, .int .u8 110, .int .u8 32, .int .u8 102, .int .u8 111, .int .u8 120, .int .u8 32, .int .u8 106, .int .u8 117, .int .u8 109, .int .u8 112, .int .u8 115, .int .u8 32, .int .u8 111, .int .u8 118, .int .u8 101, .int .u8 114, .int .u8 32, .int .u8 116, .int .u8 104, .int .u8 101, .int .u8 32, .int .u8 108, .int .u8 97, .int .u8 122, .int .u8 121, .int .u8 32, .int .u8 100, .int .u8 111, .int .u8 103] 5 (43, 44)))
  clear hT hs2
  go_enter Tryd.func10, Tryd.ntmps10
  go_wp2_with fail
  refine (hmac_any _ _ 3 3 43 43 keyB foxB _ HS1.out HS2.out (HT.out.kept HB2.out) (by omega) (by omega)).mono ?_
  rintro e w3 ⟨A3, n3, c3, rfl, ho3, hb3⟩
  have hn3 : n3 = 32 := by rw [← ho3.len, hmac_len]
  subst hn3
  have HB3 := Lib.hid (below_next HB2.out hb3 HB2.out.size)
  have HHX := Lib.hid (hex_any A3 32 c3 _ w3 ho3.rd (by omega))
  clear ho3 hb3
  go_wp2_with fail
  refine HHX.out.mono ?_
  rintro e w4 ⟨rfl, hb4⟩
  rw [example_digits]
  have HB4 := Lib.hid (below_next HB3.out hb4 HB3.out.size)
  have hlit : ((⟨exB.toArray⟩ : ByteArray) != ⟨#[102, 55, 98, 99, 56, 51, 102, 52, 51, 48, 53, 51, 56, 52, 50, 52, 98, 49, 51, 50, 57, 56, 101, 54, 97, 97, 54, 102, 98, 49, 52, 51, 101, 102, 52, 100, 53, 57, 97, 49, 52, 57, 52, 54, 49, 55, 53, 57, 57, 55, 52, 55, 57, 100, 98, 99, 50, 100, 49, 97, 51, 99, 100, 56]⟩) = false := by decide +kernel
  have kc3 := conv_const w4 w4.heap.size rfl #[.int .u8 115] 1 1
  have kc4 := conv_const (w4.alloc (.cells #[.int .u8 115] 5 (1, 2))) (w4.heap.size + 1) (by simp) #[.int .u8 98, .int .u8 111, .int .u8 100, .int .u8 121] 4 4
  have HS3 := Lib.hid (show Sl (((w4.alloc (.cells #[.int .u8 115] 5 (1, 2))).alloc (.cells #[.int .u8 98, .int .u8 111, .int .u8 100, .int .u8 121] 5 (4, 5))).alloc (.cells #[.int .i64 1] 3)) (some ⟨w4.heap.size, 0, none⟩) 1 1 [115] from ((Sl.marked w4 [115] (1, 2) (by simp [maxLen])).alloc _).alloc _)
  have hs4 := (Sl.marked (w4.alloc (.cells #[.int .u8 115] 5 (1, 2))) [98, 111, 100, 121] (4, 5) (by simp [maxLen])).alloc (.cells #[.int .i64 1] 3)
  rw [show (w4.alloc (.cells #[.int .u8 115] 5 (1, 2))).heap.size = w4.heap.size + 1 by simp] at hs4
  have HS4 := Lib.hid hs4
  have hs5 := Rd.new ((w4.alloc (.cells #[.int .u8 115] 5 (1, 2))).alloc (.cells #[.int .u8 98, .int .u8 111, .int .u8 100, .int .u8 121] 5 (4, 5))) ([1].map iv) 3
  rw [show ((w4.alloc (.cells #[.int .u8 115] 5 (1, 2))).alloc (.cells #[.int .u8 98, .int .u8 111, .int .u8 100, .int .u8 121] 5 (4, 5))).heap.size = w4.heap.size + 1 + 1 by simp] at hs5
  have HS5 := Lib.hid hs5
  have HB5 := Lib.hid (((HB4.out.alloc HB4.out.size (.cells #[.int .u8 115] 5 (1, 2))).alloc (by have := HB4.out.size; simp; omega) (.cells #[.int .u8 98, .int .u8 111, .int .u8 100, .int .u8 121] 5 (4, 5))).alloc (by have := HB4.out.size; simp; omega) (.cells #[.int .i64 1] 3))
  clear hb4 hs4 hs5
  go_wp2_with fail
  refine (seal_any (some ⟨w4.heap.size, 0, none⟩) (some ⟨w4.heap.size + 1, 0, none⟩) (some ⟨w4.heap.size + 1 + 1, 0, none⟩) 1 1 4 4 1 1 [115] [98, 111, 100, 121] (1, 2) 2 3 [1] _ HS3.out HS4.out HS5.out (HT.out.kept HB5.out) (by omega) (by omega) (by omega)).mono ?_
  rintro e w5 ⟨B1, n1, c1, E, m5, d5, rfl, ho5, hr5, hb5⟩
  have hm5 : m5 = 3 := by rw [← hr5.1, tagsN_len]; rfl
  subst hm5
  have hn1 : n1 = 4 := by rw [← ho5.len]; rfl
  subst hn1
  have HB6 := Lib.hid (below_next HB5.out hb5 HB5.out.size)
  have HO5 := Lib.hid (Sl.own ho5)
  have HR5 := Lib.hid hr5.rd
  have hlc := Bk.new w5 37 [.int .i64 1, .int .i64 2, .int .i64 2, .slice B1 4 c1, .slice E 3 d5]
  have kc5 := conv_const (w5.alloc (.cells #[.int .i64 1, .int .i64 2, .int .i64 2, .slice B1 4 c1, .slice E 3 d5] 37)) (w5.heap.size + 1) (by simp) #[.int .u8 115] 1 1
  have hs6 := Sl.marked (w5.alloc (.cells #[.int .i64 1, .int .i64 2, .int .i64 2, .slice B1 4 c1, .slice E 3 d5] 37)) [115] (1, 2) (by simp [maxLen])
  rw [show (w5.alloc (.cells #[.int .i64 1, .int .i64 2, .int .i64 2, .slice B1 4 c1, .slice E 3 d5] 37)).heap.size = w5.heap.size + 1 by simp] at hs6
  have HS6 := Lib.hid hs6
  have HB7 := Lib.hid ((HB6.out.alloc HB6.out.size (.cells #[.int .i64 1, .int .i64 2, .int .i64 2, .slice B1 4 c1, .slice E 3 d5] 37)).alloc (HB6.out.alloc HB6.out.size (.cells #[.int .i64 1, .int .i64 2, .int .i64 2, .slice B1 4 c1, .slice E 3 d5] 37)).size (.cells #[.int .u8 115] 5 (1, 2)))
  have HO6 := Lib.hid ((HO5.out.alloc (.cells #[.int .i64 1, .int .i64 2, .int .i64 2, .slice B1 4 c1, .slice E 3 d5] 37)).alloc (.cells #[.int .u8 115] 5 (1, 2)))
  have HR6 := Lib.hid ((HR5.out.below ((Below.refl _ _).alloc (Nat.le_refl _) (.cells #[.int .i64 1, .int .i64 2, .int .i64 2, .slice B1 4 c1, .slice E 3 d5] 37))).below ((Below.refl _ _).alloc (Nat.le_refl _) (.cells #[.int .u8 115] 5 (1, 2))))
  have HLC := Lib.hid (hlc.alloc (.cells #[.int .u8 115] 5 (1, 2)))
  have ht1 : openN [115] (2, 2) (1, 2) 2 [98, 111, 100, 121] (tagsN [115] (1, 2) 2 [98, 111, 100, 121] [1] (upTo 3)) = true := by
    rw [open_sealed]; decide
  have ht2 : openN [115] (2, 1) (1, 2) 2 [98, 111, 100, 121] (tagsN [115] (1, 2) 2 [98, 111, 100, 121] [1] (upTo 3)) = false := by
    rw [open_sealed]; decide
  have HT1 := Lib.hid ht1
  have HT2 := Lib.hid ht2
  clear ho5 hr5 hb5 hs6 hlc ht1 ht2 kc1 kc2 kc3 kc4 hlit
  go_wp2_with fail
  refine (open_any (some ⟨w5.heap.size + 1, 0, none⟩) B1 E 1 1 4 c1 3 d5 [115] [98, 111, 100, 121] (2, 2) (1, 2) 2 _ _ HS6.out HO6.out HR6.out (HT.out.kept HB7.out) (by omega) (by omega) (by simp [maxLen])).mono ?_
  rintro e w7 ⟨rfl, hb7⟩
  rw [HT1.out]
  have HB8 := Lib.hid (below_next HB7.out hb7 HB7.out.size)
  have kl := HLC.out.kept hb7
  obtain ⟨c0, c1', c2, c3', c4⟩ := (kl.alloc (.cells #[.int .u8 115] 5 (1, 2))).five
  have HO7 := Lib.hid ((HO6.out.below hb7).alloc (.cells #[.int .u8 115] 5 (1, 2)))
  have HR7 := Lib.hid ((HR6.out.below hb7).below ((Below.refl _ _).alloc (Nat.le_refl _) (.cells #[.int .u8 115] 5 (1, 2))))
  have HB9 := Lib.hid (HB8.out.alloc HB8.out.size (.cells #[.int .u8 115] 5 (1, 2)))
  have kc6 := conv_const w7 w7.heap.size rfl #[.int .u8 115] 1 1
  have HS7 := Lib.hid (show Sl (w7.alloc (.cells #[.int .u8 115] 5 (1, 2))) (some ⟨w7.heap.size, 0, none⟩) 1 1 [115] from Sl.marked w7 [115] (1, 2) (by simp [maxLen]))
  clear hb7 kl kc5
  go_wp2_with fail
  refine (open_any (some ⟨w7.heap.size, 0, none⟩) B1 E 1 1 4 c1 3 d5 [115] [98, 111, 100, 121] (2, 1) (1, 2) 2 _ _ HS7.out HO7.out HR7.out (HT.out.kept HB9.out) (by omega) (by omega) (by simp [maxLen])).mono ?_
  rintro e w8 ⟨rfl, hb8⟩
  rw [HT2.out]
  have HFIN := Lib.hid (below_next HB9.out hb8 HB9.out.size)
  clear hb8
  go_wp2_with fail
  go_ret
  exact ⟨rfl, HFIN.out⟩
end Go.Proofs.YtfdmnnbcnaofgaaDoor
