import Derived.Test.YtfdmnnbcnaofgaaDoorRefSum
import Derived.Test.YtfdmnnbcnaofgaaDoorMacPlain
namespace Go.Proofs.YtfdmnnbcnaofgaaDoor
open Go.RowKit
open Sh
set_option linter.unusedVariables false

theorem xor_bv (x c : UInt8) : bits .xor .u8 (x.toNat : Int) (c.toNat : Int) = ((x ^^^ c).toNat : Int) := by
  rw [u8_xor_nat _ _ (u8_lt x) (u8_lt c), UInt8.toNat_xor]
theorem xor54 (x : UInt8) : bits .xor .u8 (x.toNat : Int) 54 = ((x ^^^ 54).toNat : Int) := xor_bv x 54
theorem xor92 (x : UInt8) : bits .xor .u8 (x.toNat : Int) 92 = ((x ^^^ 92).toNat : Int) := xor_bv x 92

set_option maxHeartbeats 4000000 in
set_option maxRecDepth 100000 in
theorem refHmac_any (A B : Option Addr) (n c m d : Nat) (key b : List UInt8) (w : World) (h : Rd w A n (key.map bv)) (h' : Rd w B m (b.map bv)) (hn : n ≤ 1099511627776) (hm : m ≤ 549755813888) :
    Calls Tryd.prog 15 #[.slice A n c, .slice B m d] w (Fresh1 (hmac key b) w) := by
  obtain ⟨i0, hi, hz0, hz1, hz2⟩ := info_parts info_u8
  have hx : key.length = n := by simpa using h.1
  have HR := Lib.hid h
  have HRB := Lib.hid h'
  have HX := Lib.hid hx
  have HM := Lib.hid hm
  have HK := Lib.hid (show hmac key b = sum (over 92 (hkey key) 64 ++ sum (over 54 (hkey key) 64 ++ b)) from rfl)
  have HSUM := Lib.hid (refSum_any A n c key w h hn)
  clear h h' hx hm
  go_enter Tryd.func15, Tryd.ntmps15
  rcases Nat.lt_or_ge 64 n with hlong | hshort
  · go_wp2_with fail
    refine HSUM.out.mono ?_
    rintro e w1 ⟨A1, n1, c1, rfl, ho1, hb1⟩
    have hk : hkey key = sum key := by unfold hkey; rw [if_pos (by rw [HX.out]; exact hlong)]
    have hn1 : n1 = 32 := by rw [← OwnB.len ho1, sum_len]
    have HK1 := Lib.hid (show Rd w1 A1 n1 ((hkey key).map bv) by rw [hk]; exact ho1.rd)
    have HB1 := Lib.hid hb1
    have hk64 : n1 ≤ 64 := by omega
    clear ho1 hb1 hk hn1
    go_wp2_with fail
    go_loopw [5, 6, 7] (fun s5 s6 i wr => ∃ (k : Nat) (A5 A6 : Option Addr) (c5 c6 g5 g6 : Nat), k ≤ 64 ∧ s5 = .slice A5 k c5 ∧ s6 = .slice A6 k c6 ∧ i = .int .i64 k ∧ OwnB wr w.heap.size A5 k c5 (over 54 (hkey key) k) ∧ OwnB wr w.heap.size A6 k c6 (over 92 (hkey key) k) ∧
      (Value.slice A5 k c5).ownBlock = some g5 ∧ (Value.slice A6 k c6).ownBlock = some g6 ∧ g5 ≠ g6 ∧ w1.heap.size ≤ g5 ∧ w1.heap.size ≤ g6 ∧ Below w1.heap.size w1 wr) (fun _ _ i _ => 64 - (intOf i).toNat)
    case atStart =>
      have hs := HB1.out.size
      refine ⟨0, some ⟨w1.heap.size, 0, none⟩, some ⟨w1.heap.size + 1, 0, none⟩, 0, 0, w1.heap.size, w1.heap.size + 1, by omega, rfl, rfl, rfl, ?_, ?_, rfl, rfl, by omega, Nat.le_refl _, by omega, ((Below.refl _ w1).alloc (Nat.le_refl _) _).alloc (by simp) _⟩
      · exact World.ownsRow.alloc (World.ownsRow_lit (e := 5) (base := w.heap.size) (size := 1) w1 #[] 0 hs (by simp [maxLen]) rfl) _
      · have e := World.ownsRow_lit (e := 5) (base := w.heap.size) (size := 1) (w1.alloc (.cells #[] 5)) #[] 0 (by simp; try omega) (by simp [maxLen]) rfl
        show World.ownsRow _ _ _ _ _ _ []
        simpa using e
    case round =>
      obtain ⟨k, A5, A6, c5, c6, g5, g6, hk, rfl, rfl, rfl, ho5, ho6, hg5, hg6, hne, hl5, hl6, hb⟩ := hrel
      have hsw := hb.size
      have hs0 := HB1.out.size
      by_cases hlt : k < 64
      · have hget : k < n1 → w1.heap.size = w1.heap.size := fun _ => rfl
        have HO5 := Lib.hid ho5
        have HO6 := Lib.hid ho6
        have HG5 := Lib.hid hg5
        have HG6 := Lib.hid hg6
        have HNE := Lib.hid hne
        have HBB := Lib.hid hb
        have HKB := Lib.hid (HK1.out.below hb)
        clear ho5 ho6 hg5 hg6 hne hb
        have HSTEP : ∀ (x : UInt8), (hkey key).getD k 0 = x → Hid ((over 54 (hkey key) (k + 1)).map bv = (over 54 (hkey key) k).map bv ++ [.int .u8 (((x ^^^ 54).toNat : Nat) : Int)]) ∧ Hid ((over 92 (hkey key) (k + 1)).map bv = (over 92 (hkey key) k).map bv ++ [.int .u8 (((x ^^^ 92).toNat : Nat) : Int)]) := by
          intro x e
          subst e
          exact ⟨by show _ = _; rw [over, List.map_append]; rfl, by show _ = _; rw [over, List.map_append]; rfl⟩
        have hkl : (hkey key).length = n1 := by simpa using HK1.out.1
        by_cases hin : k < n1
        focus
          obtain ⟨a, ea, _, hc⟩ := HKB.out.at_ hin
          have hcell : wr.cell? (a.add k) = some (.int .u8 ((((hkey key).getD k 0).toNat : Nat) : Int)) := by
            rw [hc]; simp [bv, hkl, hin]
          subst ea
          generalize hx : (hkey key).getD k 0 = x at hcell
          obtain ⟨HS5, HS6⟩ := HSTEP x hx
          have e1 : (k : Int) < (n1 : Int) := by omega
          clear hx HSTEP hc hget
          have hx54 := xor54 x
          have hx92 := xor92 x
          go_wp2_with (first
            | (at_builtin
               refine wpList_append_rd _ rfl (.tmp 28) (.tmp 31) 22 rfl w.heap.size 5 i0 _ 1 Tryd.underlying22 hi hz0 hz1 hz2 rfl A5 k c5 ((over 54 (hkey key) k).map bv) rfl (World.ownsRow.alloc HO5.out _) (some ⟨wr.heap.size, 0, none⟩) 1 1 [.int .u8 (((x ^^^ 54).toNat : Nat) : Int)] rfl
                 (Rd.new wr _ 5) (by simp [Value.oneCell']) (by simp only [maxLen]; omega) (by omega) (by simp; omega) ?_
               intro A7 c7 w7 hown7 hgr7 hrow7
               have HO7 := Lib.hid hown7
               have HG7 := Lib.hid hgr7
               have HR7 := Lib.hid hrow7
               have hs7 := hgr7.size
               have HO6b := Lib.hid (World.ownsRow.kept (World.ownsRow.alloc HO6.out (.cells #[.int .u8 (((x ^^^ 54).toNat : Nat) : Int)] 5)) hgr7 (.inr (by rw [HG5.out, HG6.out]; intro e; injection e with e; exact HNE.out e.symm)))
               clear hown7 hgr7 hrow7)
            | (at_builtin
               refine wpList_append_rd _ rfl (.tmp 33) (.tmp 36) 22 rfl w.heap.size 5 i0 _ 1 Tryd.underlying22 hi hz0 hz1 hz2 rfl A6 k c6 ((over 92 (hkey key) k).map bv) rfl (World.ownsRow.alloc HO6b.out _) (some ⟨w7.heap.size, 0, none⟩) 1 1 [.int .u8 (((x ^^^ 92).toNat : Nat) : Int)] rfl
                 (Rd.new w7 _ 5) (by simp [Value.oneCell']) (by simp only [maxLen]; omega) (by omega) (by simp at hs7 ⊢; omega) ?_
               intro A8 c8 w8 hown8 hgr8 hrow8
               have HO8 := Lib.hid hown8
               have HG8 := Lib.hid hgr8
               have HR8 := Lib.hid hrow8
               clear hown8 hgr8 hrow8))
        rotate_left
        focus
          have hx1 : (hkey key).getD k 0 = 0 := by simp [List.getD, List.getElem?_eq_none (show (hkey key).length ≤ k by omega)]
          obtain ⟨x, hx0⟩ : ∃ x : UInt8, x = 0 := ⟨0, rfl⟩
          have hx : (hkey key).getD k 0 = x := by rw [hx0]; exact hx1
          obtain ⟨HS5, HS6⟩ := HSTEP x hx
          have hx54 : bits .xor .u8 0 54 = ((x ^^^ 54).toNat : Int) := by rw [hx0]; rfl
          have hx92 : bits .xor .u8 0 92 = ((x ^^^ 92).toNat : Int) := by rw [hx0]; rfl
          clear hx hx0 hx1 HSTEP hget
          go_wp2_with (first
            | (at_builtin
               refine wpList_append_rd _ rfl (.tmp 28) (.tmp 31) 22 rfl w.heap.size 5 i0 _ 1 Tryd.underlying22 hi hz0 hz1 hz2 rfl A5 k c5 ((over 54 (hkey key) k).map bv) rfl (World.ownsRow.alloc HO5.out _) (some ⟨wr.heap.size, 0, none⟩) 1 1 [.int .u8 (((x ^^^ 54).toNat : Nat) : Int)] rfl
                 (Rd.new wr _ 5) (by simp [Value.oneCell']) (by simp only [maxLen]; omega) (by omega) (by simp; omega) ?_
               intro A7 c7 w7 hown7 hgr7 hrow7
               have HO7 := Lib.hid hown7
               have HG7 := Lib.hid hgr7
               have HR7 := Lib.hid hrow7
               have hs7 := hgr7.size
               have HO6b := Lib.hid (World.ownsRow.kept (World.ownsRow.alloc HO6.out (.cells #[.int .u8 (((x ^^^ 54).toNat : Nat) : Int)] 5)) hgr7 (.inr (by rw [HG5.out, HG6.out]; intro e; injection e with e; exact HNE.out e.symm)))
               clear hown7 hgr7 hrow7)
            | (at_builtin
               refine wpList_append_rd _ rfl (.tmp 33) (.tmp 36) 22 rfl w.heap.size 5 i0 _ 1 Tryd.underlying22 hi hz0 hz1 hz2 rfl A6 k c6 ((over 92 (hkey key) k).map bv) rfl (World.ownsRow.alloc HO6b.out _) (some ⟨w7.heap.size, 0, none⟩) 1 1 [.int .u8 (((x ^^^ 92).toNat : Nat) : Int)] rfl
                 (Rd.new w7 _ 5) (by simp [Value.oneCell']) (by simp only [maxLen]; omega) (by omega) (by simp at hs7 ⊢; omega) ?_
               intro A8 c8 w8 hown8 hgr8 hrow8
               have HO8 := Lib.hid hown8
               have HG8 := Lib.hid hgr8
               have HR8 := Lib.hid hrow8
               clear hown8 hgr8 hrow8))
        all_goals
          have l7 := World.ownsRow.lt HO7.out
          have l6 := World.ownsRow.lt HO6.out g6 HG6.out
          have hs8 := HG8.out.size
          obtain ⟨g7, hg7, hd7⟩ : ∃ g7, (Value.slice A7 (k + 1) c7).ownBlock = some g7 ∧ (g7 = g5 ∨ g7 = wr.heap.size + 1) := by
            rcases HR7.out with e | e
            · exact ⟨g5, e.trans HG5.out, .inl rfl⟩
            · exact ⟨_, e, .inr (by simp)⟩
          have hl7 := l7 g7 hg7
          have hne7 : g7 ≠ g6 := by
            rcases hd7 with e | e
            · rw [e]; exact HNE.out
            · omega
          obtain ⟨g8, hg8, hd8⟩ : ∃ g8, (Value.slice A8 (k + 1) c8).ownBlock = some g8 ∧ (g8 = g6 ∨ g8 = w7.heap.size + 1) := by
            rcases HR8.out with e | e
            · exact ⟨g6, e.trans HG6.out, .inl rfl⟩
            · exact ⟨_, e, .inr (by simp)⟩
          have hne8 : g7 ≠ g8 := by
            rcases hd8 with e | e
            · rw [e]; exact hne7
            · omega
          have hk7 := World.ownsRow.kept (World.ownsRow.alloc HO7.out (.cells #[.int .u8 (((x ^^^ 92).toNat : Nat) : Int)] 5)) HG8.out (.inr (by rw [hg7, HG6.out]; intro e; injection e with e; exact hne7 e))
          have hb7 : Below w1.heap.size w1 w7 := (HBB.out.alloc hsw _).grown HG7.out (by simp; omega) (fun g e => by rw [HG5.out] at e; injection e with e; omega)
          have hb8 : Below w1.heap.size w1 w8 := (hb7.alloc hb7.size _).grown HG8.out (by simp; have := hb7.size; omega) (fun g e => by rw [HG6.out] at e; injection e with e; omega)
          have hw7 := hb7.size
          refine ⟨⟨k + 1, A7, A8, c7, c8, g7, g8, by omega, rfl, rfl, by go_num, ?_, ?_, hg7, hg8, hne8, ?_, ?_, hb8⟩, by simp [intOf]; omega⟩
          · show w8.ownsRow _ _ _ _ _ _
            rw [HS5.out]; exact hk7
          · show w8.ownsRow _ _ _ _ _ _
            rw [HS6.out]; exact HO8.out
          · rcases hd7 with e | e <;> omega
          · rcases hd8 with e | e <;> omega
      · have e64 : k = 64 := by omega
        subst e64
        have HO5 := Lib.hid ho5
        have HO6 := Lib.hid ho6
        have HG5 := Lib.hid hg5
        have HG6 := Lib.hid hg6
        have HNE := Lib.hid hne
        have HBW := Lib.hid (HB1.out.trans ⟨hb.os, hb.tape, hb.output, hb.size, fun q hq => hb.block q (Nat.lt_of_lt_of_le hq hs0)⟩)
        have HRB2 := Lib.hid (HRB.out.below HBW.out)
        have hmm := HM.out
        clear ho5 ho6 hg5 hg6 hne hb
        go_wp2_with (at_builtin
                     refine wpList_append_rd _ rfl (.tmp 38) (.tmp 39) 22 rfl w.heap.size 5 i0 _ 1 Tryd.underlying22 hi hz0 hz1 hz2 rfl A5 64 c5 ((over 54 (hkey key) 64).map bv) rfl HO5.out B m d (b.map bv) rfl HRB2.out (oneCell_bytes b) (by simp only [maxLen]; omega) (by omega) (by omega) ?_
                     intro A7 c7 w7 hown7 hgr7 hrow7
                     have HO7 := Lib.hid hown7
                     have HG7 := Lib.hid hgr7
                     have HR7 := Lib.hid hrow7
                     clear hown7 hgr7 hrow7)
        have hrd7 : Rd w7 A7 (64 + m) ((over 54 (hkey key) 64 ++ b).map bv) := by
          rw [List.map_append]; exact Rd.own HO7.out
        have ho6b : OwnB w7 w.heap.size A6 64 c6 (over 92 (hkey key) 64) := World.ownsRow.kept HO6.out HG7.out (.inr (by rw [HG5.out, HG6.out]; intro e; injection e with e; exact HNE.out e.symm))
        have hb7 : Below w.heap.size w w7 := HBW.out.grown HG7.out HBW.out.size (OwnB.block HO5.out)
        have HS7 := Lib.hid (refSum_any A7 (64 + m) c7 (over 54 (hkey key) 64 ++ b) w7 hrd7 (by omega))
        have HO6B := Lib.hid ho6b
        have HB7 := Lib.hid hb7
        clear hrd7 ho6b hb7 HO5 HO6 HO7 HG5 HG6 HG7 HR7 HNE HRB2 HRB
        refine HS7.out.mono ?_
        rintro e w8 ⟨A8, n8, c8, rfl, ho8, hb8⟩
        have hn8 : n8 = 32 := by rw [← OwnB.len ho8, sum_len]
        subst hn8
        have HO6C := Lib.hid (HO6B.out.below hb8)
        have HO8 := Lib.hid ho8
        have HB8 := Lib.hid (HB7.out.trans ⟨hb8.os, hb8.tape, hb8.output, hb8.size, fun q hq => hb8.block q (Nat.lt_of_lt_of_le hq HB7.out.size)⟩)
        clear ho8 hb8 HS7 HO6B HB7
        go_wp2_with (at_builtin
                     refine wpList_append_rd _ rfl (.tmp 41) (.tmp 43) 22 rfl w.heap.size 5 i0 _ 1 Tryd.underlying22 hi hz0 hz1 hz2 rfl A6 64 c6 ((over 92 (hkey key) 64).map bv) rfl HO6C.out A8 32 c8 ((sum (over 54 (hkey key) 64 ++ b)).map bv) rfl HO8.out.rd (oneCell_bytes _) (by simp only [maxLen]; omega) (by omega) HB8.out.size ?_
                     intro A9 c9 w9 hown9 hgr9 hrow9
                     have HO9 := Lib.hid hown9
                     have HG9 := Lib.hid hgr9
                     clear hown9 hgr9 hrow9)
        have hrd9 : Rd w9 A9 (64 + 32) ((over 92 (hkey key) 64 ++ sum (over 54 (hkey key) 64 ++ b)).map bv) := by
          rw [List.map_append]; exact Rd.own HO9.out
        have hb9 : Below w.heap.size w w9 := HB8.out.grown HG9.out HB8.out.size (OwnB.block HO6C.out)
        refine (refSum_any A9 (64 + 32) c9 (over 92 (hkey key) 64 ++ sum (over 54 (hkey key) 64 ++ b)) w9 hrd9 (by omega)).mono ?_
        rintro e w10 ⟨A10, n10, c10, rfl, ho10, hb10⟩
        have HO10 := Lib.hid (OwnB.more ho10 hb9.size)
        have HB10 := Lib.hid (hb9.trans ⟨hb10.os, hb10.tape, hb10.output, hb10.size, fun q hq => hb10.block q (Nat.lt_of_lt_of_le hq hb9.size)⟩)
        clear ho10 hb10 hrd9 hb9 HO9 HG9
        go_wp2_with fail
        go_ret
        exact ⟨A10, n10, c10, rfl, by rw [HK.out]; exact HO10.out, HB10.out⟩
  · have hk : hkey key = key := by unfold hkey; rw [if_neg (by rw [HX.out]; omega)]
    have HK1 := Lib.hid (show Rd w A n ((hkey key).map bv) by rw [hk]; exact HR.out)
    have HB1 := Lib.hid (Below.refl w.heap.size w)
    have hk64 : n ≤ 64 := hshort
    clear hk
    go_wp2_with fail
    go_loopw [5, 6, 7] (fun s5 s6 i wr => ∃ (k : Nat) (A5 A6 : Option Addr) (c5 c6 g5 g6 : Nat), k ≤ 64 ∧ s5 = .slice A5 k c5 ∧ s6 = .slice A6 k c6 ∧ i = .int .i64 k ∧ OwnB wr w.heap.size A5 k c5 (over 54 (hkey key) k) ∧ OwnB wr w.heap.size A6 k c6 (over 92 (hkey key) k) ∧
      (Value.slice A5 k c5).ownBlock = some g5 ∧ (Value.slice A6 k c6).ownBlock = some g6 ∧ g5 ≠ g6 ∧ w.heap.size ≤ g5 ∧ w.heap.size ≤ g6 ∧ Below w.heap.size w wr) (fun _ _ i _ => 64 - (intOf i).toNat)
    case atStart =>
      have hs := HB1.out.size
      refine ⟨0, some ⟨w.heap.size, 0, none⟩, some ⟨w.heap.size + 1, 0, none⟩, 0, 0, w.heap.size, w.heap.size + 1, by omega, rfl, rfl, rfl, ?_, ?_, rfl, rfl, by omega, Nat.le_refl _, by omega, ((Below.refl _ w).alloc (Nat.le_refl _) _).alloc (by simp) _⟩
      · exact World.ownsRow.alloc (World.ownsRow_lit (e := 5) (base := w.heap.size) (size := 1) w #[] 0 hs (by simp [maxLen]) rfl) _
      · have e := World.ownsRow_lit (e := 5) (base := w.heap.size) (size := 1) (w.alloc (.cells #[] 5)) #[] 0 (by simp; try omega) (by simp [maxLen]) rfl
        show World.ownsRow _ _ _ _ _ _ []
        simpa using e
    case round =>
      obtain ⟨k, A5, A6, c5, c6, g5, g6, hk, rfl, rfl, rfl, ho5, ho6, hg5, hg6, hne, hl5, hl6, hb⟩ := hrel
      have hsw := hb.size
      have hs0 := HB1.out.size
      by_cases hlt : k < 64
      · have hget : k < n → w.heap.size = w.heap.size := fun _ => rfl
        have HO5 := Lib.hid ho5
        have HO6 := Lib.hid ho6
        have HG5 := Lib.hid hg5
        have HG6 := Lib.hid hg6
        have HNE := Lib.hid hne
        have HBB := Lib.hid hb
        have HKB := Lib.hid (HK1.out.below hb)
        clear ho5 ho6 hg5 hg6 hne hb
        have HSTEP : ∀ (x : UInt8), (hkey key).getD k 0 = x → Hid ((over 54 (hkey key) (k + 1)).map bv = (over 54 (hkey key) k).map bv ++ [.int .u8 (((x ^^^ 54).toNat : Nat) : Int)]) ∧ Hid ((over 92 (hkey key) (k + 1)).map bv = (over 92 (hkey key) k).map bv ++ [.int .u8 (((x ^^^ 92).toNat : Nat) : Int)]) := by
          intro x e
          subst e
          exact ⟨by show _ = _; rw [over, List.map_append]; rfl, by show _ = _; rw [over, List.map_append]; rfl⟩
        have hkl : (hkey key).length = n := by simpa using HK1.out.1
        by_cases hin : k < n
        focus
          obtain ⟨a, ea, _, hc⟩ := HKB.out.at_ hin
          have hcell : wr.cell? (a.add k) = some (.int .u8 ((((hkey key).getD k 0).toNat : Nat) : Int)) := by
            rw [hc]; simp [bv, hkl, hin]
          subst ea
          generalize hx : (hkey key).getD k 0 = x at hcell
          obtain ⟨HS5, HS6⟩ := HSTEP x hx
          have e1 : (k : Int) < (n : Int) := by omega
          clear hx HSTEP hc hget
          have hx54 := xor54 x
          have hx92 := xor92 x
          go_wp2_with (first
            | (at_builtin
               refine wpList_append_rd _ rfl (.tmp 28) (.tmp 31) 22 rfl w.heap.size 5 i0 _ 1 Tryd.underlying22 hi hz0 hz1 hz2 rfl A5 k c5 ((over 54 (hkey key) k).map bv) rfl (World.ownsRow.alloc HO5.out _) (some ⟨wr.heap.size, 0, none⟩) 1 1 [.int .u8 (((x ^^^ 54).toNat : Nat) : Int)] rfl
                 (Rd.new wr _ 5) (by simp [Value.oneCell']) (by simp only [maxLen]; omega) (by omega) (by simp; omega) ?_
               intro A7 c7 w7 hown7 hgr7 hrow7
               have HO7 := Lib.hid hown7
               have HG7 := Lib.hid hgr7
               have HR7 := Lib.hid hrow7
               have hs7 := hgr7.size
               have HO6b := Lib.hid (World.ownsRow.kept (World.ownsRow.alloc HO6.out (.cells #[.int .u8 (((x ^^^ 54).toNat : Nat) : Int)] 5)) hgr7 (.inr (by rw [HG5.out, HG6.out]; intro e; injection e with e; exact HNE.out e.symm)))
               clear hown7 hgr7 hrow7)
            | (at_builtin
               refine wpList_append_rd _ rfl (.tmp 33) (.tmp 36) 22 rfl w.heap.size 5 i0 _ 1 Tryd.underlying22 hi hz0 hz1 hz2 rfl A6 k c6 ((over 92 (hkey key) k).map bv) rfl (World.ownsRow.alloc HO6b.out _) (some ⟨w7.heap.size, 0, none⟩) 1 1 [.int .u8 (((x ^^^ 92).toNat : Nat) : Int)] rfl
                 (Rd.new w7 _ 5) (by simp [Value.oneCell']) (by simp only [maxLen]; omega) (by omega) (by simp at hs7 ⊢; omega) ?_
               intro A8 c8 w8 hown8 hgr8 hrow8
               have HO8 := Lib.hid hown8
               have HG8 := Lib.hid hgr8
               have HR8 := Lib.hid hrow8
               clear hown8 hgr8 hrow8))
        rotate_left
        focus
          have hx1 : (hkey key).getD k 0 = 0 := by simp [List.getD, List.getElem?_eq_none (show (hkey key).length ≤ k by omega)]
          obtain ⟨x, hx0⟩ : ∃ x : UInt8, x = 0 := ⟨0, rfl⟩
          have hx : (hkey key).getD k 0 = x := by rw [hx0]; exact hx1
          obtain ⟨HS5, HS6⟩ := HSTEP x hx
          have hx54 : bits .xor .u8 0 54 = ((x ^^^ 54).toNat : Int) := by rw [hx0]; rfl
          have hx92 : bits .xor .u8 0 92 = ((x ^^^ 92).toNat : Int) := by rw [hx0]; rfl
          clear hx hx0 hx1 HSTEP hget
          go_wp2_with (first
            | (at_builtin
               refine wpList_append_rd _ rfl (.tmp 28) (.tmp 31) 22 rfl w.heap.size 5 i0 _ 1 Tryd.underlying22 hi hz0 hz1 hz2 rfl A5 k c5 ((over 54 (hkey key) k).map bv) rfl (World.ownsRow.alloc HO5.out _) (some ⟨wr.heap.size, 0, none⟩) 1 1 [.int .u8 (((x ^^^ 54).toNat : Nat) : Int)] rfl
                 (Rd.new wr _ 5) (by simp [Value.oneCell']) (by simp only [maxLen]; omega) (by omega) (by simp; omega) ?_
               intro A7 c7 w7 hown7 hgr7 hrow7
               have HO7 := Lib.hid hown7
               have HG7 := Lib.hid hgr7
               have HR7 := Lib.hid hrow7
               have hs7 := hgr7.size
               have HO6b := Lib.hid (World.ownsRow.kept (World.ownsRow.alloc HO6.out (.cells #[.int .u8 (((x ^^^ 54).toNat : Nat) : Int)] 5)) hgr7 (.inr (by rw [HG5.out, HG6.out]; intro e; injection e with e; exact HNE.out e.symm)))
               clear hown7 hgr7 hrow7)
            | (at_builtin
               refine wpList_append_rd _ rfl (.tmp 33) (.tmp 36) 22 rfl w.heap.size 5 i0 _ 1 Tryd.underlying22 hi hz0 hz1 hz2 rfl A6 k c6 ((over 92 (hkey key) k).map bv) rfl (World.ownsRow.alloc HO6b.out _) (some ⟨w7.heap.size, 0, none⟩) 1 1 [.int .u8 (((x ^^^ 92).toNat : Nat) : Int)] rfl
                 (Rd.new w7 _ 5) (by simp [Value.oneCell']) (by simp only [maxLen]; omega) (by omega) (by simp at hs7 ⊢; omega) ?_
               intro A8 c8 w8 hown8 hgr8 hrow8
               have HO8 := Lib.hid hown8
               have HG8 := Lib.hid hgr8
               have HR8 := Lib.hid hrow8
               clear hown8 hgr8 hrow8))
        all_goals
          have l7 := World.ownsRow.lt HO7.out
          have l6 := World.ownsRow.lt HO6.out g6 HG6.out
          have hs8 := HG8.out.size
          obtain ⟨g7, hg7, hd7⟩ : ∃ g7, (Value.slice A7 (k + 1) c7).ownBlock = some g7 ∧ (g7 = g5 ∨ g7 = wr.heap.size + 1) := by
            rcases HR7.out with e | e
            · exact ⟨g5, e.trans HG5.out, .inl rfl⟩
            · exact ⟨_, e, .inr (by simp)⟩
          have hl7 := l7 g7 hg7
          have hne7 : g7 ≠ g6 := by
            rcases hd7 with e | e
            · rw [e]; exact HNE.out
            · omega
          obtain ⟨g8, hg8, hd8⟩ : ∃ g8, (Value.slice A8 (k + 1) c8).ownBlock = some g8 ∧ (g8 = g6 ∨ g8 = w7.heap.size + 1) := by
            rcases HR8.out with e | e
            · exact ⟨g6, e.trans HG6.out, .inl rfl⟩
            · exact ⟨_, e, .inr (by simp)⟩
          have hne8 : g7 ≠ g8 := by
            rcases hd8 with e | e
            · rw [e]; exact hne7
            · omega
          have hk7 := World.ownsRow.kept (World.ownsRow.alloc HO7.out (.cells #[.int .u8 (((x ^^^ 92).toNat : Nat) : Int)] 5)) HG8.out (.inr (by rw [hg7, HG6.out]; intro e; injection e with e; exact hne7 e))
          have hb7 : Below w.heap.size w w7 := (HBB.out.alloc hsw _).grown HG7.out (by simp; omega) (fun g e => by rw [HG5.out] at e; injection e with e; omega)
          have hb8 : Below w.heap.size w w8 := (hb7.alloc hb7.size _).grown HG8.out (by simp; have := hb7.size; omega) (fun g e => by rw [HG6.out] at e; injection e with e; omega)
          have hw7 := hb7.size
          refine ⟨⟨k + 1, A7, A8, c7, c8, g7, g8, by omega, rfl, rfl, by go_num, ?_, ?_, hg7, hg8, hne8, ?_, ?_, hb8⟩, by simp [intOf]; omega⟩
          · show w8.ownsRow _ _ _ _ _ _
            rw [HS5.out]; exact hk7
          · show w8.ownsRow _ _ _ _ _ _
            rw [HS6.out]; exact HO8.out
          · rcases hd7 with e | e <;> omega
          · rcases hd8 with e | e <;> omega
      · have e64 : k = 64 := by omega
        subst e64
        have HO5 := Lib.hid ho5
        have HO6 := Lib.hid ho6
        have HG5 := Lib.hid hg5
        have HG6 := Lib.hid hg6
        have HNE := Lib.hid hne
        have HBW := Lib.hid (HB1.out.trans ⟨hb.os, hb.tape, hb.output, hb.size, fun q hq => hb.block q (Nat.lt_of_lt_of_le hq hs0)⟩)
        have HRB2 := Lib.hid (HRB.out.below HBW.out)
        have hmm := HM.out
        clear ho5 ho6 hg5 hg6 hne hb
        go_wp2_with (at_builtin
                     refine wpList_append_rd _ rfl (.tmp 38) (.tmp 39) 22 rfl w.heap.size 5 i0 _ 1 Tryd.underlying22 hi hz0 hz1 hz2 rfl A5 64 c5 ((over 54 (hkey key) 64).map bv) rfl HO5.out B m d (b.map bv) rfl HRB2.out (oneCell_bytes b) (by simp only [maxLen]; omega) (by omega) (by omega) ?_
                     intro A7 c7 w7 hown7 hgr7 hrow7
                     have HO7 := Lib.hid hown7
                     have HG7 := Lib.hid hgr7
                     have HR7 := Lib.hid hrow7
                     clear hown7 hgr7 hrow7)
        have hrd7 : Rd w7 A7 (64 + m) ((over 54 (hkey key) 64 ++ b).map bv) := by
          rw [List.map_append]; exact Rd.own HO7.out
        have ho6b : OwnB w7 w.heap.size A6 64 c6 (over 92 (hkey key) 64) := World.ownsRow.kept HO6.out HG7.out (.inr (by rw [HG5.out, HG6.out]; intro e; injection e with e; exact HNE.out e.symm))
        have hb7 : Below w.heap.size w w7 := HBW.out.grown HG7.out HBW.out.size (OwnB.block HO5.out)
        have HS7 := Lib.hid (refSum_any A7 (64 + m) c7 (over 54 (hkey key) 64 ++ b) w7 hrd7 (by omega))
        have HO6B := Lib.hid ho6b
        have HB7 := Lib.hid hb7
        clear hrd7 ho6b hb7 HO5 HO6 HO7 HG5 HG6 HG7 HR7 HNE HRB2 HRB
        refine HS7.out.mono ?_
        rintro e w8 ⟨A8, n8, c8, rfl, ho8, hb8⟩
        have hn8 : n8 = 32 := by rw [← OwnB.len ho8, sum_len]
        subst hn8
        have HO6C := Lib.hid (HO6B.out.below hb8)
        have HO8 := Lib.hid ho8
        have HB8 := Lib.hid (HB7.out.trans ⟨hb8.os, hb8.tape, hb8.output, hb8.size, fun q hq => hb8.block q (Nat.lt_of_lt_of_le hq HB7.out.size)⟩)
        clear ho8 hb8 HS7 HO6B HB7
        go_wp2_with (at_builtin
                     refine wpList_append_rd _ rfl (.tmp 41) (.tmp 43) 22 rfl w.heap.size 5 i0 _ 1 Tryd.underlying22 hi hz0 hz1 hz2 rfl A6 64 c6 ((over 92 (hkey key) 64).map bv) rfl HO6C.out A8 32 c8 ((sum (over 54 (hkey key) 64 ++ b)).map bv) rfl HO8.out.rd (oneCell_bytes _) (by simp only [maxLen]; omega) (by omega) HB8.out.size ?_
                     intro A9 c9 w9 hown9 hgr9 hrow9
                     have HO9 := Lib.hid hown9
                     have HG9 := Lib.hid hgr9
                     clear hown9 hgr9 hrow9)
        have hrd9 : Rd w9 A9 (64 + 32) ((over 92 (hkey key) 64 ++ sum (over 54 (hkey key) 64 ++ b)).map bv) := by
          rw [List.map_append]; exact Rd.own HO9.out
        have hb9 : Below w.heap.size w w9 := HB8.out.grown HG9.out HB8.out.size (OwnB.block HO6C.out)
        refine (refSum_any A9 (64 + 32) c9 (over 92 (hkey key) 64 ++ sum (over 54 (hkey key) 64 ++ b)) w9 hrd9 (by omega)).mono ?_
        rintro e w10 ⟨A10, n10, c10, rfl, ho10, hb10⟩
        have HO10 := Lib.hid (OwnB.more ho10 hb9.size)
        have HB10 := Lib.hid (hb9.trans ⟨hb10.os, hb10.tape, hb10.output, hb10.size, fun q hq => hb10.block q (Nat.lt_of_lt_of_le hq hb9.size)⟩)
        clear ho10 hb10 hrd9 hb9 HO9 HG9
        go_wp2_with fail
        go_ret
        exact ⟨A10, n10, c10, rfl, by rw [HK.out]; exact HO10.out, HB10.out⟩
end Go.Proofs.YtfdmnnbcnaofgaaDoor
