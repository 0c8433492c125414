import Derived.Test.YtfdmnnbcnaofgaaDoorMacCalls
namespace Go.Proofs.YtfdmnnbcnaofgaaDoor
open Go.RowKit
open Pk Sh
set_option linter.unusedVariables false

/-- 32 bytes 0, as cells -/
def Z32 : List Value := (zeros 32).map bv
set_option maxHeartbeats 1600000 in
theorem key_any (A : Option Addr) (n c : Nat) (s : List UInt8) (a b : Int × Int) (w : World) (h : Sl w A n c s) (hT : Tab w) (hn : n ≤ 65536) :
    Calls Tryd.prog 16 #[.slice A n c, .agg #[.int .i64 a.1, .int .i64 a.2], .agg #[.int .i64 b.1, .int .i64 b.2]] w (Fresh1 (keyN s a b) w) := by
  have HS := Lib.hid h
  have HT := Lib.hid hT
  clear hT
  have HL := Lib.hid (fun a b w => less_any a b w)
  have HKN := Lib.hid (show keyN s a b = if numsBad (keyIds a b) then zeros 32 else sum (joinN [s, numsN (keyIds a b)]) from rfl)
  have HKI := Lib.hid (show keyIds a b = if idLess b a then [b.1, b.2, a.1, a.2] else [a.1, a.2, b.1, b.2] from rfl)
  obtain ⟨a1, a2⟩ := a
  obtain ⟨b1, b2⟩ := b
  have HA0 := Lib.hid ((Bk.new w 28 [.int .i64 a1, .int .i64 a2]).alloc (.cells #[.int .i64 b1, .int .i64 b2] 28))
  have HB0 := Lib.hid (Bk.new (w.alloc (.cells #[.int .i64 a1, .int .i64 a2] 28)) 28 [.int .i64 b1, .int .i64 b2])
  have hmk : ∀ w : World, (Instr.makeSlice 22 (.int .i64 32) (.int .i64 32)).run Tryd.prog w = .ok (.slice (some ⟨w.heap.size, 0, none⟩) 32 32) (w.alloc (.cells Z32.toArray 5)) := fun _ => by kernel_rfl
  clear h
  go_enter Tryd.func16, Tryd.ntmps16
  go_wp2_with fail
  refine (HL.out (b1, b2) (a1, a2) _).mono ?_
  rintro e w1 ⟨rfl, hb1⟩
  have ha1 := HA0.out.kept hb1
  have hbb1 : Bk w1 (w.heap.size + 1) 28 [.int .i64 b1, .int .i64 b2] := by
    have := HB0.out.kept hb1
    rwa [show (w.alloc (.cells #[.int .i64 a1, .int .i64 a2] 28)).heap.size = w.heap.size + 1 by simp] at this
  have ca0 := ha1.at_ (i := 0) rfl
  have ca1 := ha1.at_ (i := 1) rfl
  have cb0 := hbb1.at_ (i := 0) rfl
  have cb1 := hbb1.at_ (i := 1) rfl
  have fa0 := ha1.frozen 0
  have fa1 := ha1.frozen 1
  have fb0 := hbb1.frozen 0
  have fb1 := hbb1.frozen 1
  have HB1 := Lib.hid (below_next (((Below.refl w.heap.size w).alloc (Nat.le_refl _) (.cells #[.int .i64 a1, .int .i64 a2] 28)).alloc (by simp) (.cells #[.int .i64 b1, .int .i64 b2] 28)) hb1 (by simp; omega))
  clear ha1 hbb1 hb1
  cases hless : idLess (b1, b2) (a1, a2)
  · have HKL := Lib.hid (show keyIds (a1, a2) (b1, b2) = [a1, a2, b1, b2] by rw [HKI.out, hless]; rfl)
    clear HKI hless
    have HW := HB1
    have HN := Lib.hid (nums_four w1 a1 a2 b1 b2)
    go_wp2_with fail
    refine HN.out.mono ?_
    rintro e w2 ⟨hb2, ⟨hbad, rfl⟩ | ⟨hok, A2, n2, c2, rfl, ho2⟩⟩
    · have HR := Lib.hid (show keyN s (a1, a2) (b1, b2) = zeros 32 by rw [HKN.out, HKL.out, if_pos hbad])
      have HW2 := Lib.hid (below_next (HW.out.alloc HW.out.size (.cells #[.int .i64 a1, .int .i64 a2, .int .i64 b1, .int .i64 b2] 3)) hb2 (HW.out.alloc HW.out.size (.cells #[.int .i64 a1, .int .i64 a2, .int .i64 b1, .int .i64 b2] 3)).size)
      clear hb2 hbad
      go_wp2_with fail
      go_ret
      refine ⟨_, 32, 32, rfl, ?_, HW2.out.alloc HW2.out.size _⟩
      rw [HR.out]
      exact own_of_bk (Bk.new w2 5 ((zeros 32).map bv)) HW2.out.size (zeros_len _) (by simp [maxLen])
    · have HR := Lib.hid (show keyN s (a1, a2) (b1, b2) = sum (joinN [s, numsN [a1, a2, b1, b2]]) by rw [HKN.out, HKL.out, if_neg (by simp [hok])])
      have hn2 : n2 ≤ 36 := by
        have e1 := numsN_len hok
        rw [ho2.len] at e1
        simpa using e1
      have HW2 := Lib.hid (below_next (HW.out.alloc HW.out.size (.cells #[.int .i64 a1, .int .i64 a2, .int .i64 b1, .int .i64 b2] 3)) hb2 (HW.out.alloc HW.out.size (.cells #[.int .i64 a1, .int .i64 a2, .int .i64 b1, .int .i64 b2] 3)).size)
      have HO2 := Lib.hid (Sl.own ho2)
      have hJL := joinN_two_len s (numsN [a1, a2, b1, b2]) (by rw [HS.out.len]; exact hn) (by rw [ho2.len]; omega)
      have HJL := Lib.hid hJL
      clear hb2 hok ho2 hJL
      go_wp2_with fail
      refine (join_two w2 A A2 n c n2 c2 s _ (HS.out.below HW2.out) HO2.out hn (by omega)).mono ?_
      rintro e w3 ⟨A3, n3, c3, rfl, ho3, hb3⟩
      have HW3 := Lib.hid (below_next (HW2.out.alloc HW2.out.size (.cells #[.slice A n c, .slice A2 n2 c2] 22)) hb3 (HW2.out.alloc HW2.out.size (.cells #[.slice A n c, .slice A2 n2 c2] 22)).size)
      have HO3 := Lib.hid (Sl.own ho3)
      have hn3 : n3 ≤ 1310740 := by rw [← ho3.len]; exact HJL.out
      clear ho3 hb3
      go_wp2_with fail
      refine (sum_one w3 A3 n3 c3 _ HO3.out (HT.out.kept HW3.out) (by omega)).mono ?_
      rintro e w4 ⟨A4, n4, c4, rfl, ho4, hb4⟩
      have b3a := HW3.out.alloc HW3.out.size (.cells #[.slice A3 n3 c3] 22)
      have HFIN := Lib.hid (below_next b3a hb4 b3a.size)
      have HO4 := Lib.hid (ho4.more b3a.size)
      clear b3a ho4 hb4
      go_wp2_with fail
      go_ret
      exact ⟨A4, n4, c4, rfl, by rw [HR.out]; exact HO4.out, HFIN.out⟩
  · have HKL := Lib.hid (show keyIds (a1, a2) (b1, b2) = [b1, b2, a1, a2] by rw [HKI.out, hless]; rfl)
    clear HKI hless
    have HW := Lib.hid (below_set (below_set (below_set (below_set HB1.out (Nat.le_refl _) 0 (.int .i64 b1)) (Nat.le_refl _) 1 (.int .i64 b2)) (show w.heap.size ≤ w.heap.size + 1 by omega) 0 (.int .i64 a1)) (show w.heap.size ≤ w.heap.size + 1 by omega) 1 (.int .i64 a2))
    have hN := nums_four ((((w1.setCell ⟨w.heap.size, 0, none⟩ (.int .i64 b1)).setCell ⟨w.heap.size, 1, none⟩ (.int .i64 b2)).setCell ⟨w.heap.size + 1, 0, none⟩ (.int .i64 a1)).setCell ⟨w.heap.size + 1, 1, none⟩ (.int .i64 a2)) b1 b2 a1 a2
    have hwz : (((((w1.setCell ⟨w.heap.size, 0, none⟩ (.int .i64 b1)).setCell ⟨w.heap.size, 1, none⟩ (.int .i64 b2)).setCell ⟨w.heap.size + 1, 0, none⟩ (.int .i64 a1)).setCell ⟨w.heap.size + 1, 1, none⟩ (.int .i64 a2))).heap.size = w1.heap.size := by simp
    rw [hwz] at hN
    have HN := Lib.hid hN
    clear hN
    go_wp2_with fail
    refine HN.out.mono ?_
    rintro e w2 ⟨hb2, ⟨hbad, rfl⟩ | ⟨hok, A2, n2, c2, rfl, ho2⟩⟩
    · have HR := Lib.hid (show keyN s (a1, a2) (b1, b2) = zeros 32 by rw [HKN.out, HKL.out, if_pos hbad])
      have HW2 := Lib.hid (below_next (HW.out.alloc HW.out.size (.cells #[.int .i64 b1, .int .i64 b2, .int .i64 a1, .int .i64 a2] 3)) hb2 (HW.out.alloc HW.out.size (.cells #[.int .i64 b1, .int .i64 b2, .int .i64 a1, .int .i64 a2] 3)).size)
      clear hb2 hbad
      go_wp2_with fail
      go_ret
      refine ⟨_, 32, 32, rfl, ?_, HW2.out.alloc HW2.out.size _⟩
      rw [HR.out]
      exact own_of_bk (Bk.new w2 5 ((zeros 32).map bv)) HW2.out.size (zeros_len _) (by simp [maxLen])
    · have HR := Lib.hid (show keyN s (a1, a2) (b1, b2) = sum (joinN [s, numsN [b1, b2, a1, a2]]) by rw [HKN.out, HKL.out, if_neg (by simp [hok])])
      have hn2 : n2 ≤ 36 := by
        have e1 := numsN_len hok
        rw [ho2.len] at e1
        simpa using e1
      have HW2 := Lib.hid (below_next (HW.out.alloc HW.out.size (.cells #[.int .i64 b1, .int .i64 b2, .int .i64 a1, .int .i64 a2] 3)) hb2 (HW.out.alloc HW.out.size (.cells #[.int .i64 b1, .int .i64 b2, .int .i64 a1, .int .i64 a2] 3)).size)
      have HO2 := Lib.hid (Sl.own ho2)
      have hJL := joinN_two_len s (numsN [b1, b2, a1, a2]) (by rw [HS.out.len]; exact hn) (by rw [ho2.len]; omega)
      have HJL := Lib.hid hJL
      clear hb2 hok ho2 hJL
      go_wp2_with fail
      refine (join_two w2 A A2 n c n2 c2 s _ (HS.out.below HW2.out) HO2.out hn (by omega)).mono ?_
      rintro e w3 ⟨A3, n3, c3, rfl, ho3, hb3⟩
      have HW3 := Lib.hid (below_next (HW2.out.alloc HW2.out.size (.cells #[.slice A n c, .slice A2 n2 c2] 22)) hb3 (HW2.out.alloc HW2.out.size (.cells #[.slice A n c, .slice A2 n2 c2] 22)).size)
      have HO3 := Lib.hid (Sl.own ho3)
      have hn3 : n3 ≤ 1310740 := by rw [← ho3.len]; exact HJL.out
      clear ho3 hb3
      go_wp2_with fail
      refine (sum_one w3 A3 n3 c3 _ HO3.out (HT.out.kept HW3.out) (by omega)).mono ?_
      rintro e w4 ⟨A4, n4, c4, rfl, ho4, hb4⟩
      have b3a := HW3.out.alloc HW3.out.size (.cells #[.slice A3 n3 c3] 22)
      have HFIN := Lib.hid (below_next b3a hb4 b3a.size)
      have HO4 := Lib.hid (ho4.more b3a.size)
      clear b3a ho4 hb4
      go_wp2_with fail
      go_ret
      exact ⟨A4, n4, c4, rfl, by rw [HR.out]; exact HO4.out, HFIN.out⟩
end Go.Proofs.YtfdmnnbcnaofgaaDoor
