import Derived.Test.YtfdmnnbcnaofgaaDoorRefHmac
import Derived.Test.YtfdmnnbcnaofgaaDoorMacKeyWalk
import Derived.Test.YtfdmnnbcnaofgaaDoorMacOpen
namespace Go.Proofs.YtfdmnnbcnaofgaaDoor
section
open Go.RowKit
open Pk Sh
set_option linter.unusedVariables false

set_option maxHeartbeats 1600000 in
theorem refKey_any (A : Option Addr) (n c : Nat) (s : List UInt8) (a b : Int × Int) (w : World) (h : Sl w A n c s) (hn : n ≤ 65536) :
    Calls Tryd.prog 17 #[.slice A n c, .agg #[.int .i64 a.1, .int .i64 a.2], .agg #[.int .i64 b.1, .int .i64 b.2]] w (Fresh1 (keyN s a b) w) := by
  have HS := Lib.hid h
  have HL := Lib.hid (fun a b w => refLess_any a b w)
  have HKN := Lib.hid (show keyN s a b = if numsBad (keyIds a b) then zeros 32 else sum (joinN [s, numsN (keyIds a b)]) from rfl)
  have HKI := Lib.hid (show keyIds a b = if idLess b a then [b.1, b.2, a.1, a.2] else [a.1, a.2, b.1, b.2] from rfl)
  obtain ⟨a1, a2⟩ := a
  obtain ⟨b1, b2⟩ := b
  have HA0 := Lib.hid ((Bk.new w 28 [.int .i64 a1, .int .i64 a2]).alloc (.cells #[.int .i64 b1, .int .i64 b2] 28))
  have HB0 := Lib.hid (Bk.new (w.alloc (.cells #[.int .i64 a1, .int .i64 a2] 28)) 28 [.int .i64 b1, .int .i64 b2])
  have hmk : ∀ w : World, (Instr.makeSlice 22 (.int .i64 32) (.int .i64 32)).run Tryd.prog w = .ok (.slice (some ⟨w.heap.size, 0, none⟩) 32 32) (w.alloc (.cells Z32.toArray 5)) := fun _ => by kernel_rfl
  have HJB := Lib.hid (fun W A n c l h hn => refJoin_two W A none n c 0 0 l [] h (Sl.nil_ W) hn (by omega))
  clear h
  go_enter Tryd.func17, Tryd.ntmps17
  go_wp2_with fail
  refine (HL.out (b1, b2) (a1, a2) _).mono ?_
  rintro e w1 ⟨rfl, hb1⟩
  have ha1 := HA0.out.kept hb1
  have hbb1 : Bk w1 (w.heap.size + 1) 28 [.int .i64 b1, .int .i64 b2] := by
    have := HB0.out.kept hb1
    rwa [show (w.alloc (.cells #[.int .i64 a1, .int .i64 a2] 28)).heap.size = w.heap.size + 1 by simp] at this
  have ca0 := ha1.at_ (i := 0) rfl
  have ca1 := ha1.at_ (i := 1) rfl
  have cb0 := hbb1.at_ (i := 0) rfl
  have cb1 := hbb1.at_ (i := 1) rfl
  have fa0 := ha1.frozen 0
  have fa1 := ha1.frozen 1
  have fb0 := hbb1.frozen 0
  have fb1 := hbb1.frozen 1
  have HB1 := Lib.hid (below_next (((Below.refl w.heap.size w).alloc (Nat.le_refl _) (.cells #[.int .i64 a1, .int .i64 a2] 28)).alloc (by simp) (.cells #[.int .i64 b1, .int .i64 b2] 28)) hb1 (by simp; omega))
  clear ha1 hbb1 hb1
  cases hless : idLess (b1, b2) (a1, a2)
  · have HKL := Lib.hid (show keyIds (a1, a2) (b1, b2) = [a1, a2, b1, b2] by rw [HKI.out, hless]; rfl)
    clear HKI hless
    have HW := HB1
    have HN := Lib.hid (refNums_four w1 a1 a2 b1 b2)
    go_wp2_with fail
    refine HN.out.mono ?_
    rintro e w2 ⟨hb2, ⟨hbad, rfl⟩ | ⟨hok, A2, n2, c2, rfl, ho2⟩⟩
    · have HR := Lib.hid (show keyN s (a1, a2) (b1, b2) = zeros 32 by rw [HKN.out, HKL.out, if_pos hbad])
      have HW2 := Lib.hid (below_next (HW.out.alloc HW.out.size (.cells #[.int .i64 a1, .int .i64 a2, .int .i64 b1, .int .i64 b2] 3)) hb2 (HW.out.alloc HW.out.size (.cells #[.int .i64 a1, .int .i64 a2, .int .i64 b1, .int .i64 b2] 3)).size)
      clear hb2 hbad
      have hJ := HJB.out w2 A n c s (HS.out.below HW2.out) (by omega)
      go_wp2_with fail
      refine hJ.mono ?_
      rintro e w3 ⟨A3, n3, c3, rfl, ho3, hb3⟩
      have HW3 := Lib.hid (below_next (HW2.out.alloc HW2.out.size (.cells #[.slice A n c, .slice none 0 0] 22)) hb3 (HW2.out.alloc HW2.out.size (.cells #[.slice A n c, .slice none 0 0] 22)).size)
      clear ho3 hb3 hJ
      go_wp2_with fail
      go_ret
      refine ⟨_, 32, 32, rfl, ?_, HW3.out.alloc HW3.out.size _⟩
      rw [HR.out]
      exact own_of_bk (Bk.new w3 5 ((zeros 32).map bv)) HW3.out.size (zeros_len _) (by simp [maxLen])
    · have HR := Lib.hid (show keyN s (a1, a2) (b1, b2) = sum (joinN [s, numsN [a1, a2, b1, b2]]) by rw [HKN.out, HKL.out, if_neg (by simp [hok])])
      have hn2 : n2 ≤ 36 := by
        have e1 := numsN_len hok
        rw [ho2.len] at e1
        simpa using e1
      have HW2 := Lib.hid (below_next (HW.out.alloc HW.out.size (.cells #[.int .i64 a1, .int .i64 a2, .int .i64 b1, .int .i64 b2] 3)) hb2 (HW.out.alloc HW.out.size (.cells #[.int .i64 a1, .int .i64 a2, .int .i64 b1, .int .i64 b2] 3)).size)
      have HO2 := Lib.hid (Sl.own ho2)
      have hJL := joinN_two_len s (numsN [a1, a2, b1, b2]) (by rw [HS.out.len]; exact hn) (by rw [ho2.len]; omega)
      have HJL := Lib.hid hJL
      clear hb2 hok ho2 hJL
      go_wp2_with fail
      refine (refJoin_two w2 A A2 n c n2 c2 s _ (HS.out.below HW2.out) HO2.out hn (by omega)).mono ?_
      rintro e w3 ⟨A3, n3, c3, rfl, ho3, hb3⟩
      have HW3 := Lib.hid (below_next (HW2.out.alloc HW2.out.size (.cells #[.slice A n c, .slice A2 n2 c2] 22)) hb3 (HW2.out.alloc HW2.out.size (.cells #[.slice A n c, .slice A2 n2 c2] 22)).size)
      have HO3 := Lib.hid (Sl.own ho3)
      have hn3 : n3 ≤ 1310740 := by rw [← ho3.len]; exact HJL.out
      clear ho3 hb3
      go_wp2_with fail
      refine (refSum_any A3 n3 c3 _ w3 HO3.out.rd (by omega)).mono ?_
      rintro e w4 ⟨A4, n4, c4, rfl, ho4, hb4⟩
      have HFIN := Lib.hid (below_next HW3.out hb4 HW3.out.size)
      have HO4 := Lib.hid (ho4.more HW3.out.size)
      clear ho4 hb4
      go_wp2_with fail
      go_ret
      exact ⟨A4, n4, c4, rfl, by rw [HR.out]; exact HO4.out, HFIN.out⟩
  · have HKL := Lib.hid (show keyIds (a1, a2) (b1, b2) = [b1, b2, a1, a2] by rw [HKI.out, hless]; rfl)
    clear HKI hless
    have HW := Lib.hid (below_set (below_set (below_set (below_set HB1.out (Nat.le_refl _) 0 (.int .i64 b1)) (Nat.le_refl _) 1 (.int .i64 b2)) (show w.heap.size ≤ w.heap.size + 1 by omega) 0 (.int .i64 a1)) (show w.heap.size ≤ w.heap.size + 1 by omega) 1 (.int .i64 a2))
    have hN := refNums_four ((((w1.setCell ⟨w.heap.size, 0, none⟩ (.int .i64 b1)).setCell ⟨w.heap.size, 1, none⟩ (.int .i64 b2)).setCell ⟨w.heap.size + 1, 0, none⟩ (.int .i64 a1)).setCell ⟨w.heap.size + 1, 1, none⟩ (.int .i64 a2)) b1 b2 a1 a2
    have hwz : (((((w1.setCell ⟨w.heap.size, 0, none⟩ (.int .i64 b1)).setCell ⟨w.heap.size, 1, none⟩ (.int .i64 b2)).setCell ⟨w.heap.size + 1, 0, none⟩ (.int .i64 a1)).setCell ⟨w.heap.size + 1, 1, none⟩ (.int .i64 a2))).heap.size = w1.heap.size := by simp
    rw [hwz] at hN
    have HN := Lib.hid hN
    clear hN
    go_wp2_with fail
    refine HN.out.mono ?_
    rintro e w2 ⟨hb2, ⟨hbad, rfl⟩ | ⟨hok, A2, n2, c2, rfl, ho2⟩⟩
    · have HR := Lib.hid (show keyN s (a1, a2) (b1, b2) = zeros 32 by rw [HKN.out, HKL.out, if_pos hbad])
      have HW2 := Lib.hid (below_next (HW.out.alloc HW.out.size (.cells #[.int .i64 b1, .int .i64 b2, .int .i64 a1, .int .i64 a2] 3)) hb2 (HW.out.alloc HW.out.size (.cells #[.int .i64 b1, .int .i64 b2, .int .i64 a1, .int .i64 a2] 3)).size)
      clear hb2 hbad
      have hJ := HJB.out w2 A n c s (HS.out.below HW2.out) (by omega)
      go_wp2_with fail
      refine hJ.mono ?_
      rintro e w3 ⟨A3, n3, c3, rfl, ho3, hb3⟩
      have HW3 := Lib.hid (below_next (HW2.out.alloc HW2.out.size (.cells #[.slice A n c, .slice none 0 0] 22)) hb3 (HW2.out.alloc HW2.out.size (.cells #[.slice A n c, .slice none 0 0] 22)).size)
      clear ho3 hb3 hJ
      go_wp2_with fail
      go_ret
      refine ⟨_, 32, 32, rfl, ?_, HW3.out.alloc HW3.out.size _⟩
      rw [HR.out]
      exact own_of_bk (Bk.new w3 5 ((zeros 32).map bv)) HW3.out.size (zeros_len _) (by simp [maxLen])
    · have HR := Lib.hid (show keyN s (a1, a2) (b1, b2) = sum (joinN [s, numsN [b1, b2, a1, a2]]) by rw [HKN.out, HKL.out, if_neg (by simp [hok])])
      have hn2 : n2 ≤ 36 := by
        have e1 := numsN_len hok
        rw [ho2.len] at e1
        simpa using e1
      have HW2 := Lib.hid (below_next (HW.out.alloc HW.out.size (.cells #[.int .i64 b1, .int .i64 b2, .int .i64 a1, .int .i64 a2] 3)) hb2 (HW.out.alloc HW.out.size (.cells #[.int .i64 b1, .int .i64 b2, .int .i64 a1, .int .i64 a2] 3)).size)
      have HO2 := Lib.hid (Sl.own ho2)
      have hJL := joinN_two_len s (numsN [b1, b2, a1, a2]) (by rw [HS.out.len]; exact hn) (by rw [ho2.len]; omega)
      have HJL := Lib.hid hJL
      clear hb2 hok ho2 hJL
      go_wp2_with fail
      refine (refJoin_two w2 A A2 n c n2 c2 s _ (HS.out.below HW2.out) HO2.out hn (by omega)).mono ?_
      rintro e w3 ⟨A3, n3, c3, rfl, ho3, hb3⟩
      have HW3 := Lib.hid (below_next (HW2.out.alloc HW2.out.size (.cells #[.slice A n c, .slice A2 n2 c2] 22)) hb3 (HW2.out.alloc HW2.out.size (.cells #[.slice A n c, .slice A2 n2 c2] 22)).size)
      have HO3 := Lib.hid (Sl.own ho3)
      have hn3 : n3 ≤ 1310740 := by rw [← ho3.len]; exact HJL.out
      clear ho3 hb3
      go_wp2_with fail
      refine (refSum_any A3 n3 c3 _ w3 HO3.out.rd (by omega)).mono ?_
      rintro e w4 ⟨A4, n4, c4, rfl, ho4, hb4⟩
      have HFIN := Lib.hid (below_next HW3.out hb4 HW3.out.size)
      have HO4 := Lib.hid (ho4.more HW3.out.size)
      clear ho4 hb4
      go_wp2_with fail
      go_ret
      exact ⟨A4, n4, c4, rfl, by rw [HR.out]; exact HO4.out, HFIN.out⟩
end
section
open Go.RowKit
open Pk Sh
set_option linter.unusedVariables false

theorem refNums_three_ids (W : World) (a b c : Int) : Calls Tryd.prog 37 #[.slice (some ⟨W.heap.size, 0, none⟩) 3 3] (W.alloc (.cells #[.int .i64 a, .int .i64 b, .int .i64 c] 3)) fun e w' =>
    ∃ A n c' x, e = .returned (.tuple #[.slice A n c', .int .i64 x]) ∧ OwnB w' (W.heap.size + 1) A n c' (tagIds (a, b) (c, 0)) ∧ Below (W.heap.size + 1) (W.alloc (.cells #[.int .i64 a, .int .i64 b, .int .i64 c] 3)) w' := by
  refine (refNums_three W a b c).mono ?_
  rintro e w' ⟨hb, ⟨hbad, rfl⟩ | ⟨hok, A, n, d, rfl, ho⟩⟩
  · refine ⟨none, 0, 0, 10, rfl, ?_, by simpa using hb⟩
    unfold tagIds
    rw [if_pos hbad]
    exact OwnB.nil_ _ _
  · refine ⟨A, n, d, 0, rfl, ?_, by simpa using hb⟩
    unfold tagIds
    rw [if_neg (by simp [hok])]
    simpa using ho
set_option maxHeartbeats 1600000 in
theorem refTag_any (A B : Option Addr) (n c m d : Nat) (s body : List UInt8) (f t : Int × Int) (w : World) (h : Sl w A n c s) (h' : Sl w B m d body) (hn : n ≤ 65536) (hm : m ≤ 65536) :
    Calls Tryd.prog 19 #[.slice A n c, .agg #[.int .i64 f.1, .int .i64 f.2], .agg #[.int .i64 t.1, .int .i64 t.2], .slice B m d] w (Fresh1 (tagN s f t body) w) := by
  have HS := Lib.hid h
  have HBO := Lib.hid h'
  have HK := Lib.hid (show tagN s f t body = (hmac (keyN s f t) (joinN [tagIds f t, body])).take 16 from rfl)
  obtain ⟨f1, f2⟩ := f
  obtain ⟨t1, t2⟩ := t
  have HI := Lib.hid (show tagIds (f1, f2) (t1, 0) = tagIds (f1, f2) (t1, t2) from rfl)
  have HIL := Lib.hid (tagIds_len (f1, f2) (t1, t2))
  have HA0 := Lib.hid ((Bk.new w 28 [.int .i64 f1, .int .i64 f2]).alloc (.cells #[.int .i64 t1, .int .i64 t2] 28))
  have hb0 := Bk.new (w.alloc (.cells #[.int .i64 f1, .int .i64 f2] 28)) 28 [.int .i64 t1, .int .i64 t2]
  rw [show (w.alloc (.cells #[.int .i64 f1, .int .i64 f2] 28)).heap.size = w.heap.size + 1 by simp] at hb0
  have HB0 := Lib.hid hb0
  have HBZ := Lib.hid (((Below.refl w.heap.size w).alloc (Nat.le_refl _) (.cells #[.int .i64 f1, .int .i64 f2] 28)).alloc (by simp) (.cells #[.int .i64 t1, .int .i64 t2] 28))
  have hN := refNums_three_ids ((w.alloc (.cells #[.int .i64 f1, .int .i64 f2] 28)).alloc (.cells #[.int .i64 t1, .int .i64 t2] 28)) f1 f2 t1
  rw [show ((w.alloc (.cells #[.int .i64 f1, .int .i64 f2] 28)).alloc (.cells #[.int .i64 t1, .int .i64 t2] 28)).heap.size = w.heap.size + 1 + 1 by simp] at hN
  have HN := Lib.hid hN
  clear h h' hb0 hN
  go_enter Tryd.func19, Tryd.ntmps19
  go_wp2_with fail
  refine HN.out.mono ?_
  rintro e w2 ⟨A2, n2, c2, x2, rfl, ho2, hb2⟩
  rw [HI.out] at ho2
  have hn2 : n2 ≤ 27 := by rw [← ho2.len]; exact HIL.out
  have hb2' := hb2.mono (show w.heap.size + 1 + 1 ≤ w.heap.size + 1 + 1 + 1 by omega)
  have HZ2 := Lib.hid (show Below (w.heap.size + 1 + 1) ((w.alloc (.cells #[.int .i64 f1, .int .i64 f2] 28)).alloc (.cells #[.int .i64 t1, .int .i64 t2] 28)) w2 from
    (((Below.refl (w.heap.size + 1 + 1) _).alloc (by simp) _).trans hb2'))
  have HW2 := Lib.hid (HBZ.out.trans (HZ2.out.mono (show w.heap.size ≤ w.heap.size + 1 + 1 by omega)))
  have HO2 := Lib.hid (Sl.own ho2)
  have hJL := joinN_two_len (tagIds (f1, f2) (t1, t2)) body (by have := HIL.out; omega) (by rw [HBO.out.len]; exact hm)
  have HJL := Lib.hid hJL
  clear hb2 ho2 hb2' hJL
  go_wp2_with fail
  refine (refJoin_two w2 A2 B n2 c2 m d _ body HO2.out (HBO.out.below HW2.out) (by omega) hm).mono ?_
  rintro e w3 ⟨A3, n3, c3, rfl, ho3, hb3⟩
  have hn3 : n3 ≤ 1310740 := by rw [← ho3.len]; exact HJL.out
  have hz2 := HZ2.out.size
  simp at hz2
  have b2a := HW2.out.alloc HW2.out.size (.cells #[.slice A2 n2 c2, .slice B m d] 22)
  have z2a := HZ2.out.alloc (by omega) (.cells #[.slice A2 n2 c2, .slice B m d] 22)
  have HW3 := Lib.hid (below_next b2a hb3 b2a.size)
  have HZ3 := Lib.hid (below_next z2a hb3 (by simp; omega))
  have HO3 := Lib.hid (Sl.own ho3)
  have ha3 : Bk w3 w.heap.size 28 [.int .i64 f1, .int .i64 f2] := HA0.out.below HZ3.out (by omega)
  have ht3 : Bk w3 (w.heap.size + 1) 28 [.int .i64 t1, .int .i64 t2] := HB0.out.below HZ3.out (by omega)
  have ca0 := ha3.at_ (i := 0) rfl
  have ca1 := ha3.at_ (i := 1) rfl
  have cb0 := ht3.at_ (i := 0) rfl
  have cb1 := ht3.at_ (i := 1) rfl
  clear ho3 hb3 b2a z2a ha3 ht3 hz2
  go_wp2_with fail
  refine (refKey_any A n c s (f1, f2) (t1, t2) w3 (HS.out.below HW3.out) hn).mono ?_
  rintro e w4 ⟨A4, n4, c4, rfl, ho4, hb4⟩
  have hn4 : n4 = 32 := by rw [← ho4.len, keyN_len]
  subst hn4
  have HW4 := Lib.hid (below_next HW3.out hb4 HW3.out.size)
  have HO4 := Lib.hid (Sl.own ho4)
  have HO3' := Lib.hid (HO3.out.below hb4)
  clear ho4 hb4
  go_wp2_with fail
  refine (refHmac_any A4 A3 32 c4 n3 c3 _ _ w4 HO4.out.rd HO3'.out.rd (by omega) (by omega)).mono ?_
  rintro e w5 ⟨A5, n5, c5, rfl, ho5, hb5⟩
  have hn5 : n5 = 32 := by rw [← ho5.len, hmac_len]
  subst hn5
  have HW5 := Lib.hid (below_next HW4.out hb5 HW4.out.size)
  have hc5 := (own_cap ho5).1
  obtain ⟨g5, rfl, _⟩ := own_at ho5 (by omega)
  have hR5 : Rd w5 (some ⟨g5, 0, none⟩) 16 ((tagN s (f1, f2) (t1, t2) body).map bv) := by
    have := ho5.rd.front (k := 16) (by omega)
    rw [HK.out, List.map_take]
    exact this
  have HR5 := Lib.hid hR5
  have hsl : ∀ wx, (Instr.slice 22 (.slice (some ⟨g5, 0, none⟩) 32 c5) none (some (.int .i64 16)) none).run Tryd.prog wx = .ok (.slice (some ⟨g5, 0, none⟩) 16 c5) wx := by
    intro wx
    rw [run_slice_h wx _ _ _ _ (by kernel_rfl) .i64 16 (by omega) (by omega)]
    have e : Tryd.prog.elem 22 = 5 := by kernel_rfl
    rw [e, size_u8]
    have e0 : (⟨g5, 0, none⟩ : Addr).add 0 = ⟨g5, 0, none⟩ := at_add g5 0 0
    simp [Result.andThen, sliced, e0]
  clear ho5 hb5 hR5
  go_wp2_with fail
  refine (copyBytes_any _ 16 c5 _ w5 HR5.out (by omega)).mono ?_
  rintro e w6 ⟨A6, n6, c6, rfl, ho6, hb6⟩
  have HFIN := Lib.hid (below_next HW5.out hb6 HW5.out.size)
  have HO6 := Lib.hid (ho6.more HW5.out.size)
  clear ho6 hb6
  go_wp2_with fail
  go_ret
  exact ⟨A6, n6, c6, rfl, HO6.out, HFIN.out⟩
end
section
open Go.RowKit
open Pk Sh
set_option linter.unusedVariables false

theorem refOpen_any (A B D : Option Addr) (n c m d p q : Nat) (s body : List UInt8) (me f : Int × Int) (r : Int) (tags : List (List UInt8)) (w : World) (h : Sl w A n c s) (hb : Sl w B m d body) (ht : RdRows w D p tags) (hn : n ≤ 65536) (hm : m ≤ 65536) (hp : p ≤ maxLen) :
    Calls Tryd.prog 28 #[.slice A n c, .agg #[.int .i64 me.1, .int .i64 me.2], .agg #[.int .i64 f.1, .int .i64 f.2, .int .i64 r, .slice B m d, .slice D p q]] w (Tells (.bool (openN s me f r body tags)) w) := by
  unfold maxLen at hp
  have hpl := ht.1
  obtain ⟨m1, m2⟩ := me
  obtain ⟨f1, f2⟩ := f
  have b0 := ((Below.refl w.heap.size w).alloc (Nat.le_refl _) (.cells #[.int .i64 m1, .int .i64 m2] 28)).alloc (by simp) (.cells #[.int .i64 f1, .int .i64 f2, .int .i64 r, .slice B m d, .slice D p q] 37)
  have HB0 := Lib.hid b0
  clear b0
  by_cases hr : r = m1
  · subst hr
    by_cases h0 : m2 < 0
    · have HR := Lib.hid (show openN s (r, m2) (f1, f2) r body tags = false by unfold openN; rw [decide_eq_false_iff_not]; rintro ⟨_, e, _⟩; simp at e; omega)
      clear h hb ht
      go_enter Tryd.func28, Tryd.ntmps28
      go_wp2
      go_ret
      exact ⟨ret_bool HR.out.symm, HB0.out⟩
    · by_cases h1 : m2 < (p : Int)
      · obtain ⟨k, rfl⟩ : ∃ k : Nat, m2 = k := ⟨m2.toNat, by omega⟩
        have hk : k < p := by omega
        obtain ⟨a, E, d', rfl, hab, hc, hd1, hd2, hrr, _⟩ := (ht.below HB0.out).at_ hk
        have HOP := Lib.hid (show openN s (r, (k : Int)) (f1, f2) r body tags = decide (tags.getD k [] = tagN s (f1, f2) (r, (k : Int)) body) by
          unfold openN
          apply decide_eq_decide.2
          constructor
          · rintro ⟨_, _, _, e⟩; simpa using e
          · intro e; exact ⟨rfl, by simp, by show (k : Int) < _; omega, by simpa using e⟩)
        have HTL := Lib.hid (tagN_len s (f1, f2) (r, (k : Int)) body)
        have hz0 : ¬ ((k : Int) < 0) := by omega
        have HS := Lib.hid h
        have HBO := Lib.hid hb
        have HRR := Lib.hid hrr
        have HTS := Lib.hid ht
        have e1 : (0 : Int) ≤ (k : Int) := by omega
        have e2 : (k : Int) < (p : Int) := by omega
        have hgk : ¬ ((p : Int) ≤ (k : Int)) := by omega
        clear h hb ht hrr hpl hd1
        generalize tags.getD k [] = t at *
        have HK0 := Lib.hid ((Bk.new w 28 [.int .i64 r, .int .i64 (k : Int)]).alloc (.cells #[.int .i64 f1, .int .i64 f2, .int .i64 r, .slice B m d, .slice (some a) p q] 37))
        have hk1 := Bk.new (w.alloc (.cells #[.int .i64 r, .int .i64 (k : Int)] 28)) 37 [.int .i64 f1, .int .i64 f2, .int .i64 r, .slice B m d, .slice (some a) p q]
        rw [show (w.alloc (.cells #[.int .i64 r, .int .i64 (k : Int)] 28)).heap.size = w.heap.size + 1 by simp] at hk1
        have HK1 := Lib.hid hk1
        have HCC := Lib.hid hc
        have HAB := Lib.hid hab
        clear hk1 hc hab
        go_enter Tryd.func28, Tryd.ntmps28
        go_wp2_with fail
        refine (refTag_any A B n c m d s body (f1, f2) (r, (k : Int)) _ (HS.out.below HB0.out) (HBO.out.below HB0.out) hn hm).mono ?_
        rintro e w1 ⟨A1, n1, c1, rfl, ho1, hb1⟩
        have hn1 : n1 = 16 := by rw [← ho1.len]; exact HTL.out
        subst hn1
        have HW1 := Lib.hid (below_next HB0.out hb1 HB0.out.size)
        have c01 := (HK0.out.kept hb1).at_ (i := 1) rfl
        have c14 := (HK1.out.kept hb1).at_ (i := 4) rfl
        have ck := (hb1.cell (p := a.add k) (by rw [add_block]; exact HAB.out)).trans HCC.out
        have HEQ := Lib.hid (sameBytes_any A1 E 16 t.length c1 d' w1 _ t ho1.rd (HRR.out.below hb1) (by simp [maxLen]))
        have HDD := Lib.hid (show decide (tagN s (f1, f2) (r, (k : Int)) body = t) = decide (t = tagN s (f1, f2) (r, (k : Int)) body) from decide_eq_decide.2 ⟨fun e => e.symm, fun e => e.symm⟩)
        clear ho1 hb1
        go_wp2_with fail
        refine HEQ.out.mono ?_
        rintro e w2 ⟨rfl, k2, rfl⟩
        go_wp2_with fail
        go_ret
        exact ⟨ret_bool (HDD.out.trans HOP.out.symm), below_drewN HW1.out _⟩
      · have HR := Lib.hid (show openN s (r, m2) (f1, f2) r body tags = false by unfold openN; rw [decide_eq_false_iff_not]; rintro ⟨_, _, e, _⟩; simp at e; omega)
        have h1' : (p : Int) ≤ m2 := by omega
        clear h hb ht
        go_enter Tryd.func28, Tryd.ntmps28
        go_wp2
        go_ret
        exact ⟨ret_bool HR.out.symm, HB0.out⟩
  · have HR := Lib.hid (show openN s (m1, m2) (f1, f2) r body tags = false by unfold openN; rw [decide_eq_false_iff_not]; rintro ⟨e, _⟩; exact hr e)
    have hne : (r != m1) = true := by rw [bne_iff_ne]; exact hr
    clear h hb ht
    go_enter Tryd.func28, Tryd.ntmps28
    go_wp2
    go_ret
    exact ⟨ret_bool HR.out.symm, HB0.out⟩
end
end Go.Proofs.YtfdmnnbcnaofgaaDoor
