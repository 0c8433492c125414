import Derived.Test.YtfdmnnbcnaofgaaDoorMacKeyWalk
namespace Go.Proofs.YtfdmnnbcnaofgaaDoor
open Go.RowKit
open Pk Sh
set_option linter.unusedVariables false

theorem nums_three_ids (W : World) (a b c : Int) : Calls Tryd.prog 34 #[.slice (some ⟨W.heap.size, 0, none⟩) 3 3] (W.alloc (.cells #[.int .i64 a, .int .i64 b, .int .i64 c] 3)) fun e w' =>
    ∃ A n c' x, e = .returned (.tuple #[.slice A n c', .int .i64 x]) ∧ OwnB w' (W.heap.size + 1) A n c' (tagIds (a, b) (c, 0)) ∧ Below (W.heap.size + 1) (W.alloc (.cells #[.int .i64 a, .int .i64 b, .int .i64 c] 3)) w' := by
  refine (nums_three W a b c).mono ?_
  rintro e w' ⟨hb, ⟨hbad, rfl⟩ | ⟨hok, A, n, d, rfl, ho⟩⟩
  · refine ⟨none, 0, 0, 10, rfl, ?_, by simpa using hb⟩
    unfold tagIds
    rw [if_pos hbad]
    exact OwnB.nil_ _ _
  · refine ⟨A, n, d, 0, rfl, ?_, by simpa using hb⟩
    unfold tagIds
    rw [if_neg (by simp [hok])]
    simpa using ho
set_option maxHeartbeats 1600000 in
theorem tag_any (A B : Option Addr) (n c m d : Nat) (s body : List UInt8) (f t : Int × Int) (w : World) (h : Sl w A n c s) (h' : Sl w B m d body) (hT : Tab w) (hn : n ≤ 65536) (hm : m ≤ 65536) :
    Calls Tryd.prog 18 #[.slice A n c, .agg #[.int .i64 f.1, .int .i64 f.2], .agg #[.int .i64 t.1, .int .i64 t.2], .slice B m d] w (Fresh1 (tagN s f t body) w) := by
  have HS := Lib.hid h
  have HBO := Lib.hid h'
  have HT := Lib.hid hT
  clear hT
  have HK := Lib.hid (show tagN s f t body = (hmac (keyN s f t) (joinN [tagIds f t, body])).take 16 from rfl)
  obtain ⟨f1, f2⟩ := f
  obtain ⟨t1, t2⟩ := t
  have HI := Lib.hid (show tagIds (f1, f2) (t1, 0) = tagIds (f1, f2) (t1, t2) from rfl)
  have HIL := Lib.hid (tagIds_len (f1, f2) (t1, t2))
  have HA0 := Lib.hid ((Bk.new w 28 [.int .i64 f1, .int .i64 f2]).alloc (.cells #[.int .i64 t1, .int .i64 t2] 28))
  have hb0 := Bk.new (w.alloc (.cells #[.int .i64 f1, .int .i64 f2] 28)) 28 [.int .i64 t1, .int .i64 t2]
  rw [show (w.alloc (.cells #[.int .i64 f1, .int .i64 f2] 28)).heap.size = w.heap.size + 1 by simp] at hb0
  have HB0 := Lib.hid hb0
  have HBZ := Lib.hid (((Below.refl w.heap.size w).alloc (Nat.le_refl _) (.cells #[.int .i64 f1, .int .i64 f2] 28)).alloc (by simp) (.cells #[.int .i64 t1, .int .i64 t2] 28))
  have hN := nums_three_ids ((w.alloc (.cells #[.int .i64 f1, .int .i64 f2] 28)).alloc (.cells #[.int .i64 t1, .int .i64 t2] 28)) f1 f2 t1
  rw [show ((w.alloc (.cells #[.int .i64 f1, .int .i64 f2] 28)).alloc (.cells #[.int .i64 t1, .int .i64 t2] 28)).heap.size = w.heap.size + 1 + 1 by simp] at hN
  have HN := Lib.hid hN
  clear h h' hb0 hN
  go_enter Tryd.func18, Tryd.ntmps18
  go_wp2_with fail
  refine HN.out.mono ?_
  rintro e w2 ⟨A2, n2, c2, x2, rfl, ho2, hb2⟩
  rw [HI.out] at ho2
  have hn2 : n2 ≤ 27 := by rw [← ho2.len]; exact HIL.out
  have hb2' := hb2.mono (show w.heap.size + 1 + 1 ≤ w.heap.size + 1 + 1 + 1 by omega)
  have HZ2 := Lib.hid (show Below (w.heap.size + 1 + 1) ((w.alloc (.cells #[.int .i64 f1, .int .i64 f2] 28)).alloc (.cells #[.int .i64 t1, .int .i64 t2] 28)) w2 from
    (((Below.refl (w.heap.size + 1 + 1) _).alloc (by simp) _).trans hb2'))
  have HW2 := Lib.hid (HBZ.out.trans (HZ2.out.mono (show w.heap.size ≤ w.heap.size + 1 + 1 by omega)))
  have HO2 := Lib.hid (Sl.own ho2)
  have hJL := joinN_two_len (tagIds (f1, f2) (t1, t2)) body (by have := HIL.out; omega) (by rw [HBO.out.len]; exact hm)
  have HJL := Lib.hid hJL
  clear hb2 ho2 hb2' hJL
  go_wp2_with fail
  refine (join_two w2 A2 B n2 c2 m d _ body HO2.out (HBO.out.below HW2.out) (by omega) hm).mono ?_
  rintro e w3 ⟨A3, n3, c3, rfl, ho3, hb3⟩
  have hn3 : n3 ≤ 1310740 := by rw [← ho3.len]; exact HJL.out
  have hz2 := HZ2.out.size
  simp at hz2
  have b2a := HW2.out.alloc HW2.out.size (.cells #[.slice A2 n2 c2, .slice B m d] 22)
  have z2a := HZ2.out.alloc (by omega) (.cells #[.slice A2 n2 c2, .slice B m d] 22)
  have HW3 := Lib.hid (below_next b2a hb3 b2a.size)
  have HZ3 := Lib.hid (below_next z2a hb3 (by simp; omega))
  have HO3 := Lib.hid (Sl.own ho3)
  have ha3 : Bk w3 w.heap.size 28 [.int .i64 f1, .int .i64 f2] := HA0.out.below HZ3.out (by omega)
  have ht3 : Bk w3 (w.heap.size + 1) 28 [.int .i64 t1, .int .i64 t2] := HB0.out.below HZ3.out (by omega)
  have ca0 := ha3.at_ (i := 0) rfl
  have ca1 := ha3.at_ (i := 1) rfl
  have cb0 := ht3.at_ (i := 0) rfl
  have cb1 := ht3.at_ (i := 1) rfl
  clear ho3 hb3 b2a z2a ha3 ht3 hz2
  go_wp2_with fail
  refine (key_any A n c s (f1, f2) (t1, t2) w3 (HS.out.below HW3.out) (HT.out.kept HW3.out) hn).mono ?_
  rintro e w4 ⟨A4, n4, c4, rfl, ho4, hb4⟩
  have hn4 : n4 = 32 := by rw [← ho4.len, keyN_len]
  subst hn4
  have HW4 := Lib.hid (below_next HW3.out hb4 HW3.out.size)
  have HO4 := Lib.hid (Sl.own ho4)
  have HO3' := Lib.hid (HO3.out.below hb4)
  clear ho4 hb4
  go_wp2_with fail
  refine (hmac_any A4 A3 32 c4 n3 c3 _ _ w4 HO4.out HO3'.out (HT.out.kept HW4.out) (by omega) (by omega)).mono ?_
  rintro e w5 ⟨A5, n5, c5, rfl, ho5, hb5⟩
  have hn5 : n5 = 32 := by rw [← ho5.len, hmac_len]
  subst hn5
  have HW5 := Lib.hid (below_next HW4.out hb5 HW4.out.size)
  have hc5 := (own_cap ho5).1
  obtain ⟨g5, rfl, _⟩ := own_at ho5 (by omega)
  have hR5 : Rd w5 (some ⟨g5, 0, none⟩) 16 ((tagN s (f1, f2) (t1, t2) body).map bv) := by
    have := ho5.rd.front (k := 16) (by omega)
    rw [HK.out, List.map_take]
    exact this
  have HR5 := Lib.hid hR5
  have hsl : ∀ wx, (Instr.slice 22 (.slice (some ⟨g5, 0, none⟩) 32 c5) none (some (.int .i64 16)) none).run Tryd.prog wx = .ok (.slice (some ⟨g5, 0, none⟩) 16 c5) wx := by
    intro wx
    rw [run_slice_h wx _ _ _ _ (by kernel_rfl) .i64 16 (by omega) (by omega)]
    have e : Tryd.prog.elem 22 = 5 := by kernel_rfl
    rw [e, size_u8]
    have e0 : (⟨g5, 0, none⟩ : Addr).add 0 = ⟨g5, 0, none⟩ := at_add g5 0 0
    simp [Result.andThen, sliced, e0]
  clear ho5 hb5 hR5
  go_wp2_with fail
  refine (clone_any _ 16 c5 _ w5 HR5.out (by omega)).mono ?_
  rintro e w6 ⟨A6, n6, c6, rfl, ho6, hb6⟩
  have HFIN := Lib.hid (below_next HW5.out hb6 HW5.out.size)
  have HO6 := Lib.hid (ho6.more HW5.out.size)
  clear ho6 hb6
  go_wp2_with fail
  go_ret
  exact ⟨A6, n6, c6, rfl, HO6.out, HFIN.out⟩
end Go.Proofs.YtfdmnnbcnaofgaaDoor
