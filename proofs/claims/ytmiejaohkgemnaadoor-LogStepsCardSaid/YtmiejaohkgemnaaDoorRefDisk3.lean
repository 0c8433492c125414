/-
  The document's own disk: Append. Walks; no statement.
-/
import Derived.Test.YtmiejaohkgemnaaDoorRefDisk2
namespace Go.Proofs.YtmiejaohkgemnaaDoor
open Go.RowKit
set_option linter.unusedVariables false

theorem flat_take (ls : List (List UInt8)) (k : Nat) (hk : k < ls.length) : (ls.take (k + 1)).flatten = (ls.take k).flatten ++ ls.getD k [] := by
  rw [take_snocD ls [] k hk, List.flatten_append]
  simp
theorem flat_le (ls : List (List UInt8)) (k : Nat) : (ls.take k).flatten.length ≤ ls.flatten.length := by
  have e : ls.flatten = (ls.take k).flatten ++ (ls.drop k).flatten := by rw [← List.flatten_append, List.take_append_drop]
  rw [e, List.length_append]
  omega
/-- how the loop over the parts stands -/
def AppAt (w : World) (l : List UInt8) (parts : List (List UInt8)) (k : Nat) (cs zs : List Value) (b : Value) (wr : World) : Prop :=
  ∃ A m c, b = .slice A m c ∧ OwnB wr (w.heap.size + 2) A m c (l ++ (parts.take k).flatten) ∧ Bk wr w.heap.size 36 cs ∧ Bk wr (w.heap.size + 1) 36 zs ∧ Below w.heap.size w wr
set_option maxHeartbeats 1000000 in
theorem refAppend_0 (p s0 s1 : Int) (A0 A1 : Option Addr) (n0 c0 n1 c1 : Nat) (l0 l1 : List UInt8) (B : Option Addr) (q d : Nat) (parts : List (List UInt8)) (w : World) (h0 : Sl w A0 n0 c0 l0) (h1 : Sl w A1 n1 c1 l1) (hB : RdRows w B q parts)
    (b0 : n0 + parts.flatten.length ≤ 1099511627776) (hq : q ≤ 1099511627776) (hz : p ≠ 0) (hp : -9223372036854775808 ≤ p ∧ p ≤ 9223372036854775807) :
    Calls Tryd.prog 44 #[.agg #[.int .i64 p, .slice A0 n0 c0, .slice A1 n1 c1, .int .i64 s0, .int .i64 s1], .int .i64 0, .slice B q d] w (DiskS A0 A1 (⟨drawn p, l0 ++ parts.flatten, l1, s0, s1⟩, 0) w) := by
  obtain ⟨i0, hi, hz0, hz1, hz2⟩ := info_parts info_u8
  have hb := ((Below.refl w.heap.size w).alloc (Nat.le_refl _) (.cells #[.int .i64 p, .slice A0 n0 c0, .slice A1 n1 c1, .int .i64 s0, .int .i64 s1] 36)).alloc (by simp) (.cells #[.int .i64 0, .slice none 0 0, .slice none 0 0, .int .i64 0, .int .i64 0] 36)
  have hl0 := h0.len
  have HB2 := Lib.hid hb
  have HA := Lib.hid (refArea 0 ((w.alloc (.cells #[.int .i64 p, .slice A0 n0 c0, .slice A1 n1 c1, .int .i64 s0, .int .i64 s1] 36)).alloc (.cells #[.int .i64 0, .slice none 0 0, .slice none 0 0, .int .i64 0, .int .i64 0] 36)))
  have HK := Lib.hid (show known 0 = true from rfl)
  have HS0 := Lib.hid h0
  have HS1 := Lib.hid h1
  have HRB := Lib.hid hB
  have HB0 := Lib.hid b0
  have hql : parts.length = q := hB.1
  have HQL := Lib.hid hql
  have HKB := Lib.hid ((Bk.new w 36 [.int .i64 p, .slice A0 n0 c0, .slice A1 n1 c1, .int .i64 s0, .int .i64 s1]).alloc (.cells #[.int .i64 0, .slice none 0 0, .slice none 0 0, .int .i64 0, .int .i64 0] 36))
  have HKZ := Lib.hid (bk_new2 w (.cells #[.int .i64 p, .slice A0 n0 c0, .slice A1 n1 c1, .int .i64 s0, .int .i64 s1] 36) [.int .i64 0, .slice none 0 0, .slice none 0 0, .int .i64 0, .int .i64 0] 36)
  have HSZ := Lib.hid (show ((w.alloc (.cells #[.int .i64 p, .slice A0 n0 c0, .slice A1 n1 c1, .int .i64 s0, .int .i64 s1] 36)).alloc (.cells #[.int .i64 0, .slice none 0 0, .slice none 0 0, .int .i64 0, .int .i64 0] 36)).heap.size = w.heap.size + 2 by simp)
  have HD := Lib.hid (fun w => refDraw p s0 s1 A0 A1 n0 c0 n1 c1 w hp)
  have HE := Lib.hid (show (if p = 0 then (40 : Int) else 0) = 0 by simp [hz])
  obtain ⟨dp, hdp⟩ : ∃ dp, dp = drawn p := ⟨_, rfl⟩
  rw [← hdp] at HD ⊢
  have HSK := Lib.hid (show ∀ W, Below w.heap.size w W → Calls Tryd.prog 31 #[.slice A0 n0 c0] W (Fresh1 l0 W) from
    fun W hW => copyBytes_any A0 n0 c0 l0 W (HS0.out.below hW).rd (by omega))
  clear h0 h1 hb hB hz hdp hql b0
  go_enter Tryd.func44, Tryd.ntmps44
  go_wp2_with fail
  refine HA.out.mono ?_
  rintro e w1 ⟨rfl, rfl⟩
  rw [HK.out]
  go_wp2_with fail
  refine (HD.out _).mono ?_
  rintro e w1 ⟨rfl, hbb⟩
  rw [HE.out]
  have kb := HKB.out.kept hbb
  have kz := HKZ.out.kept hbb
  have HBB := Lib.hid (five_below (g := w.heap.size) (below_next HB2.out hbb HB2.out.size) (Nat.le_refl _) (.int .i64 dp) (.slice A0 n0 c0) (.slice A1 n1 c1) (.int .i64 s0) (.int .i64 s1))
  have HKB1 := Lib.hid (five_set kb (.int .i64 dp) (.slice A0 n0 c0) (.slice A1 n1 c1) (.int .i64 s0) (.int .i64 s1))
  have HKZ1 := Lib.hid (kz.five_far (show w.heap.size + 1 ≠ w.heap.size by omega) (.int .i64 dp) (.slice A0 n0 c0) (.slice A1 n1 c1) (.int .i64 s0) (.int .i64 s1))
  have HSZ1 := Lib.hid (show w.heap.size + 2 ≤ w1.heap.size by have := hbb.size; rw [HSZ.out] at this; exact this)
  obtain ⟨q0, q1, q2, q3, q4⟩ := kb.five
  obtain ⟨z0, z1, z2, z3, z4⟩ := kz.five
  have v0 := kb.frozen 0
  have u0 := kz.frozen 0
  have v1 := kb.frozen 1
  have u1 := kz.frozen 1
  have v2 := kb.frozen 2
  have u2 := kz.frozen 2
  have v3 := kb.frozen 3
  have u3 := kz.frozen 3
  have v4 := kb.frozen 4
  have u4 := kz.frozen 4
  clear hbb kb kz
  go_wp2_with fail
  refine (HSK.out _ HBB.out).mono ?_
  rintro e w4 ⟨A, m, c, rfl, ho, hb4⟩
  have HAT := Lib.hid (show AppAt w l0 parts 0 [.int .i64 dp, .slice A0 n0 c0, .slice A1 n1 c1, .int .i64 s0, .int .i64 s1] [.int .i64 0, .slice none 0 0, .slice none 0 0, .int .i64 0, .int .i64 0] (.slice A m c) w4 from
    ⟨A, m, c, rfl, by
      have o2 := ho.more (base' := w.heap.size + 2) (by simpa using HSZ1.out)
      simpa using o2, HKB1.out.kept hb4, HKZ1.out.kept hb4, below_next HBB.out hb4 HBB.out.size⟩)
  clear q0 q1 q2 q3 q4 z0 z1 z2 z3 z4 v0 v1 v2 v3 v4 u0 u1 u2 u3 u4 ho hb4 HKB1 HKZ1 HBB
  go_wp2_with fail
  go_loopw [9, 10] (fun b i wr => ∃ k : Nat, k ≤ q ∧ i = .int .i64 k ∧ AppAt w l0 parts k [.int .i64 dp, .slice A0 n0 c0, .slice A1 n1 c1, .int .i64 s0, .int .i64 s1] [.int .i64 0, .slice none 0 0, .slice none 0 0, .int .i64 0, .int .i64 0] b wr) (fun _ i _ => q - (intOf i).toNat)
  case atStart => exact ⟨0, by omega, rfl, HAT.out⟩
  case round =>
    clear HAT
    obtain ⟨k, hk, rfl, A, m, c, rfl, ho, kb, kz, hw⟩ := hrel
    have HKB2 := Lib.hid kb
    have HKZ2 := Lib.hid kz
    have HO := Lib.hid ho
    have HW := Lib.hid hw
    by_cases hkq : k < q
    · obtain ⟨a, E, e, rfl, _, hc, _, _, hr, _⟩ := (HRB.out.below hw).at_ hkq
      have hkl : k < parts.length := by rw [HQL.out]; exact hkq
      have hf := flat_take parts k hkl
      have hle := flat_le parts (k + 1)
      rw [hf, List.length_append] at hle
      have hml := ho.len
      rw [List.length_append] at hml
      generalize parts.getD k [] = x at *
      have HF := Lib.hid hf
      have HX := Lib.hid hr
      have HNM := Lib.hid (show m + x.length ≤ 1099511627776 by have := HB0.out; omega)
      have HKQ := Lib.hid hkq
      have y1 : (0 : Int) ≤ (k : Int) := by omega
      have y2 : (k : Int) < (q : Int) := by omega
      have y3 : (q : Int) ≤ 1099511627776 := by omega
      clear hr hf hle hml hkl kb kz ho hw
      go_wp2_with (at_builtin
                   refine wpList_append_rd _ rfl _ _ 32 rfl (w.heap.size + 2) 5 i0 _ 1 Tryd.underlying32 hi hz0 hz1 hz2 rfl A m c ((l0 ++ (parts.take k).flatten).map bv) rfl HO.out E x.length e (x.map bv) rfl
                     HX.out (oneCell_bytes x) (by have := HNM.out; simp only [maxLen]; omega) (by have := HNM.out; omega) (by have := HKZ2.out.lt; omega) ?_
                   intro A2 c2 w2 hown2 hg2 hrow2)
      go_roundw
      case rel =>
        refine ⟨k + 1, by have := HKQ.out; omega, by go_num, A2, m + x.length, c2, rfl, ?_, HKB2.out.grown hg2 (fun e => own_ne HO.out HKB2.out (by decide) e.symm), HKZ2.out.grown hg2 (fun e => own_ne HO.out HKZ2.out (by decide) e.symm), HW.out.grown hg2 HW.out.size (fun g e => Nat.le_trans (Nat.le_add_right _ 2) (OwnB.block HO.out g e))⟩
        rw [HF.out, ← List.append_assoc]
        simpa [OwnB] using hown2
      case measure => have := HKQ.out; simp [intOf]; omega
    · have ek : parts.take k = parts := List.take_of_length_le (by have := HQL.out; omega)
      have HEK := Lib.hid ek
      have HO3 := Lib.hid (fun x0 x1 x2 x3 x4 => (ho.off kb (by decide) (grown_set (grown_refl wr (some w.heap.size)) 1 (.slice A m c))).off (kz.far (p := ⟨w.heap.size, 1, none⟩) (by simp) (.slice A m c)) (by decide) (grown_set (grown_set (grown_set (grown_set (grown_set (grown_refl _ (some (w.heap.size + 1))) 0 x0) 1 x1) 2 x2) 3 x3) 4 x4))
      have HKZ3 := Lib.hid (kz.far (p := ⟨w.heap.size, 1, none⟩) (by simp) (.slice A m c))
      obtain ⟨q0, q1, q2, q3, q4⟩ := kb.five
      obtain ⟨z0, z1, z2, z3, z4⟩ := kz.five
      have v0 := kb.frozen 0
      have u0 := kz.frozen 0
      have v1 := kb.frozen 1
      have u1 := kz.frozen 1
      have v2 := kb.frozen 2
      have u2 := kz.frozen 2
      have v3 := kb.frozen 3
      have u3 := kz.frozen 3
      have v4 := kb.frozen 4
      have u4 := kz.frozen 4
      clear ek ho kb kz hw
      go_wp2_with fail
      have hbF := five_below (g := w.heap.size + 1) (below_set HW.out (Nat.le_refl _) 1 (.slice A m c)) (Nat.le_succ _) (.int .i64 dp) (.slice A m c) (.slice A1 n1 c1) (.int .i64 s0) (.int .i64 s1)
      refine bodyPost_ret_by (results_row_tmp rfl _ _ (w.heap.size + 1) 36 _ _ rfl (five_set HKZ3.out _ _ _ _ _) Tryd.underlying36 rfl info_disk) rfl ?_
      have fr := own_le (HO3.out (.int .i64 dp) (.slice A m c) (.slice A1 n1 c1) (.int .i64 s0) (.int .i64 s1))
      refine ⟨A, m, c, A1, n1, c1, rfl, ?_, HS1.out.below hbF, hbF, .inr (fun a e => ⟨Nat.le_trans (Nat.le_add_right _ 2) (fr a e).1, (fr a e).2⟩), .inl rfl⟩
      have o := HO3.out (.int .i64 dp) (.slice A m c) (.slice A1 n1 c1) (.int .i64 s0) (.int .i64 s1)
      rw [HEK.out] at o
      exact Sl.own o
set_option maxHeartbeats 1000000 in
theorem refAppend_1 (p s0 s1 : Int) (A0 A1 : Option Addr) (n0 c0 n1 c1 : Nat) (l0 l1 : List UInt8) (B : Option Addr) (q d : Nat) (parts : List (List UInt8)) (w : World) (h0 : Sl w A0 n0 c0 l0) (h1 : Sl w A1 n1 c1 l1) (hB : RdRows w B q parts)
    (b0 : n1 + parts.flatten.length ≤ 1099511627776) (hq : q ≤ 1099511627776) (hz : p ≠ 0) (hp : -9223372036854775808 ≤ p ∧ p ≤ 9223372036854775807) :
    Calls Tryd.prog 44 #[.agg #[.int .i64 p, .slice A0 n0 c0, .slice A1 n1 c1, .int .i64 s0, .int .i64 s1], .int .i64 1, .slice B q d] w (DiskS A0 A1 (⟨drawn p, l0, l1 ++ parts.flatten, s0, s1⟩, 0) w) := by
  obtain ⟨i0, hi, hz0, hz1, hz2⟩ := info_parts info_u8
  have hb := ((Below.refl w.heap.size w).alloc (Nat.le_refl _) (.cells #[.int .i64 p, .slice A0 n0 c0, .slice A1 n1 c1, .int .i64 s0, .int .i64 s1] 36)).alloc (by simp) (.cells #[.int .i64 0, .slice none 0 0, .slice none 0 0, .int .i64 0, .int .i64 0] 36)
  have hl0 := h1.len
  have HB2 := Lib.hid hb
  have HA := Lib.hid (refArea 1 ((w.alloc (.cells #[.int .i64 p, .slice A0 n0 c0, .slice A1 n1 c1, .int .i64 s0, .int .i64 s1] 36)).alloc (.cells #[.int .i64 0, .slice none 0 0, .slice none 0 0, .int .i64 0, .int .i64 0] 36)))
  have HK := Lib.hid (show known 1 = true from rfl)
  have HS0 := Lib.hid h0
  have HS1 := Lib.hid h1
  have HRB := Lib.hid hB
  have HB0 := Lib.hid b0
  have hql : parts.length = q := hB.1
  have HQL := Lib.hid hql
  have HKB := Lib.hid ((Bk.new w 36 [.int .i64 p, .slice A0 n0 c0, .slice A1 n1 c1, .int .i64 s0, .int .i64 s1]).alloc (.cells #[.int .i64 0, .slice none 0 0, .slice none 0 0, .int .i64 0, .int .i64 0] 36))
  have HKZ := Lib.hid (bk_new2 w (.cells #[.int .i64 p, .slice A0 n0 c0, .slice A1 n1 c1, .int .i64 s0, .int .i64 s1] 36) [.int .i64 0, .slice none 0 0, .slice none 0 0, .int .i64 0, .int .i64 0] 36)
  have HSZ := Lib.hid (show ((w.alloc (.cells #[.int .i64 p, .slice A0 n0 c0, .slice A1 n1 c1, .int .i64 s0, .int .i64 s1] 36)).alloc (.cells #[.int .i64 0, .slice none 0 0, .slice none 0 0, .int .i64 0, .int .i64 0] 36)).heap.size = w.heap.size + 2 by simp)
  have HD := Lib.hid (fun w => refDraw p s0 s1 A0 A1 n0 c0 n1 c1 w hp)
  have HE := Lib.hid (show (if p = 0 then (40 : Int) else 0) = 0 by simp [hz])
  obtain ⟨dp, hdp⟩ : ∃ dp, dp = drawn p := ⟨_, rfl⟩
  rw [← hdp] at HD ⊢
  have HSK := Lib.hid (show ∀ W, Below w.heap.size w W → Calls Tryd.prog 31 #[.slice A1 n1 c1] W (Fresh1 l1 W) from
    fun W hW => copyBytes_any A1 n1 c1 l1 W (HS1.out.below hW).rd (by omega))
  clear h0 h1 hb hB hz hdp hql b0
  go_enter Tryd.func44, Tryd.ntmps44
  go_wp2_with fail
  refine HA.out.mono ?_
  rintro e w1 ⟨rfl, rfl⟩
  rw [HK.out]
  go_wp2_with fail
  refine (HD.out _).mono ?_
  rintro e w1 ⟨rfl, hbb⟩
  rw [HE.out]
  have kb := HKB.out.kept hbb
  have kz := HKZ.out.kept hbb
  have HBB := Lib.hid (five_below (g := w.heap.size) (below_next HB2.out hbb HB2.out.size) (Nat.le_refl _) (.int .i64 dp) (.slice A0 n0 c0) (.slice A1 n1 c1) (.int .i64 s0) (.int .i64 s1))
  have HKB1 := Lib.hid (five_set kb (.int .i64 dp) (.slice A0 n0 c0) (.slice A1 n1 c1) (.int .i64 s0) (.int .i64 s1))
  have HKZ1 := Lib.hid (kz.five_far (show w.heap.size + 1 ≠ w.heap.size by omega) (.int .i64 dp) (.slice A0 n0 c0) (.slice A1 n1 c1) (.int .i64 s0) (.int .i64 s1))
  have HSZ1 := Lib.hid (show w.heap.size + 2 ≤ w1.heap.size by have := hbb.size; rw [HSZ.out] at this; exact this)
  obtain ⟨q0, q1, q2, q3, q4⟩ := kb.five
  obtain ⟨z0, z1, z2, z3, z4⟩ := kz.five
  have v0 := kb.frozen 0
  have u0 := kz.frozen 0
  have v1 := kb.frozen 1
  have u1 := kz.frozen 1
  have v2 := kb.frozen 2
  have u2 := kz.frozen 2
  have v3 := kb.frozen 3
  have u3 := kz.frozen 3
  have v4 := kb.frozen 4
  have u4 := kz.frozen 4
  clear hbb kb kz
  go_wp2_with fail
  refine (HSK.out _ HBB.out).mono ?_
  rintro e w4 ⟨A, m, c, rfl, ho, hb4⟩
  have HAT := Lib.hid (show AppAt w l1 parts 0 [.int .i64 dp, .slice A0 n0 c0, .slice A1 n1 c1, .int .i64 s0, .int .i64 s1] [.int .i64 0, .slice none 0 0, .slice none 0 0, .int .i64 0, .int .i64 0] (.slice A m c) w4 from
    ⟨A, m, c, rfl, by
      have o2 := ho.more (base' := w.heap.size + 2) (by simpa using HSZ1.out)
      simpa using o2, HKB1.out.kept hb4, HKZ1.out.kept hb4, below_next HBB.out hb4 HBB.out.size⟩)
  clear q0 q1 q2 q3 q4 z0 z1 z2 z3 z4 v0 v1 v2 v3 v4 u0 u1 u2 u3 u4 ho hb4 HKB1 HKZ1 HBB
  go_wp2_with fail
  go_loopw [9, 10] (fun b i wr => ∃ k : Nat, k ≤ q ∧ i = .int .i64 k ∧ AppAt w l1 parts k [.int .i64 dp, .slice A0 n0 c0, .slice A1 n1 c1, .int .i64 s0, .int .i64 s1] [.int .i64 0, .slice none 0 0, .slice none 0 0, .int .i64 0, .int .i64 0] b wr) (fun _ i _ => q - (intOf i).toNat)
  case atStart => exact ⟨0, by omega, rfl, HAT.out⟩
  case round =>
    clear HAT
    obtain ⟨k, hk, rfl, A, m, c, rfl, ho, kb, kz, hw⟩ := hrel
    have HKB2 := Lib.hid kb
    have HKZ2 := Lib.hid kz
    have HO := Lib.hid ho
    have HW := Lib.hid hw
    by_cases hkq : k < q
    · obtain ⟨a, E, e, rfl, _, hc, _, _, hr, _⟩ := (HRB.out.below hw).at_ hkq
      have hkl : k < parts.length := by rw [HQL.out]; exact hkq
      have hf := flat_take parts k hkl
      have hle := flat_le parts (k + 1)
      rw [hf, List.length_append] at hle
      have hml := ho.len
      rw [List.length_append] at hml
      generalize parts.getD k [] = x at *
      have HF := Lib.hid hf
      have HX := Lib.hid hr
      have HNM := Lib.hid (show m + x.length ≤ 1099511627776 by have := HB0.out; omega)
      have HKQ := Lib.hid hkq
      have y1 : (0 : Int) ≤ (k : Int) := by omega
      have y2 : (k : Int) < (q : Int) := by omega
      have y3 : (q : Int) ≤ 1099511627776 := by omega
      clear hr hf hle hml hkl kb kz ho hw
      go_wp2_with (at_builtin
                   refine wpList_append_rd _ rfl _ _ 32 rfl (w.heap.size + 2) 5 i0 _ 1 Tryd.underlying32 hi hz0 hz1 hz2 rfl A m c ((l1 ++ (parts.take k).flatten).map bv) rfl HO.out E x.length e (x.map bv) rfl
                     HX.out (oneCell_bytes x) (by have := HNM.out; simp only [maxLen]; omega) (by have := HNM.out; omega) (by have := HKZ2.out.lt; omega) ?_
                   intro A2 c2 w2 hown2 hg2 hrow2)
      go_roundw
      case rel =>
        refine ⟨k + 1, by have := HKQ.out; omega, by go_num, A2, m + x.length, c2, rfl, ?_, HKB2.out.grown hg2 (fun e => own_ne HO.out HKB2.out (by decide) e.symm), HKZ2.out.grown hg2 (fun e => own_ne HO.out HKZ2.out (by decide) e.symm), HW.out.grown hg2 HW.out.size (fun g e => Nat.le_trans (Nat.le_add_right _ 2) (OwnB.block HO.out g e))⟩
        rw [HF.out, ← List.append_assoc]
        simpa [OwnB] using hown2
      case measure => have := HKQ.out; simp [intOf]; omega
    · have ek : parts.take k = parts := List.take_of_length_le (by have := HQL.out; omega)
      have HEK := Lib.hid ek
      have HO3 := Lib.hid (fun x0 x1 x2 x3 x4 => (ho.off kb (by decide) (grown_set (grown_refl wr (some w.heap.size)) 2 (.slice A m c))).off (kz.far (p := ⟨w.heap.size, 2, none⟩) (by simp) (.slice A m c)) (by decide) (grown_set (grown_set (grown_set (grown_set (grown_set (grown_refl _ (some (w.heap.size + 1))) 0 x0) 1 x1) 2 x2) 3 x3) 4 x4))
      have HKZ3 := Lib.hid (kz.far (p := ⟨w.heap.size, 2, none⟩) (by simp) (.slice A m c))
      obtain ⟨q0, q1, q2, q3, q4⟩ := kb.five
      obtain ⟨z0, z1, z2, z3, z4⟩ := kz.five
      have v0 := kb.frozen 0
      have u0 := kz.frozen 0
      have v1 := kb.frozen 1
      have u1 := kz.frozen 1
      have v2 := kb.frozen 2
      have u2 := kz.frozen 2
      have v3 := kb.frozen 3
      have u3 := kz.frozen 3
      have v4 := kb.frozen 4
      have u4 := kz.frozen 4
      clear ek ho kb kz hw
      go_wp2_with fail
      have hbF := five_below (g := w.heap.size + 1) (below_set HW.out (Nat.le_refl _) 2 (.slice A m c)) (Nat.le_succ _) (.int .i64 dp) (.slice A0 n0 c0) (.slice A m c) (.int .i64 s0) (.int .i64 s1)
      refine bodyPost_ret_by (results_row_tmp rfl _ _ (w.heap.size + 1) 36 _ _ rfl (five_set HKZ3.out _ _ _ _ _) Tryd.underlying36 rfl info_disk) rfl ?_
      have fr := own_le (HO3.out (.int .i64 dp) (.slice A0 n0 c0) (.slice A m c) (.int .i64 s0) (.int .i64 s1))
      refine ⟨A0, n0, c0, A, m, c, rfl, HS0.out.below hbF, ?_, hbF, .inl rfl, .inr (fun a e => ⟨Nat.le_trans (Nat.le_add_right _ 2) (fr a e).1, (fr a e).2⟩)⟩
      have o := HO3.out (.int .i64 dp) (.slice A0 n0 c0) (.slice A m c) (.int .i64 s0) (.int .i64 s1)
      rw [HEK.out] at o
      exact Sl.own o
set_option maxHeartbeats 1000000 in
theorem refAppend (p s0 s1 a : Int) (A0 A1 : Option Addr) (n0 c0 n1 c1 : Nat) (l0 l1 : List UInt8) (B : Option Addr) (q d : Nat) (parts : List (List UInt8)) (w : World) (h0 : Sl w A0 n0 c0 l0) (h1 : Sl w A1 n1 c1 l1) (hB : RdRows w B q parts)
    (b0 : n0 + parts.flatten.length ≤ 1099511627776) (b1 : n1 + parts.flatten.length ≤ 1099511627776) (hq : q ≤ 1099511627776) (hp : -9223372036854775808 ≤ p ∧ p ≤ 9223372036854775807) :
    Calls Tryd.prog 44 #[.agg #[.int .i64 p, .slice A0 n0 c0, .slice A1 n1 c1, .int .i64 s0, .int .i64 s1], .int .i64 a, .slice B q d] w (DiskS A0 A1 (PD.append ⟨p, l0, l1, s0, s1⟩ a parts) w) := by
  by_cases hk : known a = true
  · by_cases hz : p = 0
    · have HR := Lib.hid (show PD.append ⟨p, l0, l1, s0, s1⟩ a parts = (⟨p, l0, l1, s0, s1⟩, 40) by unfold PD.append; simp [hk, hz])
      rw [HR.out]
      have hb := ((Below.refl w.heap.size w).alloc (Nat.le_refl _) (.cells #[.int .i64 p, .slice A0 n0 c0, .slice A1 n1 c1, .int .i64 s0, .int .i64 s1] 36)).alloc (by simp) (.cells #[.int .i64 0, .slice none 0 0, .slice none 0 0, .int .i64 0, .int .i64 0] 36)
      have HB2 := Lib.hid hb
      have HA := Lib.hid (refArea a ((w.alloc (.cells #[.int .i64 p, .slice A0 n0 c0, .slice A1 n1 c1, .int .i64 s0, .int .i64 s1] 36)).alloc (.cells #[.int .i64 0, .slice none 0 0, .slice none 0 0, .int .i64 0, .int .i64 0] 36)))
      have HK := Lib.hid hk
      have HS0 := Lib.hid h0
      have HS1 := Lib.hid h1
      have HKB := Lib.hid ((Bk.new w 36 [.int .i64 p, .slice A0 n0 c0, .slice A1 n1 c1, .int .i64 s0, .int .i64 s1]).alloc (.cells #[.int .i64 0, .slice none 0 0, .slice none 0 0, .int .i64 0, .int .i64 0] 36))
      have HKZ := Lib.hid (bk_new2 w (.cells #[.int .i64 p, .slice A0 n0 c0, .slice A1 n1 c1, .int .i64 s0, .int .i64 s1] 36) [.int .i64 0, .slice none 0 0, .slice none 0 0, .int .i64 0, .int .i64 0] 36)
      have HD := Lib.hid (fun w => refDraw p s0 s1 A0 A1 n0 c0 n1 c1 w hp)
      have HE := Lib.hid (show (if p = 0 then (40 : Int) else 0) = 40 by simp [hz])
      have HDP := Lib.hid (show drawn p = p by simp [drawn, hz])
      clear hz h0 h1 hb hB hk b0 b1
      go_enter Tryd.func44, Tryd.ntmps44
      go_wp2_with fail
      refine HA.out.mono ?_
      rintro e w1 ⟨rfl, rfl⟩
      rw [HK.out]
      go_wp2_with fail
      refine (HD.out _).mono ?_
      rintro e w1 ⟨rfl, hbb⟩
      rw [HE.out, HDP.out]
      have kb := HKB.out.kept hbb
      have kz := HKZ.out.kept hbb
      have HBB := Lib.hid hbb
      have HKZ1 := Lib.hid kz
      obtain ⟨q0, q1, q2, q3, q4⟩ := kb.five
      obtain ⟨z0, z1, z2, z3, z4⟩ := kz.five
      have v0 := kb.frozen 0
      have u0 := kz.frozen 0
      have v1 := kb.frozen 1
      have u1 := kz.frozen 1
      have v2 := kb.frozen 2
      have u2 := kz.frozen 2
      have v3 := kb.frozen 3
      have u3 := kz.frozen 3
      have v4 := kb.frozen 4
      have u4 := kz.frozen 4
      clear hbb kb kz
      go_wp2_with fail
      have hbF := five_below (g := w.heap.size + 1) (five_below (g := w.heap.size) (below_next HB2.out HBB.out HB2.out.size) (Nat.le_refl _) (.int .i64 p) (.slice A0 n0 c0) (.slice A1 n1 c1) (.int .i64 s0) (.int .i64 s1)) (Nat.le_succ _) (.int .i64 p) (.slice A0 n0 c0) (.slice A1 n1 c1) (.int .i64 s0) (.int .i64 s1)
      refine bodyPost_ret_by (results_row_tmp rfl _ _ (w.heap.size + 1) 36 _ _ rfl (five_set (HKZ1.out.five_far (by omega) _ _ _ _ _) _ _ _ _ _) Tryd.underlying36 rfl info_disk) rfl ?_
      exact ⟨A0, n0, c0, A1, n1, c1, rfl, HS0.out.below hbF, HS1.out.below hbF, hbF, .inl rfl, .inl rfl⟩
    · by_cases a0 : a = 0
      · subst a0
        have e : PD.append ⟨p, l0, l1, s0, s1⟩ 0 parts = (⟨drawn p, l0 ++ parts.flatten, l1, s0, s1⟩, 0) := by unfold PD.append; simp [known, hz, PD.setData, PD.drew, PD.data]
        rw [e]
        exact refAppend_0 p s0 s1 A0 A1 n0 c0 n1 c1 l0 l1 B q d parts w h0 h1 hB b0 hq hz hp
      · have a1 : a = 1 := by simpa [known, a0] using hk
        subst a1
        have e : PD.append ⟨p, l0, l1, s0, s1⟩ 1 parts = (⟨drawn p, l0, l1 ++ parts.flatten, s0, s1⟩, 0) := by unfold PD.append; simp [known, hz, PD.setData, PD.drew, PD.data]
        rw [e]
        exact refAppend_1 p s0 s1 A0 A1 n0 c0 n1 c1 l0 l1 B q d parts w h0 h1 hB b1 hq hz hp
  · have hk' : known a = false := by simpa using hk
    have HK := Lib.hid hk'
    have HR := Lib.hid (show PD.append ⟨p, l0, l1, s0, s1⟩ a parts = (⟨p, l0, l1, s0, s1⟩, 41) by unfold PD.append; rw [hk']; rfl)
    rw [HR.out]
    have HA := Lib.hid (refArea a ((w.alloc (.cells #[.int .i64 p, .slice A0 n0 c0, .slice A1 n1 c1, .int .i64 s0, .int .i64 s1] 36)).alloc (.cells #[.int .i64 0, .slice none 0 0, .slice none 0 0, .int .i64 0, .int .i64 0] 36)))
    have HB := Lib.hid (bk_new2 w (.cells #[.int .i64 p, .slice A0 n0 c0, .slice A1 n1 c1, .int .i64 s0, .int .i64 s1] 36) [.int .i64 p, .slice A0 n0 c0, .slice A1 n1 c1, .int .i64 s0, .int .i64 s1] 36)
    have hb2 := ((Below.refl w.heap.size w).alloc (Nat.le_refl _) (.cells #[.int .i64 p, .slice A0 n0 c0, .slice A1 n1 c1, .int .i64 s0, .int .i64 s1] 36)).alloc (by simp) (.cells #[.int .i64 p, .slice A0 n0 c0, .slice A1 n1 c1, .int .i64 s0, .int .i64 s1] 36)
    have HBF := Lib.hid hb2
    have HS0 := Lib.hid h0
    have HS1 := Lib.hid h1
    clear hb2 h0 h1 hk hk' hB b0 b1
    go_enter Tryd.func44, Tryd.ntmps44
    go_wp2_with fail
    refine HA.out.mono ?_
    rintro e w1 ⟨rfl, rfl⟩
    rw [HK.out]
    go_wp2_with fail
    refine bodyPost_ret_by (results_row_tmp rfl _ _ (w.heap.size + 1) 36 _ _ rfl HB.out Tryd.underlying36 rfl info_disk) rfl ?_
    exact ⟨A0, n0, c0, A1, n1, c1, rfl, HS0.out.below HBF.out, HS1.out.below HBF.out, HBF.out, .inl rfl, .inl rfl⟩
end Go.Proofs.YtmiejaohkgemnaaDoor
