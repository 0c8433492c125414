/-
  What the laws of this layer share: alive, CopyConf. Walks; no statement.
-/
import Derived.Test.YtmeojepffnoceaaConfIds2
import Derived.Test.YtmeojepffnoceaaConfIds3
namespace Go.Proofs.Ytmeojepffnoceaa
open Go.RowKit
set_option linter.unusedVariables false

set_option maxHeartbeats 3200000 in
set_option maxRecDepth 100000 in
theorem alive_ok (w : World) : Calls Try.prog 8 #[] w (Tr w) := by
  have HK := Lib.hid (Bk.new w 24 [.int .i64 1, .int .i64 1, .int .i64 1, .int .i64 4, .int .i64 2, .int .i64 3, .slice none 0 0])
  have HB := Lib.hid ((Below.refl w.heap.size w).alloc (Nat.le_refl _) (.cells #[.int .i64 1, .int .i64 1, .int .i64 1, .int .i64 4, .int .i64 2, .int .i64 3, .slice none 0 0] 24))
  have v1 : Cf.err ⟨1, 1, 1, 4, 2, 3, 0⟩ = 0 := by decide
  have v2 : Cf.count ⟨1, 1, 1, 4, 2, 3, 0⟩ 2 = 4 := by decide
  have v3 : Cf.count ⟨1, 1, 1, 4, 2, 3, 0⟩ 3 = 3 := by decide
  have v4 : Cf.quorum ⟨1, 1, 1, 4, 2, 3, 0⟩ = 3 := by decide
  have v5 : Cf.proof ⟨1, 1, 1, 4, 2, 3, 0⟩ = 2 := by decide
  have v6 : Cf.primary ⟨1, 1, 1, 4, 2, 3, 0⟩ 6 = 2 := by decide
  have v7 : Cf.there ⟨1, 1, 1, 4, 2, 3, 0⟩ 1 3 = true := by decide
  have v8 : Cf.ids ⟨1, 1, 1, 4, 2, 3, 0⟩ [3] = [(3, 0), (3, 1), (3, 2)] := by decide
  have V1 := Lib.hid v1
  have V2 := Lib.hid v2
  have V3 := Lib.hid v3
  have V4 := Lib.hid v4
  have V5 := Lib.hid v5
  have V6 := Lib.hid v6
  have V7 := Lib.hid v7
  have V8 := Lib.hid v8
  clear v1 v2 v3 v4 v5 v6 v7 v8
  go_enter Try.func8, Try.ntmps8
  go_wp2_with fail
  refine (check_any 1 1 1 4 2 3 none 0 0 _).mono ?_
  rintro e w1 ⟨rfl, hb1⟩
  rw [V1.out]
  have HK1 := Lib.hid (HK.out.kept hb1)
  have HB1 := Lib.hid (below_next HB.out hb1 HB.out.size)
  obtain ⟨c0, c1, c2, c3, c4, c5, c6⟩ := HK1.out.seven
  clear hb1
  go_wp2_with fail
  refine (count_any 1 1 1 4 2 3 none 0 0 _ 2).mono ?_
  rintro e w2 ⟨rfl, hb2⟩
  rw [V2.out]
  have HK2 := Lib.hid (HK1.out.kept hb2)
  have HB2 := Lib.hid (below_next HB1.out hb2 HB1.out.size)
  clear c0 c1 c2 c3 c4 c5 c6
  obtain ⟨c0, c1, c2, c3, c4, c5, c6⟩ := HK2.out.seven
  clear hb2
  go_wp2_with fail
  refine (count_any 1 1 1 4 2 3 none 0 0 _ 3).mono ?_
  rintro e w3 ⟨rfl, hb3⟩
  rw [V3.out]
  have HK3 := Lib.hid (HK2.out.kept hb3)
  have HB3 := Lib.hid (below_next HB2.out hb3 HB2.out.size)
  clear c0 c1 c2 c3 c4 c5 c6
  obtain ⟨c0, c1, c2, c3, c4, c5, c6⟩ := HK3.out.seven
  clear hb3
  go_wp2_with fail
  refine (quorum_any 1 1 1 4 2 3 none 0 0 _).mono ?_
  rintro e w4 ⟨rfl, hb4⟩
  rw [V4.out]
  have HK4 := Lib.hid (HK3.out.kept hb4)
  have HB4 := Lib.hid (below_next HB3.out hb4 HB3.out.size)
  clear c0 c1 c2 c3 c4 c5 c6
  obtain ⟨c0, c1, c2, c3, c4, c5, c6⟩ := HK4.out.seven
  clear hb4
  go_wp2_with fail
  refine (proof_any 1 1 1 4 2 3 none 0 0 _).mono ?_
  rintro e w5 ⟨rfl, hb5⟩
  rw [V5.out]
  have HK5 := Lib.hid (HK4.out.kept hb5)
  have HB5 := Lib.hid (below_next HB4.out hb5 HB4.out.size)
  clear c0 c1 c2 c3 c4 c5 c6
  obtain ⟨c0, c1, c2, c3, c4, c5, c6⟩ := HK5.out.seven
  clear hb5
  go_wp2_with fail
  refine (primary_any 1 1 1 4 2 3 none 0 0 _ 6).mono ?_
  rintro e w6 ⟨rfl, hb6⟩
  rw [V6.out]
  have HK6 := Lib.hid (HK5.out.kept hb6)
  have HB6 := Lib.hid (below_next HB5.out hb6 HB5.out.size)
  clear c0 c1 c2 c3 c4 c5 c6
  obtain ⟨c0, c1, c2, c3, c4, c5, c6⟩ := HK6.out.seven
  clear hb6
  go_wp2_with fail
  refine (there_any 1 1 1 4 2 3 none 0 0 _ 1 3).mono ?_
  rintro e w7 ⟨rfl, hb7⟩
  rw [V7.out]
  have HK7 := Lib.hid (HK6.out.kept hb7)
  have HB7 := Lib.hid (below_next HB6.out hb7 HB6.out.size)
  clear c0 c1 c2 c3 c4 c5 c6
  obtain ⟨c0, c1, c2, c3, c4, c5, c6⟩ := HK7.out.seven
  clear hb7
  go_wp2_with fail
  refine (ids_any 1 1 1 4 2 3 none 0 0 (some ⟨w7.heap.size, 0, none⟩) 1 1 [3] _ (Rd.new w7 ([3].map iv) 3) (by omega)).mono ?_
  rintro e w8 ⟨A8, n8, c8, rfl, ho8, hb8⟩
  have h8 := ho8.len
  rw [V8.out] at h8
  obtain rfl : 3 = n8 := h8
  have HB8 := Lib.hid (below_next (HB7.out.alloc HB7.out.size (.cells #[.int .i64 3] 3)) hb8 (HB7.out.alloc HB7.out.size (.cells #[.int .i64 3] 3)).size)
  clear hb8 ho8
  go_wp2_with fail
  go_ret
  exact ⟨rfl, HB8.out⟩
end Go.Proofs.Ytmeojepffnoceaa
