/-
  MsgDecodes: the walk of the law. No statement.
-/
import Derived.Test.YtmgmmbgjmnklkaaMsgLaw
import Derived.Test.YtmgmmbgjmnklkaaOpenMsg
import Derived.Test.YtmgmmbgjmnklkaaMsgRef14
import Derived.Test.YtmgmmbgjmnklkaaMsgRef15
namespace Go.Proofs.Ytmgmmbgjmnklkaa
set_option maxRecDepth 100000
open Go.RowKit
open Pk
set_option linter.unusedVariables false

theorem refDecode_any (L : Option Addr) (ln lc : Nat) (l : List UInt8) (w : World) (h : Sl w L ln lc l) (hn : ln ≤ 4294967296) :
    Calls Try.prog 19 #[.slice L ln lc] w (DecM l w) := by
  by_cases hq : IsK l [1, 2, 3, 4, 5, 6, 7, 8, 9, 10, 11, 12, 13, 14]
  rotate_left
  · exact refDecodeZ_any L ln lc l w h hn hq
  obtain ⟨f0, fs, kd, h0, h1, h2, h3⟩ := hq
  simp only [List.mem_cons, List.not_mem_nil, or_false] at h3
  rcases h3 with rfl | rfl | rfl | rfl | rfl | rfl | rfl | rfl | rfl | rfl | rfl | rfl | rfl | rfl
  · exact refDecodeA2_any L ln lc l w h hn ⟨f0, fs, 1, h0, h1, h2, by decide⟩
  · exact refDecodeA2_any L ln lc l w h hn ⟨f0, fs, 2, h0, h1, h2, by decide⟩
  · exact refDecodeA1_any L ln lc l w h hn ⟨f0, fs, 3, h0, h1, h2, by decide⟩
  · exact refDecodeA1_any L ln lc l w h hn ⟨f0, fs, 4, h0, h1, h2, by decide⟩
  · exact refDecodeA1_any L ln lc l w h hn ⟨f0, fs, 5, h0, h1, h2, by decide⟩
  · exact refDecodeA1_any L ln lc l w h hn ⟨f0, fs, 6, h0, h1, h2, by decide⟩
  · exact refDecodeA2_any L ln lc l w h hn ⟨f0, fs, 7, h0, h1, h2, by decide⟩
  · exact refDecodeA2_any L ln lc l w h hn ⟨f0, fs, 8, h0, h1, h2, by decide⟩
  · exact refDecodeA2_any L ln lc l w h hn ⟨f0, fs, 9, h0, h1, h2, by decide⟩
  · exact refDecodeA2_any L ln lc l w h hn ⟨f0, fs, 10, h0, h1, h2, by decide⟩
  · exact refDecodeB_any L ln lc l w h hn ⟨f0, fs, 11, h0, h1, h2, by decide⟩
  · exact refDecodeA3_any L ln lc l w h hn ⟨f0, fs, 12, h0, h1, h2, by decide⟩
  · exact refDecodeA2_any L ln lc l w h hn ⟨f0, fs, 13, h0, h1, h2, by decide⟩
  · exact refDecodeA2_any L ln lc l w h hn ⟨f0, fs, 14, h0, h1, h2, by decide⟩
theorem sameZ (w : World) : Calls Try.prog 16 #[.agg #[.int .i64 0, .int .i64 0, .int .i64 0, .int .i64 0, .int .i64 0, .int .i64 0, .int .i64 0, .int .i64 0, .slice none 0 0, .slice none 0 0, .slice none 0 0, .slice none 0 0, .slice none 0 0], .agg #[.int .i64 0, .int .i64 0, .int .i64 0, .int .i64 0, .int .i64 0, .int .i64 0, .int .i64 0, .int .i64 0, .slice none 0 0, .slice none 0 0, .slice none 0 0, .slice none 0 0, .slice none 0 0]] w (Tells (.bool true) w) :=
  sameMsg_self (kindMg 0) ⟨none, 0, none, 0, none, 0, none, 0, none, 0⟩ ⟨none, 0, none, 0, none, 0, none, 0, none, 0⟩ AllB AllB w ⟨BF.nil_ _ _, BF.nil_ _ _, BF.nil_ _ _, RdS.nil_ _ _ _, RdS.nil_ _ _ _⟩ ⟨BF.nil_ _ _, BF.nil_ _ _, BF.nil_ _ _, RdS.nil_ _ _ _, RdS.nil_ _ _ _⟩
set_option maxHeartbeats 6400000 in
theorem msgDecodes_any (B : Option Addr) (n c : Nat) (b : List UInt8) (w : World) (hs : Sl w B n c b) :
    Calls Try.prog 4 #[.slice B n c] w (Tr w) := by
  have hB := Below.refl w.heap.size w
  have HB0 := Lib.hid (hB)
  have HS0 := Lib.hid (hs)
  have HL := Lib.hid hs.len
  clear hB hs
  go_enter Try.func4, Try.ntmps4
  go_wp2_with fail
  refine (alive_ok _).mono ?_
  rintro e w1 ⟨rfl, hb⟩
  have HB1 := Lib.hid (below_next HB0.out hb HB0.out.size)
  have HS1 := Lib.hid (HS0.out.below hb)
  clear hb
  by_cases hnb : (5000 : Int) < (n : Int)
  · go_wp2_with fail
    go_ret
    exact ⟨rfl, HB1.out⟩
  have hn5 : n ≤ 5000 := by omega
  go_wp2_with fail
  refine (spare_any B n c b _ HS1.out.rd (by omega)).mono ?_
  rintro e w2 ⟨A2, n2, c2, rfl, ho2, hb⟩
  have hn2 : n2 = n + 8 := by have := OwnB.len ho2; have h2 := HL.out; rw [List.length_append, marks_len] at this; omega
  subst hn2
  have hcap1 : n + 8 ≤ c2 := (own_cap ho2).1
  have HCM := Lib.hid (own_cap ho2).2
  have HB2 := Lib.hid (below_next HB1.out hb HB1.out.size)
  have HS2 := Lib.hid (HS1.out.below hb)
  have HO2 := Lib.hid (Sl.own ho2)
  have HF2 := Lib.hid ((show Sl w2 A2 n c2 b from ⟨by omega, HCM.out, by
      have h8 := ho2.rd.front (k := n) (by omega)
      rw [List.map_append, List.take_left' (by rw [List.length_map]; exact HL.out)] at h8
      exact h8, (Sl.own ho2).2.2.2⟩))
  clear hb ho2
  go_wp2_with fail
  refine (decode_any A2 n c2 b _ HF2.out (by omega)).mono ?_
  rintro e w3 ⟨hb, ⟨m, q, hd, rfl, hr⟩ | ⟨hd, rfl⟩⟩
  · skip
    have HD := Lib.hid hd
    have HB3 := Lib.hid (below_next HB2.out hb HB2.out.size)
    have HS3 := Lib.hid (HS2.out.below hb)
    have HO3 := Lib.hid (HO2.out.below hb)
    have HR3 := Lib.hid (hr)
    clear hb hr hd
    have hal := (Below.refl w3.heap.size w3).alloc (Nat.le_refl _) (.cells #[.int .i64 m.kind, .int .i64 m.view, .int .i64 m.seq, .int .i64 m.client, .int .i64 m.stamp, .int .i64 m.e.c, .int .i64 m.e.s, .int .i64 m.e.t, .slice q.ea m.e.dig.length q.ec, .slice q.ga m.dig.length q.gc, .slice q.da m.data.length q.dc, .slice q.pa m.proof.length q.pc, .slice q.va m.proven.length q.vc] 28)
    have HB4 := Lib.hid (below_next HB3.out hal HB3.out.size)
    have HS4 := Lib.hid (HS3.out.below hal)
    have HO4 := Lib.hid (HO3.out.below hal)
    have HR4 := Lib.hid (HR3.out.below hal)
    have HL4 := Lib.hid (Bk.new w3 28 [.int .i64 m.kind, .int .i64 m.view, .int .i64 m.seq, .int .i64 m.client, .int .i64 m.stamp, .int .i64 m.e.c, .int .i64 m.e.s, .int .i64 m.e.t, .slice q.ea m.e.dig.length q.ec, .slice q.ga m.dig.length q.gc, .slice q.da m.data.length q.dc, .slice q.pa m.proof.length q.pc, .slice q.va m.proven.length q.vc])
    clear hal
    go_wp2_with fail
    refine (refDecode_any B n c b _ HS4.out (by omega)).mono ?_
    rintro e w4 ⟨hb, ⟨m2, r, hd2, rfl, hr2⟩ | ⟨hd2, rfl⟩⟩
    rotate_left
    · rw [HD.out] at hd2; cases hd2
    rw [HD.out] at hd2
    injection hd2 with hd2
    subst hd2
    have HB5 := Lib.hid (below_next HB4.out hb HB4.out.size)
    have HS5 := Lib.hid (HS4.out.below hb)
    have HO5 := Lib.hid (HO4.out.below hb)
    have HR5 := Lib.hid (HR4.out.below hb)
    have HL5 := Lib.hid (HL4.out.kept hb)
    have HT5 := Lib.hid (hr2)
    clear hb hr2
    have hal := (Below.refl w4.heap.size w4).alloc (Nat.le_refl _) (.cells #[.int .i64 m.kind, .int .i64 m.view, .int .i64 m.seq, .int .i64 m.client, .int .i64 m.stamp, .int .i64 m.e.c, .int .i64 m.e.s, .int .i64 m.e.t, .slice r.ea m.e.dig.length r.ec, .slice r.ga m.dig.length r.gc, .slice r.da m.data.length r.dc, .slice r.pa m.proof.length r.pc, .slice r.va m.proven.length r.vc] 28)
    have HB6 := Lib.hid (below_next HB5.out hal HB5.out.size)
    have HS6 := Lib.hid (HS5.out.below hal)
    have HO6 := Lib.hid (HO5.out.below hal)
    have HR6 := Lib.hid (HR5.out.below hal)
    have HL6 := Lib.hid (HL5.out.kept hal)
    have HT6 := Lib.hid (HT5.out.below hal)
    have HM6 := Lib.hid (Bk.new w4 28 [.int .i64 m.kind, .int .i64 m.view, .int .i64 m.seq, .int .i64 m.client, .int .i64 m.stamp, .int .i64 m.e.c, .int .i64 m.e.s, .int .i64 m.e.t, .slice r.ea m.e.dig.length r.ec, .slice r.ga m.dig.length r.gc, .slice r.da m.data.length r.dc, .slice r.pa m.proof.length r.pc, .slice r.va m.proven.length r.vc])
    clear hal
    have l0 := HL6.out.at_ (i := 0) rfl
    have l1 := HL6.out.at_ (i := 1) rfl
    have l2 := HL6.out.at_ (i := 2) rfl
    have l3 := HL6.out.at_ (i := 3) rfl
    have l4 := HL6.out.at_ (i := 4) rfl
    have l5 := HL6.out.at_ (i := 5) rfl
    have l6 := HL6.out.at_ (i := 6) rfl
    have l7 := HL6.out.at_ (i := 7) rfl
    have l8 := HL6.out.at_ (i := 8) rfl
    have l9 := HL6.out.at_ (i := 9) rfl
    have l10 := HL6.out.at_ (i := 10) rfl
    have l11 := HL6.out.at_ (i := 11) rfl
    have l12 := HL6.out.at_ (i := 12) rfl
    have m_0 := HM6.out.at_ (i := 0) rfl
    have m_1 := HM6.out.at_ (i := 1) rfl
    have m_2 := HM6.out.at_ (i := 2) rfl
    have m_3 := HM6.out.at_ (i := 3) rfl
    have m_4 := HM6.out.at_ (i := 4) rfl
    have m_5 := HM6.out.at_ (i := 5) rfl
    have m_6 := HM6.out.at_ (i := 6) rfl
    have m_7 := HM6.out.at_ (i := 7) rfl
    have m_8 := HM6.out.at_ (i := 8) rfl
    have m_9 := HM6.out.at_ (i := 9) rfl
    have m_10 := HM6.out.at_ (i := 10) rfl
    have m_11 := HM6.out.at_ (i := 11) rfl
    have m_12 := HM6.out.at_ (i := 12) rfl
    go_wp2_with fail
    clear l0 l1 l2 l3 l4 l5 l6 l7 l8 l9 l10 l11 l12 m_0 m_1 m_2 m_3 m_4 m_5 m_6 m_7 m_8 m_9 m_10 m_11 m_12
    refine (sameMsg_self m q r _ _ _ HR6.out HT6.out).mono ?_
    rintro e w5 ⟨rfl, hb⟩
    have HB7 := Lib.hid (below_next HB6.out hb HB6.out.size)
    have HS7 := Lib.hid (HS6.out.below hb)
    have HO7 := Lib.hid (HO6.out.below hb)
    have HR7 := Lib.hid (HR6.out.below hb)
    have HL7 := Lib.hid (HL6.out.kept hb)
    have HT7 := Lib.hid (HT6.out.below hb)
    have HM7 := Lib.hid (HM6.out.kept hb)
    clear hb
    go_wp2_with fail
    refine (spare_any B n c b _ HS7.out.rd (by omega)).mono ?_
    rintro e w6 ⟨A6, n6, c6, rfl, ho6, hb⟩
    have HB8 := Lib.hid (below_next HB7.out hb HB7.out.size)
    have HS8 := Lib.hid (HS7.out.below hb)
    have HO8 := Lib.hid (HO7.out.below hb)
    have HR8 := Lib.hid (HR7.out.below hb)
    have HL8 := Lib.hid (HL7.out.kept hb)
    have HT8 := Lib.hid (HT7.out.below hb)
    have HM8 := Lib.hid (HM7.out.kept hb)
    have HP8 := Lib.hid (Sl.own ho6)
    clear hb ho6
    go_wp2_with fail
    refine (sameB_two HO8.out HP8.out).mono ?_
    rintro e w7 ⟨rfl, hb⟩
    have HB9 := Lib.hid (below_next HB8.out hb HB8.out.size)
    have HS9 := Lib.hid (HS8.out.below hb)
    have HO9 := Lib.hid (HO8.out.below hb)
    have HR9 := Lib.hid (HR8.out.below hb)
    have HL9 := Lib.hid (HL8.out.kept hb)
    have HT9 := Lib.hid (HT8.out.below hb)
    have HM9 := Lib.hid (HM8.out.kept hb)
    have HP9 := Lib.hid (HP8.out.below hb)
    clear hb
    go_wp2_with fail
    go_ret
    exact ⟨rfl, HB9.out⟩
  · skip
    have HD := Lib.hid hd
    have HB3 := Lib.hid (below_next HB2.out hb HB2.out.size)
    have HS3 := Lib.hid (HS2.out.below hb)
    have HO3 := Lib.hid (HO2.out.below hb)
    clear hb hd
    have hal := (Below.refl w3.heap.size w3).alloc (Nat.le_refl _) (.cells #[.int .i64 0, .int .i64 0, .int .i64 0, .int .i64 0, .int .i64 0, .int .i64 0, .int .i64 0, .int .i64 0, .slice none 0 0, .slice none 0 0, .slice none 0 0, .slice none 0 0, .slice none 0 0] 28)
    have HB4 := Lib.hid (below_next HB3.out hal HB3.out.size)
    have HS4 := Lib.hid (HS3.out.below hal)
    have HO4 := Lib.hid (HO3.out.below hal)
    have HL4 := Lib.hid (Bk.new w3 28 [.int .i64 0, .int .i64 0, .int .i64 0, .int .i64 0, .int .i64 0, .int .i64 0, .int .i64 0, .int .i64 0, .slice none 0 0, .slice none 0 0, .slice none 0 0, .slice none 0 0, .slice none 0 0])
    clear hal
    go_wp2_with fail
    refine (refDecode_any B n c b _ HS4.out (by omega)).mono ?_
    rintro e w4 ⟨hb, ⟨m2, r, hd2, rfl, hr2⟩ | ⟨hd2, rfl⟩⟩
    · rw [HD.out] at hd2; cases hd2
    have HB5 := Lib.hid (below_next HB4.out hb HB4.out.size)
    have HS5 := Lib.hid (HS4.out.below hb)
    have HO5 := Lib.hid (HO4.out.below hb)
    have HL5 := Lib.hid (HL4.out.kept hb)
    clear hb
    have hal := (Below.refl w4.heap.size w4).alloc (Nat.le_refl _) (.cells #[.int .i64 0, .int .i64 0, .int .i64 0, .int .i64 0, .int .i64 0, .int .i64 0, .int .i64 0, .int .i64 0, .slice none 0 0, .slice none 0 0, .slice none 0 0, .slice none 0 0, .slice none 0 0] 28)
    have HB6 := Lib.hid (below_next HB5.out hal HB5.out.size)
    have HS6 := Lib.hid (HS5.out.below hal)
    have HO6 := Lib.hid (HO5.out.below hal)
    have HL6 := Lib.hid (HL5.out.kept hal)
    have HM6 := Lib.hid (Bk.new w4 28 [.int .i64 0, .int .i64 0, .int .i64 0, .int .i64 0, .int .i64 0, .int .i64 0, .int .i64 0, .int .i64 0, .slice none 0 0, .slice none 0 0, .slice none 0 0, .slice none 0 0, .slice none 0 0])
    clear hal
    have l0 := HL6.out.at_ (i := 0) rfl
    have l1 := HL6.out.at_ (i := 1) rfl
    have l2 := HL6.out.at_ (i := 2) rfl
    have l3 := HL6.out.at_ (i := 3) rfl
    have l4 := HL6.out.at_ (i := 4) rfl
    have l5 := HL6.out.at_ (i := 5) rfl
    have l6 := HL6.out.at_ (i := 6) rfl
    have l7 := HL6.out.at_ (i := 7) rfl
    have l8 := HL6.out.at_ (i := 8) rfl
    have l9 := HL6.out.at_ (i := 9) rfl
    have l10 := HL6.out.at_ (i := 10) rfl
    have l11 := HL6.out.at_ (i := 11) rfl
    have l12 := HL6.out.at_ (i := 12) rfl
    have m_0 := HM6.out.at_ (i := 0) rfl
    have m_1 := HM6.out.at_ (i := 1) rfl
    have m_2 := HM6.out.at_ (i := 2) rfl
    have m_3 := HM6.out.at_ (i := 3) rfl
    have m_4 := HM6.out.at_ (i := 4) rfl
    have m_5 := HM6.out.at_ (i := 5) rfl
    have m_6 := HM6.out.at_ (i := 6) rfl
    have m_7 := HM6.out.at_ (i := 7) rfl
    have m_8 := HM6.out.at_ (i := 8) rfl
    have m_9 := HM6.out.at_ (i := 9) rfl
    have m_10 := HM6.out.at_ (i := 10) rfl
    have m_11 := HM6.out.at_ (i := 11) rfl
    have m_12 := HM6.out.at_ (i := 12) rfl
    go_wp2_with fail
    clear l0 l1 l2 l3 l4 l5 l6 l7 l8 l9 l10 l11 l12 m_0 m_1 m_2 m_3 m_4 m_5 m_6 m_7 m_8 m_9 m_10 m_11 m_12
    refine (sameZ _).mono ?_
    rintro e w5 ⟨rfl, hb⟩
    have HB7 := Lib.hid (below_next HB6.out hb HB6.out.size)
    have HS7 := Lib.hid (HS6.out.below hb)
    have HO7 := Lib.hid (HO6.out.below hb)
    have HL7 := Lib.hid (HL6.out.kept hb)
    have HM7 := Lib.hid (HM6.out.kept hb)
    clear hb
    go_wp2_with fail
    refine (spare_any B n c b _ HS7.out.rd (by omega)).mono ?_
    rintro e w6 ⟨A6, n6, c6, rfl, ho6, hb⟩
    have HB8 := Lib.hid (below_next HB7.out hb HB7.out.size)
    have HS8 := Lib.hid (HS7.out.below hb)
    have HO8 := Lib.hid (HO7.out.below hb)
    have HL8 := Lib.hid (HL7.out.kept hb)
    have HM8 := Lib.hid (HM7.out.kept hb)
    have HP8 := Lib.hid (Sl.own ho6)
    clear hb ho6
    go_wp2_with fail
    refine (sameB_two HO8.out HP8.out).mono ?_
    rintro e w7 ⟨rfl, hb⟩
    have HB9 := Lib.hid (below_next HB8.out hb HB8.out.size)
    have HS9 := Lib.hid (HS8.out.below hb)
    have HO9 := Lib.hid (HO8.out.below hb)
    have HL9 := Lib.hid (HL8.out.kept hb)
    have HM9 := Lib.hid (HM8.out.kept hb)
    have HP9 := Lib.hid (HP8.out.below hb)
    clear hb
    go_wp2_with fail
    go_ret
    exact ⟨rfl, HB9.out⟩

theorem msgDecodes_walk (w : World) (x : Value) (b : List UInt8) (hx : InB w x b) : Calls Try.prog 4 #[x] w (Tr w) := by
  obtain ⟨B, n, c, rfl, g1, g2, g3, g4⟩ := hx
  exact msgDecodes_any B n c b w ⟨g1, g2, g3, g4⟩
end Go.Proofs.Ytmgmmbgjmnklkaa
