import Derived.Test.YtgniocgcfldiaaaInts
import Derived.Test.YtgniocgcfldiaaaPackLaws1
namespace Go.Proofs.Ytgniocgcfldiaaa
open Go.RowKit
open Pk
set_option linter.unusedVariables false

theorem packLists_big (w : World) (A B : Option Addr) (n c m d : Nat) (hbig : 3000 < n ∨ 3000 < m) (hn : n ≤ maxLen) (hm : m ≤ maxLen) : Calls Try.prog 8 #[.slice A n c, .slice B m d] w (Tr w) := by
  unfold maxLen at hn hm
  by_cases h1 : 3000 < n
  · clear hbig
    go_enter Try.func8, Try.ntmps8
    go_wp2_with fail
    refine (aliveNum_ok _).mono ?_
    rintro e w1 ⟨rfl, hb1⟩
    go_wp2_with fail
    refine (aliveRead_ok _).mono ?_
    rintro e w2 ⟨rfl, hb2⟩
    go_wp2_with fail
    go_ret
    exact ⟨rfl, hb1.trans (hb2.mono hb1.size)⟩
  · have h2 : 3000 < m := by omega
    clear hbig
    go_enter Try.func8, Try.ntmps8
    go_wp2_with fail
    refine (aliveNum_ok _).mono ?_
    rintro e w1 ⟨rfl, hb1⟩
    go_wp2_with fail
    refine (aliveRead_ok _).mono ?_
    rintro e w2 ⟨rfl, hb2⟩
    go_wp2_with fail
    go_ret
    exact ⟨rfl, hb1.trans (hb2.mono hb1.size)⟩

/-- a list and an error number, as a function of the numbers -/
def NumsAny (l : List Int) (w : World) (e : Ending) (w' : World) : Prop :=
  Below w.heap.size w w' ∧ ∃ A n c, e = .returned (.tuple #[.slice A n c, .int .i64 (if numsBad l then 10 else 0)]) ∧ Rd w' A n ((if numsBad l then [] else numsN l).map bv) ∧ n ≤ maxLen
theorem NumsPost.any {l : List Int} {w w' : World} {e : Ending} (h : NumsPost l w e w') : NumsAny l w e w' := by
  obtain ⟨hb, ⟨h0, rfl⟩ | ⟨h0, A, n, c, rfl, ho⟩⟩ := h
  · exact ⟨hb, none, 0, 0, by rw [h0]; rfl, by rw [h0]; exact Rd.nil_ _ _, by simp [maxLen]⟩
  · exact ⟨hb, A, n, c, by rw [h0]; rfl, by rw [h0]; exact ho.rd, Nat.le_trans (own_cap ho).1 (own_cap ho).2⟩
def IntsAny (l : List UInt8) (w : World) (e : Ending) (w' : World) : Prop :=
  Below w.heap.size w w' ∧ ∃ A n c, e = .returned (.tuple #[.slice A n c, .int .i64 (intsN l).1]) ∧ Rd w' A n ((if (intsN l).1 = 0 then (intsN l).2 else []).map iv) ∧ n ≤ maxLen
theorem IntsPost.any {l : List UInt8} {w w' : World} {e : Ending} (h : IntsPost l w e w') : IntsAny l w e w' := by
  obtain ⟨hb, ⟨h0, rfl⟩ | ⟨h0, A, n, c, rfl, ho⟩⟩ := h
  · exact ⟨hb, none, 0, 0, rfl, by rw [if_neg h0]; exact Rd.nil_ _ _, by simp [maxLen]⟩
  · exact ⟨hb, A, n, c, by rw [h0]; rfl, by rw [if_pos h0]; exact ho.rd, ho.cap⟩

set_option maxHeartbeats 1600000 in
theorem packLists_small (w : World) (A B : Option Addr) (n c m d : Nat) (l : List Int) (b : List UInt8) (hn : n ≤ 3000) (hm : m ≤ 3000) (h : Rd w A n (l.map iv)) (hb : Rd w B m (b.map bv)) (hmd : m ≤ d) (hd : d ≤ maxLen) :
    Calls Try.prog 8 #[.slice A n c, .slice B m d] w (Tr w) := by
  have HR := Lib.hid h
  have HB := Lib.hid hb
  have HMD := Lib.hid hmd
  have HD := Lib.hid hd
  have hbl : b.length = m := by simpa using hb.1
  have HBL := Lib.hid hbl
  clear h hb hmd hd hbl
  go_enter Try.func8, Try.ntmps8
  go_wp2_with fail
  refine (aliveNum_ok _).mono ?_
  rintro e w1 ⟨rfl, hb1⟩
  go_wp2_with fail
  refine (aliveRead_ok _).mono ?_
  rintro e w2 ⟨rfl, hb2⟩
  have HB2 := Lib.hid (hb1.trans (hb2.mono hb1.size))
  clear hb1 hb2
  go_wp2_with fail
  refine (copyInts_any A n c l w2 (HR.out.below HB2.out) (by omega)).mono ?_
  rintro e w3 ⟨⟨A3, c3, rfl, ho3⟩, hb3⟩
  have HO3 := Lib.hid ho3
  have HB3 := Lib.hid (HB2.out.trans (hb3.mono HB2.out.size))
  clear ho3 hb3
  go_wp2_with fail
  refine ((nums_any A3 n c3 l w3 HO3.out.rd (by omega)).mono fun _ _ hh => hh.any).mono ?_
  rintro e w4 ⟨hb4, A4, n4, c4, rfl, hr4, hm4⟩
  have HR4 := Lib.hid hr4
  have HM4 := Lib.hid hm4
  have HB4 := Lib.hid (HB3.out.trans (hb4.mono HB3.out.size))
  have HO4 := Lib.hid (HO3.out.below hb4)
  clear hr4 hm4 hb4
  have EK := Lib.hid (show ∃ k : Int, k = (if numsBad l = true then (10 : Int) else 0) from ⟨_, rfl⟩)
  obtain ⟨k, hk⟩ := EK.out
  rw [← hk]
  have HK := Lib.hid hk
  clear hk EK
  go_wp2_with fail
  refine ((refNums_any A n c l w4 (HR.out.below HB4.out) (by omega)).mono fun _ _ hh => hh.any).mono ?_
  rintro e w5 ⟨hb5, A5, n5, c5, rfl, hr5, hm5⟩
  rw [← HK.out]
  have HR5 := Lib.hid hr5
  have HB5 := Lib.hid (HB4.out.trans (hb5.mono HB4.out.size))
  have HB45 := Lib.hid hb5
  clear hr5 hm5 hb5
  go_wp2_with fail
  refine (copyBytes_any B m d b w5 (HB.out.below HB5.out) (by omega)).mono ?_
  rintro e w6 ⟨A6, n6, c6, rfl, ho6, hb6⟩
  have hn6 : n6 = m := by have := OwnB.len ho6; have := HBL.out; omega
  subst hn6
  have HC6 := Lib.hid (own_cap ho6)
  have HO6 := Lib.hid ho6
  have HB6 := Lib.hid (HB5.out.trans (hb6.mono HB5.out.size))
  have HB56 := Lib.hid hb6
  clear ho6 hb6
  go_wp2_with fail
  refine ((ints_any A6 n6 c6 b w6 HO6.out.rd HC6.out.1 HC6.out.2 (by omega)).mono fun _ _ hh => hh.any).mono ?_
  rintro e w7 ⟨hb7, A7, n7, c7, rfl, hr7, hm7⟩
  have HR7 := Lib.hid hr7
  have HM7 := Lib.hid hm7
  have HB7 := Lib.hid (HB6.out.trans (hb7.mono HB6.out.size))
  have HB67 := Lib.hid hb7
  clear hr7 hm7 hb7
  go_wp2_with fail
  refine ((refInts_any B n6 d b w7 (HB.out.below HB7.out) HMD.out HD.out (by omega)).mono fun _ _ hh => hh.any).mono ?_
  rintro e w8 ⟨hb8, A8, n8, c8, rfl, hr8, hm8⟩
  have HR8 := Lib.hid hr8
  have HB8 := Lib.hid (HB7.out.trans (hb8.mono HB7.out.size))
  have HX48 := Lib.hid (((HB45.out.trans (HB56.out.mono HB45.out.size)).trans (HB67.out.mono (Nat.le_trans HB45.out.size HB56.out.size))).trans (hb8.mono (Nat.le_trans (Nat.le_trans HB45.out.size HB56.out.size) HB67.out.size)))
  have HX58 := Lib.hid ((HB56.out.trans (HB67.out.mono HB56.out.size)).trans (hb8.mono (Nat.le_trans HB56.out.size HB67.out.size)))
  have HX78 := Lib.hid hb8
  clear hr8 hm8 hb8
  go_wp2_with fail
  refine (sameBytes_self A4 A5 n4 n5 c4 c5 _ (if numsBad l then [] else numsN l) (HR4.out.below HX48.out) (HR5.out.below HX58.out) HM4.out).mono ?_
  rintro e w9 ⟨rfl, k9, rfl⟩
  go_wp2_with fail
  refine (sameInts_self A3 A n n c3 c _ l ((HO4.out.below HX48.out).rd.drewN k9) ((HR.out.below HB8.out).drewN k9) (by simp only [maxLen]; omega)).mono ?_
  rintro e w10 ⟨rfl, k10, rfl⟩
  go_wp2_with fail
  refine (sameInts_self A7 A8 n7 n8 c7 c8 _ (if (intsN b).1 = 0 then (intsN b).2 else []) ((HR7.out.below HX78.out).drewN _) (HR8.out.drewN _) HM7.out).mono ?_
  rintro e w11 ⟨rfl, k11, rfl⟩
  go_wp2_with fail
  go_ret
  exact ⟨rfl, below_drewN HB8.out _⟩

theorem packLists_walk (w : World) (v : Value) (l : List Int) (h : InI w v l) (x : Value) (b : List UInt8) (hx : InB w x b) : Calls Try.prog 8 #[v, x] w (Tr w) := by
  obtain ⟨A, n, c, rfl, hc, hm, hr, _⟩ := h
  obtain ⟨B, m, d, rfl, hd, hmd, hb, _⟩ := hx
  by_cases hbig : 3000 < n ∨ 3000 < m
  · exact packLists_big w A B n c m d hbig (by omega) (by omega)
  · exact packLists_small w A B n c m d l b (by omega) (by omega) hr hb hd hmd
end Go.Proofs.Ytgniocgcfldiaaa
