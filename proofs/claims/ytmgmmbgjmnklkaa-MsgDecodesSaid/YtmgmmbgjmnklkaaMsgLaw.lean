/-
  What the laws of messages share: alive. A walk; no statement.
-/
import Derived.Test.YtmgmmbgjmnklkaaMsgTwoWay
namespace Go.Proofs.Ytmgmmbgjmnklkaa
set_option maxRecDepth 100000
open Go.RowKit
open Pk
set_option linter.unusedVariables false

def mgA : Mg := ⟨13, 0, 3, 0, 0, ⟨0, 0, 0, []⟩, [], [], [], []⟩
def enA : En := ⟨-1, 0, 0, []⟩
theorem enc_mgA : mgA.encode = (0, [1, 13, 1, 3]) := by decide +kernel
theorem dec_mgA : decMg [1, 13, 1, 3] = some mgA := by decide +kernel
theorem enc_enA : enA.encode = (0, [3, 0, 0, 0, 0]) := by decide +kernel
theorem MgR.nil_ (w : World) : MgR AllB w mgA ⟨none, 0, none, 0, none, 0, none, 0, none, 0⟩ := ⟨BF.nil_ _ _, BF.nil_ _ _, BF.nil_ _ _, RdS.nil_ _ _ _, RdS.nil_ _ _ _⟩
theorem wf_mgA : mgA.wf := by
  have z : I64 0 := by unfold I64; omega
  have z3 : I64 3 := by unfold I64; omega
  exact ⟨z, z3, z, z, z, z, z⟩
theorem encA_any (w : World) : Calls Try.prog 13 #[.agg #[.int .i64 13, .int .i64 0, .int .i64 3, .int .i64 0, .int .i64 0, .int .i64 0, .int .i64 0, .int .i64 0, .slice none 0 0, .slice none 0 0, .slice none 0 0, .slice none 0 0, .slice none 0 0]] w (EncP (0, [1, 13, 1, 3]) w) := by
  have := encode_any mgA ⟨none, 0, none, 0, none, 0, none, 0, none, 0⟩ w (MgR.nil_ w) wf_mgA
  rw [enc_mgA] at this
  exact this
theorem packA_any (w : World) : Calls Try.prog 24 #[.agg #[.int .i64 (-1), .int .i64 0, .int .i64 0, .slice none 0 0]] w (EncP (0, [3, 0, 0, 0, 0]) w) := by
  have := packEntryX_any enA none 0 w (BF.nil_ _ _)
  rw [enc_enA] at this
  exact this
theorem decA_any (w : World) (L : Option Addr) (n c : Nat) (h : Sl w L n c [1, 13, 1, 3]) : Calls Try.prog 18 #[.slice L n c] w fun e w' => Below w.heap.size w w' ∧ ∃ q : Mad, e = .returned (.tuple #[.agg #[.int .i64 13, .int .i64 0, .int .i64 3, .int .i64 0, .int .i64 0, .int .i64 0, .int .i64 0, .int .i64 0, .slice q.ea 0 q.ec, .slice q.ga 0 q.gc, .slice q.da 0 q.dc, .slice q.pa 0 q.pc, .slice q.va 0 q.vc], .int .i64 0]) := by
  have hl := h.len
  refine (decode_any L n c _ w h (by simp at hl; omega)).mono ?_
  rintro e w' ⟨hb, ⟨m, q, hd, rfl, _⟩ | ⟨hd, _⟩⟩
  · rw [dec_mgA] at hd
    injection hd with hd
    subst hd
    exact ⟨hb, q, rfl⟩
  · rw [dec_mgA] at hd
    cases hd
theorem sl_four (w : World) (l : List UInt8) (h : l.length ≤ maxLen) : Sl (w.alloc (.cells (l.map bv).toArray 5)) (some ⟨w.heap.size, 0, none⟩) l.length l.length l :=
  ⟨Nat.le_refl _, h, by have := Rd.new w (l.map bv) 5; rwa [List.length_map] at this, fun e => by cases e⟩
theorem sameB_two {w : World} {A A' : Option Addr} {n n' c c' : Nat} {l : List UInt8} (h : Sl w A n c l) (h' : Sl w A' n' c' l) :
    Calls Try.prog 15 #[.slice A n c, .slice A' n' c'] w (Tells (.bool true) w) :=
  (sameBytes_self A A' n n' c c' w l h.rd h'.rd (Nat.le_trans h.1 h.2.1)).mono (by rintro e w1 ⟨rfl, k, rfl⟩; exact ⟨rfl, below_drewN (Below.refl _ _) k⟩)

set_option maxHeartbeats 1600000 in
theorem alive_ok (w : World) : Calls Try.prog 10 #[] w (Tr w) := by
  go_enter Try.func10, Try.ntmps10
  go_wp2_with fail
  refine (encA_any _).mono ?_
  rintro e w1 ⟨hb1, A1, n1, c1, rfl, ho1⟩
  have HB1 := Lib.hid hb1
  have HO1 := Lib.hid (Sl.own ho1)
  have hal1 := (Below.refl w1.heap.size w1).alloc (Nat.le_refl _) (.cells #[.int .u8 1, .int .u8 13, .int .u8 1, .int .u8 3] 5)
  have HS1 := Lib.hid (show Sl (w1.alloc (.cells #[.int .u8 1, .int .u8 13, .int .u8 1, .int .u8 3] 5)) (some ⟨w1.heap.size, 0, none⟩) 4 4 [1, 13, 1, 3] from sl_four w1 [1, 13, 1, 3] (by simp [maxLen]))
  have HB2 := Lib.hid (below_next HB1.out hal1 HB1.out.size)
  have HO2 := Lib.hid (HO1.out.below hal1)
  clear hb1 ho1 hal1
  go_wp2_with fail
  refine (decA_any _ _ _ _ HS1.out).mono ?_
  rintro e w2 ⟨hb2, q, rfl⟩
  have HB3 := Lib.hid (below_next HB2.out hb2 HB2.out.size)
  have HO3 := Lib.hid (HO2.out.below hb2)
  have hal2 := (Below.refl w2.heap.size w2).alloc (Nat.le_refl _) (.cells #[.int .i64 13, .int .i64 0, .int .i64 3, .int .i64 0, .int .i64 0, .int .i64 0, .int .i64 0, .int .i64 0, .slice q.ea 0 q.ec, .slice q.ga 0 q.gc, .slice q.da 0 q.dc, .slice q.pa 0 q.pc, .slice q.va 0 q.vc] 28)
  have HB4 := Lib.hid (below_next HB3.out hal2 HB3.out.size)
  have HO4 := Lib.hid (HO3.out.below hal2)
  have HK4 := Lib.hid (Bk.new w2 28 [.int .i64 13, .int .i64 0, .int .i64 3, .int .i64 0, .int .i64 0, .int .i64 0, .int .i64 0, .int .i64 0, .slice q.ea 0 q.ec, .slice q.ga 0 q.gc, .slice q.da 0 q.dc, .slice q.pa 0 q.pc, .slice q.va 0 q.vc])
  clear hb2 hal2
  go_wp2_with fail
  refine (packA_any _).mono ?_
  rintro e w3 ⟨hb3, A3, n3, c3, rfl, ho3⟩
  have HB5 := Lib.hid (below_next HB4.out hb3 HB4.out.size)
  have HO5 := Lib.hid (HO4.out.below hb3)
  have HK5 := Lib.hid (HK4.out.kept hb3)
  have HP5 := Lib.hid (Sl.own ho3)
  have hal3 := (Below.refl w3.heap.size w3).alloc (Nat.le_refl _) (.cells #[.int .u8 1, .int .u8 13, .int .u8 1, .int .u8 3] 5)
  have HS6 := Lib.hid (show Sl (w3.alloc (.cells #[.int .u8 1, .int .u8 13, .int .u8 1, .int .u8 3] 5)) (some ⟨w3.heap.size, 0, none⟩) 4 4 [1, 13, 1, 3] from sl_four w3 [1, 13, 1, 3] (by simp [maxLen]))
  have HB6 := Lib.hid (below_next HB5.out hal3 HB5.out.size)
  have HO6 := Lib.hid (HO5.out.below hal3)
  have HK6 := Lib.hid (HK5.out.kept hal3)
  have HP6 := Lib.hid (HP5.out.below hal3)
  clear hb3 ho3 hal3
  go_wp2_with fail
  refine (sameB_two HO6.out HS6.out).mono ?_
  rintro e w4 ⟨rfl, hb4⟩
  have HB7 := Lib.hid (below_next HB6.out hb4 HB6.out.size)
  have k2 := (HK6.out.kept hb4).at_ (i := 2) rfl
  have HP7 := Lib.hid (HP6.out.below hb4)
  have hal4 := (Below.refl w4.heap.size w4).alloc (Nat.le_refl _) (.cells #[.int .u8 3, .int .u8 0, .int .u8 0, .int .u8 0, .int .u8 0] 5)
  have HS8 := Lib.hid (show Sl (w4.alloc (.cells #[.int .u8 3, .int .u8 0, .int .u8 0, .int .u8 0, .int .u8 0] 5)) (some ⟨w4.heap.size, 0, none⟩) 5 5 [3, 0, 0, 0, 0] from sl_four w4 [3, 0, 0, 0, 0] (by simp [maxLen]))
  have HB8 := Lib.hid (below_next HB7.out hal4 HB7.out.size)
  have HP8 := Lib.hid (HP7.out.below hal4)
  clear hb4 hal4
  go_wp2_with fail
  refine (sameB_two HP8.out HS8.out).mono ?_
  rintro e w5 ⟨rfl, hb5⟩
  have HB9 := Lib.hid (below_next HB8.out hb5 HB8.out.size)
  clear hb5
  go_wp2_with fail
  go_ret
  exact ⟨rfl, HB9.out⟩
end Go.Proofs.Ytmgmmbgjmnklkaa
