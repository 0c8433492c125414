/-
  A node found in a tree. Walks; no statement.
-/
import Derived.Test.YtgppclmofphlfaaGreatDoorTreeDev2
namespace Go.Proofs.YtgppclmofphlfaaGreatDoor
set_option maxRecDepth 100000
open Go.RowKit
set_option linter.unusedVariables false

/-- a node or the error; its data are the tree's own -/
def FndP (F : Nat → Prop) (r : Option Lf × Int) (w : World) (e : Ending) (w' : World) : Prop :=
  Below w.heap.size w w' ∧ match r.1 with
    | some l => ∃ A c, e = .returned (.tuple #[.agg #[.string ⟨l.path.toArray⟩, .slice A l.data.length c, .int .i64 l.ver, .int .i64 l.own, .int .i64 l.next, .int .i64 l.born], .int .i64 r.2]) ∧ BF F w' A c l.data
    | none => e = .returned (.tuple #[.agg #[.string ⟨#[]⟩, .slice none 0 0, .int .i64 0, .int .i64 0, .int .i64 0, .int .i64 0], .int .i64 r.2])
/-- the blocks of F that are there -/
def Lw (F : Nat → Prop) (w : World) : Nat → Prop := fun k => F k ∧ k < w.heap.size
theorem TreeAt.low {F : Nat → Prop} {w : World} {g : Nat} {t : List Lf} (h : TreeAt F w g t) : TreeAt (Lw F w) w g t := h.more fun k hk hl => ⟨hk, hl⟩
theorem bf_low {F : Nat → Prop} {w w' : World} {A : Option Addr} {c : Nat} {l : List UInt8} (h : BF (Lw F w) w' A c l) : BF F w' A c l := h.keep ⟨Nat.le_refl _, fun _ _ _ => rfl⟩ fun k hk _ => hk.1
theorem path_le {q : List UInt8} {up : List (List UInt8)} (h : partsOf q = some up) : q.length ≤ 64 := (whole_parts h).2.2
set_option maxHeartbeats 3200000 in
theorem find_any (g : Nat) (t : List Lf) (F : Nat → Prop) (p : ByteArray) (w : World) (hE : Env w) (hT : TreeAt F w g t) :
    Calls Tryz.prog 47 #[.pointer (some ⟨g, 0, none⟩), .string p] w (FndP F (tGet p.data.toList t) w) := by
  obtain ⟨q, rfl⟩ : ∃ l : List UInt8, p = ⟨l.toArray⟩ := ⟨p.data.toList, (sv_of p).symm⟩
  show Calls _ _ _ _ (FndP F (tGet q t) w)
  obtain ⟨W1, hW1⟩ : ∃ W1, W1 = w.alloc (.cells #[.string ⟨#[]⟩, .slice none 0 0, .int .i64 0, .int .i64 0, .int .i64 0, .int .i64 0] 50) := ⟨_, rfl⟩
  have HB1 := Lib.hid (show Below w.heap.size w W1 by rw [hW1]; exact (Below.refl w.heap.size w).alloc (Nat.le_refl _) _)
  have HS1 := Lib.hid (show W1.heap.size = w.heap.size + 1 by rw [hW1]; simp)
  have HK1 := Lib.hid (show Bk W1 w.heap.size 50 [.string ⟨#[]⟩, .slice none 0 0, .int .i64 0, .int .i64 0, .int .i64 0, .int .i64 0] by rw [hW1]; exact Bk.new w 50 [.string ⟨#[]⟩, .slice none 0 0, .int .i64 0, .int .i64 0, .int .i64 0, .int .i64 0])
  have HC := Lib.hid (check_any ⟨q.toArray⟩ W1 (hE.below HB1.out))
  have HWE := Lib.hid hW1
  have HT := Lib.hid hT.low
  clear hE hT hW1
  rcases Option.eq_none_or_eq_some (partsOf q) with e | ⟨up, e⟩
  · have HV := Lib.hid (show tGet q t = (none, 90) by unfold tGet; rw [if_pos e])
    replace HC := Lib.hid (show Calls _ _ _ _ (Ans (.int .i64 90) W1) by have := HC.out; rw [show (⟨q.toArray⟩ : ByteArray).data.toList = q from rfl, e] at this; exact this)
    clear e
    go_enter Tryz.func47, Tryz.ntmps47
    go_wp2_with fail
    rw [← HWE.out]
    refine HC.out.mono ?_
    rintro e w1 ⟨rfl, hb1⟩
    have HX := Lib.hid (HB1.out.trans (hb1.mono HB1.out.size))
    have hk := HK1.out.kept hb1
    clear hb1
    go_wp2_with (refine wpList_store_bkT rfl 50 _ _ rfl w.heap.size [.string ⟨#[]⟩, .slice none 0 0, .int .i64 0, .int .i64 0, .int .i64 0, .int .i64 0] rfl rfl 50 [.string ⟨#[]⟩, .slice none 0 0, .int .i64 0, .int .i64 0, .int .i64 0, .int .i64 0] hk rfl info_leaf1 rfl ?_; intro w99 hk99 hg99)
    refine bodyPost_ret_by (results_row_tmp rfl _ _ w.heap.size 50 _ _ rfl hk99.out Tryz.underlying50 rfl info_leaf1) rfl ?_
    rw [HV.out]
    exact ⟨HX.out.grown hg99.out HX.out.size (fun g hg => by injection hg with hg; omega), rfl⟩
  · replace HC := Lib.hid (show Calls _ _ _ _ (Ans (.int .i64 0) W1) by have := HC.out; rw [show (⟨q.toArray⟩ : ByteArray).data.toList = q from rfl, e] at this; exact this)
    have hq : q.length ≤ maxLen := by have := path_le e; simp only [maxLen]; omega
    have HQ := Lib.hid hq
    cases hat : tAt q t with
    | none =>
      have HV := Lib.hid (show tGet q t = (none, 100) by unfold tGet; rw [e, hat]; rfl)
      have HAT := Lib.hid hat
      clear e hat hq
      go_enter Tryz.func47, Tryz.ntmps47
      go_wp2_with fail
      rw [← HWE.out]
      refine HC.out.mono ?_
      rintro e w1 ⟨rfl, hb1⟩
      have HX := Lib.hid (HB1.out.trans (hb1.mono HB1.out.size))
      have hk := HK1.out.kept hb1
      obtain ⟨b, hkg, hFg, hFb, hm⟩ := HT.out.below HX.out
      have g0 : w1.cell? ⟨g, 0, none⟩ = some (.map (some b)) := hkg.at_ rfl
      have hlk : (Instr.lookup 74 (.map (some b)) (.string ⟨q.toArray⟩) true).run Tryz.prog w1 = .ok (.tuple #[.agg #[.string ⟨#[]⟩, .slice none 0 0, .int .i64 0, .int .i64 0, .int .i64 0, .int .i64 0], .bool false]) w1 := hm.look_no true HAT.out HQ.out
      have HS2 := Lib.hid (show w.heap.size + 1 ≤ w1.heap.size by have := hb1.size; have := HS1.out; omega)
      clear hb1 hkg hFg hFb hm
      go_wp2_with (refine wpList_store_bkT rfl 50 _ _ rfl w.heap.size [.string ⟨#[]⟩, .slice none 0 0, .int .i64 0, .int .i64 0, .int .i64 0, .int .i64 0] rfl rfl 50 [.string ⟨#[]⟩, .slice none 0 0, .int .i64 0, .int .i64 0, .int .i64 0, .int .i64 0] (hk.alloc _) rfl info_leaf1 rfl ?_; intro w99 hk99 hg99)
      refine bodyPost_ret_by (results_row_tmp rfl _ _ w.heap.size 50 _ _ rfl hk99.out Tryz.underlying50 rfl info_leaf1) rfl ?_
      rw [HV.out]
      exact ⟨(HX.out.alloc HX.out.size _).grown hg99.out (by have := HX.out.size; simp; omega) (fun g hg => by injection hg with hg; omega), rfl⟩
    | some k =>
      obtain ⟨l, hl, hlp⟩ := tAt_mem hat
      have HV := Lib.hid (show tGet q t = (some l, 0) by unfold tGet; rw [e, hat]; simp [List.getD, hl])
      have HAT := Lib.hid hat
      have HL := Lib.hid hl
      clear e hat hq hl hlp
      go_enter Tryz.func47, Tryz.ntmps47
      go_wp2_with fail
      rw [← HWE.out]
      refine HC.out.mono ?_
      rintro e w1 ⟨rfl, hb1⟩
      have HX := Lib.hid (HB1.out.trans (hb1.mono HB1.out.size))
      have hk := HK1.out.kept hb1
      obtain ⟨b, hkg, hFg, hFb, hm⟩ := HT.out.below HX.out
      have g0 : w1.cell? ⟨g, 0, none⟩ = some (.map (some b)) := hkg.at_ rfl
      obtain ⟨A, c, hbf, hrun⟩ := hm.look_yes true HAT.out HL.out HQ.out
      have hlk : (Instr.lookup 74 (.map (some b)) (.string ⟨q.toArray⟩) true).run Tryz.prog w1 = .ok (.tuple #[.agg #[.string ⟨l.path.toArray⟩, .slice A l.data.length c, .int .i64 l.ver, .int .i64 l.own, .int .i64 l.next, .int .i64 l.born], .bool true]) w1 := hrun
      have HS2 := Lib.hid (show w.heap.size + 1 ≤ w1.heap.size by have := hb1.size; have := HS1.out; omega)
      have HBF := Lib.hid hbf
      clear hb1 hkg hFg hFb hm hrun hbf
      go_wp2_with (refine wpList_store_bkT rfl 50 _ _ rfl w.heap.size [.string ⟨l.path.toArray⟩, .slice A l.data.length c, .int .i64 l.ver, .int .i64 l.own, .int .i64 l.next, .int .i64 l.born] rfl rfl 50 [.string ⟨#[]⟩, .slice none 0 0, .int .i64 0, .int .i64 0, .int .i64 0, .int .i64 0] (hk.alloc _) rfl info_leaf1 rfl ?_; intro w99 hk99 hg99)
      refine bodyPost_ret_by (results_row_tmp rfl _ _ w.heap.size 50 _ _ rfl hk99.out Tryz.underlying50 rfl info_leaf1) rfl ?_
      rw [HV.out]
      refine ⟨(HX.out.alloc HX.out.size _).grown hg99.out (by have := HX.out.size; simp; omega) (fun g hg => by injection hg with hg; omega), A, c, rfl, ?_⟩
      exact bf_low (bf_set (HBF.out.below ((Below.refl _ _).alloc (Nat.le_refl _) _)) hg99.out fun k hk e => by have := hk.2; omega)
/-- a node that may have children -/
def tHold (p : List UInt8) (t : List Lf) : Option Lf × Int := match tGet p t with
  | (some l, n) => if l.own = -1 then (some l, n) else (none, 105)
  | r => r
theorem tGet_cases (q : List UInt8) (t : List Lf) : (∃ l, tGet q t = (some l, 0) ∧ l.path = q ∧ l ∈ t ∧ (partsOf q).isSome = true) ∨ ∃ n : Int, tGet q t = (none, n) ∧ (n = 90 ∨ n = 100) := by
  unfold tGet
  split
  · exact .inr ⟨90, rfl, .inl rfl⟩
  · rename_i hp
    split
    · exact .inr ⟨100, rfl, .inr rfl⟩
    · rename_i k hk
      obtain ⟨l, hl, hp2⟩ := tAt_mem hk
      refine .inl ⟨l, by simp [List.getD, hl], hp2, List.mem_of_getElem? hl, ?_⟩
      cases h : partsOf q with
      | none => exact absurd h hp
      | some u => rfl
set_option maxHeartbeats 3200000 in
theorem findHolder_any (g : Nat) (t : List Lf) (F : Nat → Prop) (p : ByteArray) (w : World) (hE : Env w) (hT : TreeAt F w g t) :
    Calls Tryz.prog 40 #[.pointer (some ⟨g, 0, none⟩), .string p] w (FndP F (tHold p.data.toList t) w) := by
  obtain ⟨q, rfl⟩ : ∃ l : List UInt8, p = ⟨l.toArray⟩ := ⟨p.data.toList, (sv_of p).symm⟩
  show Calls _ _ _ _ (FndP F (tHold q t) w)
  obtain ⟨W1, hW1⟩ : ∃ W1, W1 = w.alloc (.cells #[.string ⟨#[]⟩, .slice none 0 0, .int .i64 0, .int .i64 0, .int .i64 0, .int .i64 0] 50) := ⟨_, rfl⟩
  have HB1 := Lib.hid (show Below w.heap.size w W1 by rw [hW1]; exact (Below.refl w.heap.size w).alloc (Nat.le_refl _) _)
  have HS1 := Lib.hid (show W1.heap.size = w.heap.size + 1 by rw [hW1]; simp)
  have HK1 := Lib.hid (show Bk W1 w.heap.size 50 [.string ⟨#[]⟩, .slice none 0 0, .int .i64 0, .int .i64 0, .int .i64 0, .int .i64 0] by rw [hW1]; exact Bk.new w 50 [.string ⟨#[]⟩, .slice none 0 0, .int .i64 0, .int .i64 0, .int .i64 0, .int .i64 0])
  have HC := Lib.hid (find_any g t (Lw F w) ⟨q.toArray⟩ W1 (hE.below HB1.out) (hT.low.below HB1.out))
  have HWE := Lib.hid hW1
  clear hE hT hW1
  rcases tGet_cases q t with ⟨l, e, -⟩ | ⟨n, e, hn⟩
  · replace HC := Lib.hid (show Calls _ _ _ _ (FndP (Lw F w) (some l, 0) W1) by have := HC.out; rw [show (⟨q.toArray⟩ : ByteArray).data.toList = q from rfl, e] at this; exact this)
    by_cases ho : l.own = -1
    · have HV := Lib.hid (show tHold q t = (some l, 0) by unfold tHold; rw [e]; exact if_pos ho)
      have hb : (l.own != -1) = false := by simp [ho]
      clear e
      go_enter Tryz.func40, Tryz.ntmps40
      go_wp2_with fail
      rw [← HWE.out]
      refine HC.out.mono ?_
      rintro e w1 ⟨hb1, A, c, rfl, hbf⟩
      have HX := Lib.hid (HB1.out.trans (hb1.mono HB1.out.size))
      have hk := HK1.out.kept hb1
      have HS2 := Lib.hid (show w.heap.size + 1 ≤ w1.heap.size by have := hb1.size; have := HS1.out; omega)
      have HBF := Lib.hid hbf
      clear hb1 hbf ho
      go_wp2_with (first
        | (refine wpList_load_row rfl 50 _ rfl w1.heap.size rfl 50 #[.string ⟨l.path.toArray⟩, .slice A l.data.length c, .int .i64 l.ver, .int .i64 l.own, .int .i64 l.next, .int .i64 l.born] (0, 0) _ (Bk.new w1 50 [.string ⟨l.path.toArray⟩, .slice A l.data.length c, .int .i64 l.ver, .int .i64 l.own, .int .i64 l.next, .int .i64 l.born]) Tryz.underlying50 rfl info_leaf1 ?_)
        | (refine wpList_store_bkT rfl 50 _ _ rfl w.heap.size [.string ⟨l.path.toArray⟩, .slice A l.data.length c, .int .i64 l.ver, .int .i64 l.own, .int .i64 l.next, .int .i64 l.born] rfl rfl 50 [.string ⟨#[]⟩, .slice none 0 0, .int .i64 0, .int .i64 0, .int .i64 0, .int .i64 0] (hk.alloc _) rfl info_leaf1 rfl ?_; intro w99 hk99 hg99))
      refine bodyPost_ret_by (results_row_tmp rfl _ _ w.heap.size 50 _ _ rfl hk99.out Tryz.underlying50 rfl info_leaf1) rfl ?_
      rw [HV.out]
      refine ⟨(HX.out.alloc HX.out.size _).grown hg99.out (by have := HX.out.size; simp; omega) (fun g hg => by injection hg with hg; omega), A, c, rfl, ?_⟩
      exact bf_low (bf_set (HBF.out.below ((Below.refl _ _).alloc (Nat.le_refl _) _)) hg99.out fun k hk e => by have := hk.2; omega)
    · have HV := Lib.hid (show tHold q t = (none, 105) by unfold tHold; rw [e]; exact if_neg ho)
      have hb : (l.own != -1) = true := by simpa using ho
      clear e ho
      go_enter Tryz.func40, Tryz.ntmps40
      go_wp2_with fail
      rw [← HWE.out]
      refine HC.out.mono ?_
      rintro e w1 ⟨hb1, A, c, rfl, hbf⟩
      have HX := Lib.hid (HB1.out.trans (hb1.mono HB1.out.size))
      have hk := HK1.out.kept hb1
      clear hb1 hbf
      go_wp2_with (refine wpList_store_bkT rfl 50 _ _ rfl w.heap.size [.string ⟨#[]⟩, .slice none 0 0, .int .i64 0, .int .i64 0, .int .i64 0, .int .i64 0] rfl rfl 50 [.string ⟨#[]⟩, .slice none 0 0, .int .i64 0, .int .i64 0, .int .i64 0, .int .i64 0] (hk.alloc _) rfl info_leaf1 rfl ?_; intro w99 hk99 hg99)
      refine bodyPost_ret_by (results_row_tmp rfl _ _ w.heap.size 50 _ _ rfl hk99.out Tryz.underlying50 rfl info_leaf1) rfl ?_
      rw [HV.out]
      exact ⟨(HX.out.alloc HX.out.size _).grown hg99.out (by have := HX.out.size; simp; omega) (fun g hg => by injection hg with hg; omega), rfl⟩
  · replace HC := Lib.hid (show Calls _ _ _ _ (FndP (Lw F w) (none, n) W1) by have := HC.out; rw [show (⟨q.toArray⟩ : ByteArray).data.toList = q from rfl, e] at this; exact this)
    have HV := Lib.hid (show tHold q t = (none, n) by unfold tHold; rw [e])
    have hb : (n != 0) = true := by rcases hn with rfl | rfl <;> rfl
    clear e hn
    go_enter Tryz.func40, Tryz.ntmps40
    go_wp2_with fail
    rw [← HWE.out]
    refine HC.out.mono ?_
    rintro e w1 ⟨hb1, rfl⟩
    have HX := Lib.hid (HB1.out.trans (hb1.mono HB1.out.size))
    have hk := HK1.out.kept hb1
    clear hb1
    go_wp2_with (refine wpList_store_bkT rfl 50 _ _ rfl w.heap.size [.string ⟨#[]⟩, .slice none 0 0, .int .i64 0, .int .i64 0, .int .i64 0, .int .i64 0] rfl rfl 50 [.string ⟨#[]⟩, .slice none 0 0, .int .i64 0, .int .i64 0, .int .i64 0, .int .i64 0] (hk.alloc _) rfl info_leaf1 rfl ?_; intro w99 hk99 hg99)
    refine bodyPost_ret_by (results_row_tmp rfl _ _ w.heap.size 50 _ _ rfl hk99.out Tryz.underlying50 rfl info_leaf1) rfl ?_
    rw [HV.out]
    exact ⟨(HX.out.alloc HX.out.size _).grown hg99.out (by have := HX.out.size; simp; omega) (fun g hg => by injection hg with hg; omega), rfl⟩
end Go.Proofs.YtgppclmofphlfaaGreatDoor
