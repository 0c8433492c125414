import Derived.Test.YtgppclmofphlfaaGreatDoorMTreeA
import Derived.Test.YtgppclmofphlfaaGreatDoorMPathD
import Derived.Test.YtgppclmofphlfaaGreatDoorMBase
import Derived.Test.YtgppclmofphlfaaGreatDoorMRows
import Derived.Test.YtgppclmofphlfaaGreatDoorIter
import Derived.Shelf.Abstract
import Derived.TacticsInMore
import Derived.OwnWalkIn

/-
  A node copied, and what is asked of one. Walks; no statement.
-/
namespace Go.Proofs.YtgppclmofphlfaaGreatDoor
set_option maxRecDepth 100000
open Go.RowKit
set_option linter.unusedVariables false

theorem info_str1 : (Tryz.prog.info? 9).map (·.size) = some 1 := by kernel_rfl
theorem info_bytes1 : (Tryz.prog.info? 32).map (·.size) = some 1 := by kernel_rfl
/-- a node in new memory -/
def CopyP (l : Lf) (w : World) (e : Ending) (w' : World) : Prop :=
  Below w.heap.size w w' ∧ ∃ A c, e = .returned (.agg (lfC l A c).toArray) ∧ BF (From w.heap.size) w' A c l.data
set_option maxHeartbeats 1600000 in
theorem copied_any (l : Lf) (A : Option Addr) (c : Nat) (F : Nat → Prop) (w : World) (hB : BF F w A c l.data) (hp : l.path.length ≤ 64) (hd : l.data.length ≤ 1000) :
    Calls Tryz.prog 52 #[.agg (lfC l A c).toArray] w (CopyP l w) := by
  show Calls _ _ #[.agg #[.string ⟨l.path.toArray⟩, .slice A l.data.length c, .int .i64 l.ver, .int .i64 l.own, .int .i64 l.next, .int .i64 l.born]] _ _
  obtain ⟨W2, hW2⟩ : ∃ W2, W2 = (w.alloc (.cells #[.string ⟨l.path.toArray⟩, .slice A l.data.length c, .int .i64 l.ver, .int .i64 l.own, .int .i64 l.next, .int .i64 l.born] 50)).alloc (.cells #[.string ⟨#[]⟩, .slice none 0 0, .int .i64 0, .int .i64 0, .int .i64 0, .int .i64 0] 50) := ⟨_, rfl⟩
  have HB2 := Lib.hid (show Below w.heap.size w W2 by rw [hW2]; exact ((Below.refl w.heap.size w).alloc (Nat.le_refl _) _).alloc (by simp) _)
  have HS2 := Lib.hid (show W2.heap.size = w.heap.size + 2 by rw [hW2]; simp)
  have hk0 : Bk W2 w.heap.size 50 [.string ⟨l.path.toArray⟩, .slice A l.data.length c, .int .i64 l.ver, .int .i64 l.own, .int .i64 l.next, .int .i64 l.born] := by rw [hW2]; exact (Bk.new w 50 [.string ⟨l.path.toArray⟩, .slice A l.data.length c, .int .i64 l.ver, .int .i64 l.own, .int .i64 l.next, .int .i64 l.born]).alloc _
  have hk1 : Bk W2 (w.heap.size + 1) 50 [.string ⟨#[]⟩, .slice none 0 0, .int .i64 0, .int .i64 0, .int .i64 0, .int .i64 0] := by
    rw [hW2]
    have := Bk.new (w.alloc (.cells #[.string ⟨l.path.toArray⟩, .slice A l.data.length c, .int .i64 l.ver, .int .i64 l.own, .int .i64 l.next, .int .i64 l.born] 50)) 50 [.string ⟨#[]⟩, .slice none 0 0, .int .i64 0, .int .i64 0, .int .i64 0, .int .i64 0]
    rw [show (w.alloc (.cells #[.string ⟨l.path.toArray⟩, .slice A l.data.length c, .int .i64 l.ver, .int .i64 l.own, .int .i64 l.next, .int .i64 l.born] 50)).heap.size = w.heap.size + 1 by simp] at this
    exact this
  have HK0 := Lib.hid hk0
  have HK1 := Lib.hid hk1
  have HWE := Lib.hid hW2
  have HC := Lib.hid (fun W => cloneS_any ⟨l.path.toArray⟩ W hp)
  have HD := Lib.hid (fun W (hb : Kp F w W) => show Calls _ _ _ _ (Fresh1 l.data W) from clone_any A l.data.length c l.data W (hB.keep hb fun _ h _ => h).rd (by omega))
  have HBF := Lib.hid hB
  have HFL := Lib.hid (fun b hb hl => hB.2 b hb hl)
  clear hB hp hd hk0 hk1 hW2
  go_enter Tryz.func52, Tryz.ntmps52
  go_wp2_with fail
  rw [← HWE.out]
  refine (HC.out _).mono ?_
  rintro e w1 ⟨rfl, hb1⟩
  have hk0 := HK0.out.kept hb1
  have HK1 := Lib.hid (HK1.out.kept hb1)
  have HS1 := Lib.hid (show w.heap.size + 2 ≤ w1.heap.size by have := hb1.size; rw [HS2.out] at this; exact this)
  have HX1 := Lib.hid (HB2.out.trans (hb1.mono HB2.out.size))
  clear hb1
  go_wp2_with (refine wpList_store_cell rfl 9 _ _ rfl w.heap.size 0 (.string ⟨l.path.toArray⟩) rfl rfl rfl rfl info_str1 50 _ hk0 (by simp) ?_; intro w2 hk2 hg2; have j1 : w2.cell? ⟨w.heap.size, 1, none⟩ = some (.slice A l.data.length c) := hk2.out.at_ rfl)
  have HX2 := Lib.hid (HX1.out.grown hg2.out HX1.out.size (fun g hg => by injection hg with hg; omega))
  have HK1 := Lib.hid (HK1.out.grown hg2.out (by simp))
  have HS2' := Lib.hid (Nat.le_trans HS1.out hg2.out.size)
  refine (HD.out w2 (Kp.of_below HX2.out)).mono ?_
  rintro e w3 ⟨B, n, d, rfl, ho, hb3⟩
  obtain rfl := ho.len.symm
  have hk3 := hk2.out.kept hb3
  have HK1 := Lib.hid (HK1.out.kept hb3)
  have HX3 := Lib.hid (HX2.out.trans (hb3.mono HX2.out.size))
  have HO := Lib.hid (show BF (From (w.heap.size + 2)) w3 B d l.data from bf_from (BF.own ho) HS2'.out)
  have HS3 := Lib.hid (Nat.le_trans HS2'.out hb3.size)
  clear hb3 ho j1 hk0
  go_wp2_with (first
    | (refine wpList_store_cell rfl 32 _ _ rfl w.heap.size 1 (.slice B l.data.length d) rfl rfl rfl rfl info_bytes1 50 _ hk3 (by simp) ?_; intro w4 hk4 hg4; have hr4 : Bk w4 w.heap.size 50 [.string ⟨l.path.toArray⟩, .slice B l.data.length d, .int .i64 l.ver, .int .i64 l.own, .int .i64 l.next, .int .i64 l.born] := hk4.out)
    | (refine wpList_load_row rfl 50 _ rfl w.heap.size rfl 50 #[.string ⟨l.path.toArray⟩, .slice B l.data.length d, .int .i64 l.ver, .int .i64 l.own, .int .i64 l.next, .int .i64 l.born] (0, 0) _ hr4 Tryz.underlying50 rfl info_leaf1 ?_)
    | (refine wpList_store_bkT rfl 50 _ _ rfl (w.heap.size + 1) [.string ⟨l.path.toArray⟩, .slice B l.data.length d, .int .i64 l.ver, .int .i64 l.own, .int .i64 l.next, .int .i64 l.born] rfl rfl 50 [.string ⟨#[]⟩, .slice none 0 0, .int .i64 0, .int .i64 0, .int .i64 0, .int .i64 0] (HK1.out.grown hg4.out (by simp)) rfl info_leaf1 rfl ?_; intro w5 hk5 hg5))
  refine bodyPost_ret_by (results_row1 rfl _ _ (w.heap.size + 1) 50 _ _ rfl hk5.out Tryz.underlying50 rfl info_leaf1) rfl ?_
  refine ⟨(HX3.out.grown hg4.out HX3.out.size (fun g hg => by injection hg with hg; omega)).grown hg5.out (by have := HX3.out.size; have := hg4.out.size; omega) (fun g hg => by injection hg with hg; omega), B, d, rfl, ?_⟩
  refine bf_from (bf_set (bf_set HO.out hg4.out fun b hb => by unfold From at hb; omega) hg5.out fun b hb => by unfold From at hb; omega) (by omega)
/-- is it the node's version, or any? -/
theorem isVersion_any (l : Lf) (A : Option Addr) (c : Nat) (v : Int) (w : World) : Calls Tryz.prog 48 #[.agg (lfC l A c).toArray, .int .i64 v] w (Ans (.bool (decide (v < 0 ∨ v = l.ver))) w) := by
  show Calls _ _ #[.agg #[.string ⟨l.path.toArray⟩, .slice A l.data.length c, .int .i64 l.ver, .int .i64 l.own, .int .i64 l.next, .int .i64 l.born], _] _ _
  by_cases h : v < 0
  · rw [show decide (v < 0 ∨ v = l.ver) = true by simp [h]]
    have hb : decide (v < 0) = true := by simp [h]
    go_enter Tryz.func48, Tryz.ntmps48
    go_wp2
    go_ret
    exact ⟨rfl, (Below.refl w.heap.size w).alloc (Nat.le_refl _) _⟩
  · rw [show decide (v < 0 ∨ v = l.ver) = decide (v = l.ver) by simp [h]]
    have hb : decide (v < 0) = false := by simp [h]
    have hn : ¬ v < 0 := h
    by_cases e : v = l.ver
    · have he : (v == l.ver) = true := by simpa using e
      rw [decide_eq_true e]
      clear e h
      go_enter Tryz.func48, Tryz.ntmps48
      go_wp2
      go_ret
      exact ⟨rfl, (Below.refl w.heap.size w).alloc (Nat.le_refl _) _⟩
    · have he : (v == l.ver) = false := by simpa using e
      rw [decide_eq_false e]
      clear e h
      go_enter Tryz.func48, Tryz.ntmps48
      go_wp2
      go_ret
      exact ⟨rfl, (Below.refl w.heap.size w).alloc (Nat.le_refl _) _⟩
end Go.Proofs.YtgppclmofphlfaaGreatDoor

/-
  A node put into a tree; a new tree. Walks; no statement.
-/
namespace Go.Proofs.YtgppclmofphlfaaGreatDoor
set_option maxRecDepth 100000
open Go.RowKit
set_option linter.unusedVariables false

set_option maxHeartbeats 3200000 in
theorem put_any (g : Nat) (t : List Lf) (F : Nat → Prop) (l : Lf) (A : Option Addr) (c : Nat) (F0 : Nat → Prop) (w : World) (hT : TreeAt F w g t) (hB : BF F0 w A c l.data) (hp : l.path.length ≤ 64) (hd : l.data.length ≤ 1000) (hn : t.length ≤ 900) :
    Calls Tryz.prog 39 #[.pointer (some ⟨g, 0, none⟩), .agg (lfC l A c).toArray] w (TDid F g (tWith l t) (.tuple #[]) w) := by
  show Calls _ _ #[_, .agg #[.string ⟨l.path.toArray⟩, .slice A l.data.length c, .int .i64 l.ver, .int .i64 l.own, .int .i64 l.next, .int .i64 l.born]] _ _
  obtain ⟨W1, hW1⟩ : ∃ W1, W1 = w.alloc (.cells #[.string ⟨l.path.toArray⟩, .slice A l.data.length c, .int .i64 l.ver, .int .i64 l.own, .int .i64 l.next, .int .i64 l.born] 50) := ⟨_, rfl⟩
  have HB1 := Lib.hid (show Below w.heap.size w W1 by rw [hW1]; exact (Below.refl w.heap.size w).alloc (Nat.le_refl _) _)
  have HS1 := Lib.hid (show W1.heap.size = w.heap.size + 1 by rw [hW1]; simp)
  have hk1 : Bk W1 w.heap.size 50 [.string ⟨l.path.toArray⟩, .slice A l.data.length c, .int .i64 l.ver, .int .i64 l.own, .int .i64 l.next, .int .i64 l.born] := by rw [hW1]; exact Bk.new w 50 [.string ⟨l.path.toArray⟩, .slice A l.data.length c, .int .i64 l.ver, .int .i64 l.own, .int .i64 l.next, .int .i64 l.born]
  have HC := Lib.hid (copied_any l A c F0 W1 (hB.below HB1.out) hp hd)
  have HK1 := Lib.hid hk1
  have HWE := Lib.hid hW1
  have HT := Lib.hid hT
  have HP := Lib.hid hp
  have HN := Lib.hid hn
  clear hB hp hd hk1 hW1 hT hn
  go_enter Tryz.func39, Tryz.ntmps39
  go_wp2_with fail
  rw [← HWE.out]
  go_wp2_with (refine wpList_load_row rfl 50 _ rfl w.heap.size rfl 50 #[.string ⟨l.path.toArray⟩, .slice A l.data.length c, .int .i64 l.ver, .int .i64 l.own, .int .i64 l.next, .int .i64 l.born] (0, 0) _ HK1.out Tryz.underlying50 rfl info_leaf1 ?_)
  refine HC.out.mono ?_
  rintro e w2 ⟨hb2, A2, c2, he, hbf⟩
  replace he : e = .returned (.agg #[.string ⟨l.path.toArray⟩, .slice A2 l.data.length c2, .int .i64 l.ver, .int .i64 l.own, .int .i64 l.next, .int .i64 l.born]) := he
  subst he
  have HB2 := Lib.hid (HB1.out.trans (hb2.mono HB1.out.size))
  have HS2 := Lib.hid (show w.heap.size + 1 ≤ w2.heap.size by have := hb2.size; rw [HS1.out] at this; exact this)
  have hk2 := HK1.out.kept hb2
  have HBF := Lib.hid (show BF (From (w.heap.size + 1)) w2 A2 c2 l.data from bf_from hbf (by rw [HS1.out]; exact Nat.le_refl _))
  clear hb2 hbf HK1 HC
  go_wp2_with (refine wpList_store_bkT rfl 50 _ _ rfl w.heap.size [.string ⟨l.path.toArray⟩, .slice A2 l.data.length c2, .int .i64 l.ver, .int .i64 l.own, .int .i64 l.next, .int .i64 l.born] rfl rfl 50 [.string ⟨l.path.toArray⟩, .slice A l.data.length c, .int .i64 l.ver, .int .i64 l.own, .int .i64 l.next, .int .i64 l.born] hk2 rfl info_leaf1 rfl ?_; intro w3 hk3 hg3)
  have HB3 := Lib.hid (HB2.out.grown hg3.out HB2.out.size (fun g hg => by injection hg with hg; omega))
  have HBF3 := Lib.hid (bf_set HBF.out hg3.out fun b hb => by unfold From at hb; omega)
  have hT3 := HT.out.below HB3.out
  obtain ⟨b, hkg, hFg, hFb, hm⟩ := hT3
  obtain ⟨w4, hrun, hm4, hg4⟩ := (show MpAt (fun k => F k ∨ w.heap.size ≤ k) w3.drew b t from hm.more (F' := fun k => F k ∨ w.heap.size ≤ k) fun k hk _ => .inl hk).store l A2 c2 (show BF _ w3.drew A2 c2 l.data from HBF3.out.keep ⟨Nat.le_refl _, fun _ _ _ => rfl⟩ fun k hk _ => .inr (by unfold From at hk; omega)) (by have := HP.out; simp only [maxLen]; omega) (by have := HN.out; omega)
  have HR := Lib.hid hrun
  have HM4 := Lib.hid hm4
  have HG4 := Lib.hid hg4
  have g0 : w3.cell? ⟨g, 0, none⟩ = some (.map (some b)) := hkg.at_ rfl
  have q0 : w3.cell? ⟨w.heap.size, 0, none⟩ = some (.string ⟨l.path.toArray⟩) := hk3.out.at_ rfl
  have q1 : w3.cell? ⟨w.heap.size, 1, none⟩ = some (.slice A2 l.data.length c2) := hk3.out.at_ rfl
  have q2 : w3.cell? ⟨w.heap.size, 2, none⟩ = some (.int .i64 l.ver) := hk3.out.at_ rfl
  have q3 : w3.cell? ⟨w.heap.size, 3, none⟩ = some (.int .i64 l.own) := hk3.out.at_ rfl
  have q4 : w3.cell? ⟨w.heap.size, 4, none⟩ = some (.int .i64 l.next) := hk3.out.at_ rfl
  have q5 : w3.cell? ⟨w.heap.size, 5, none⟩ = some (.int .i64 l.born) := hk3.out.at_ rfl
  have hlt := hkg.lt
  have hne : g ≠ b := by
    rintro rfl
    obtain ⟨es, cl, hx⟩ := hm.isMap
    rw [show w3.heap[g]? = _ from hkg] at hx
    cases hx
  have HGB := Lib.hid (show Bk w4 g 76 [.map (some b)] from (show Bk w3.drew g _ _ from hkg).grown hg4 (fun e => hne (Option.some.inj e)))
  have HFG := Lib.hid hFg
  have HFB := Lib.hid hFb
  have HBLT := Lib.hid hm.lt
  have hrd : (Instr.mapUpdate 74 (.map (some b)) (.string ⟨l.path.toArray⟩) (.agg #[.string ⟨l.path.toArray⟩, .slice A2 l.data.length c2, .int .i64 l.ver, .int .i64 l.own, .int .i64 l.next, .int .i64 l.born])).run Tryz.prog w3.drew = .ok () w4 := hrun
  clear hrun hm4 hg4 HR hm hkg hFg hFb hlt hne
  go_region
  all_goals
    go_end0
    refine ⟨rfl, fun k => F k ∨ w.heap.size ≤ k, ⟨b, HGB.out, .inl HFG.out, .inl HFB.out, HM4.out⟩, fun k hk => hk, ?_⟩
    exact ((Chg.of_below F HB3.out).drew).grown HG4.out fun k e => by injection e with e; subst e; exact .inl HFB.out
/-- a new tree -/
def TNew (t : List Lf) (w : World) (e : Ending) (w' : World) : Prop :=
  ∃ g F, e = .returned (.pointer (some ⟨g, 0, none⟩)) ∧ TreeAt F w' g t ∧ (∀ k, F k → w.heap.size ≤ k) ∧ Below w.heap.size w w'
theorem tWith_nil (l : Lf) : tWith l [] = [l] := rfl
set_option maxHeartbeats 3200000 in
theorem new_any (w : World) : Calls Tryz.prog 12 #[] w (TNew [lfRoot] w) := by
  have hmm := @run_makeMap Tryz.prog
  obtain ⟨W2, hW2⟩ : ∃ W2, W2 = (w.alloc (.map #[] 0)).alloc (.cells #[.map (some w.heap.size)] 76) := ⟨_, rfl⟩
  have HB2 := Lib.hid (show Below w.heap.size w W2 by rw [hW2]; exact ((Below.refl w.heap.size w).alloc (Nat.le_refl _) _).alloc (by simp) _)
  have hT : TreeAt (From w.heap.size) W2 (w.heap.size + 1) [] := by
    rw [hW2]
    have hm := mpAt_made (From w.heap.size) w
    refine ⟨w.heap.size, ?_, by unfold From; omega, Nat.le_refl _, hm.below ((Below.refl _ _).alloc (Nat.le_refl _) _)⟩
    have := Bk.new (w.alloc (.map #[] 0)) 76 [.map (some w.heap.size)]
    rw [show (w.alloc (.map #[] 0)).heap.size = w.heap.size + 1 by simp] at this
    exact this
  have HP := Lib.hid (put_any (w.heap.size + 1) [] (From w.heap.size) lfRoot none 0 (fun _ => False) W2 hT (BF.nil_ _ _) (by decide) (by decide) (by decide))
  have HWE := Lib.hid hW2
  clear hT hW2
  go_enter Tryz.func12, Tryz.ntmps12
  go_wp2_with fail
  rw [← HWE.out]
  refine HP.out.mono ?_
  rintro e w1 ⟨rfl, F', ht, hF, hc⟩
  have HT := Lib.hid ht
  have HX := Lib.hid (show Below w.heap.size w w1 from HB2.out.trans (hc.below (fun k hk => hk) HB2.out.size))
  have HF := Lib.hid hF
  clear ht hF hc
  go_wp2_with fail
  go_ret
  exact ⟨_, F', rfl, HT.out, fun k hk => (HF.out k hk).elim id fun h => Nat.le_trans HB2.out.size h, HX.out⟩
end Go.Proofs.YtgppclmofphlfaaGreatDoor

/-
  A node found in a tree. Walks; no statement.
-/
namespace Go.Proofs.YtgppclmofphlfaaGreatDoor
set_option maxRecDepth 100000
open Go.RowKit
set_option linter.unusedVariables false

/-- a node or the error; its data are the tree's own -/
def FndP (F : Nat → Prop) (r : Option Lf × Int) (w : World) (e : Ending) (w' : World) : Prop :=
  Below w.heap.size w w' ∧ match r.1 with
    | some l => ∃ A c, e = .returned (.tuple #[.agg #[.string ⟨l.path.toArray⟩, .slice A l.data.length c, .int .i64 l.ver, .int .i64 l.own, .int .i64 l.next, .int .i64 l.born], .int .i64 r.2]) ∧ BF F w' A c l.data
    | none => e = .returned (.tuple #[.agg #[.string ⟨#[]⟩, .slice none 0 0, .int .i64 0, .int .i64 0, .int .i64 0, .int .i64 0], .int .i64 r.2])
/-- the blocks of F that are there -/
def Lw (F : Nat → Prop) (w : World) : Nat → Prop := fun k => F k ∧ k < w.heap.size
theorem TreeAt.low {F : Nat → Prop} {w : World} {g : Nat} {t : List Lf} (h : TreeAt F w g t) : TreeAt (Lw F w) w g t := h.more fun k hk hl => ⟨hk, hl⟩
theorem bf_low {F : Nat → Prop} {w w' : World} {A : Option Addr} {c : Nat} {l : List UInt8} (h : BF (Lw F w) w' A c l) : BF F w' A c l := h.keep ⟨Nat.le_refl _, fun _ _ _ => rfl⟩ fun k hk _ => hk.1
theorem path_le {q : List UInt8} {up : List (List UInt8)} (h : partsOf q = some up) : q.length ≤ 64 := (whole_parts h).2.2
set_option maxHeartbeats 3200000 in
theorem find_any (g : Nat) (t : List Lf) (F : Nat → Prop) (p : ByteArray) (w : World) (hE : Env w) (hT : TreeAt F w g t) :
    Calls Tryz.prog 47 #[.pointer (some ⟨g, 0, none⟩), .string p] w (FndP F (tGet p.data.toList t) w) := by
  obtain ⟨q, rfl⟩ : ∃ l : List UInt8, p = ⟨l.toArray⟩ := ⟨p.data.toList, (sv_of p).symm⟩
  show Calls _ _ _ _ (FndP F (tGet q t) w)
  obtain ⟨W1, hW1⟩ : ∃ W1, W1 = w.alloc (.cells #[.string ⟨#[]⟩, .slice none 0 0, .int .i64 0, .int .i64 0, .int .i64 0, .int .i64 0] 50) := ⟨_, rfl⟩
  have HB1 := Lib.hid (show Below w.heap.size w W1 by rw [hW1]; exact (Below.refl w.heap.size w).alloc (Nat.le_refl _) _)
  have HS1 := Lib.hid (show W1.heap.size = w.heap.size + 1 by rw [hW1]; simp)
  have HK1 := Lib.hid (show Bk W1 w.heap.size 50 [.string ⟨#[]⟩, .slice none 0 0, .int .i64 0, .int .i64 0, .int .i64 0, .int .i64 0] by rw [hW1]; exact Bk.new w 50 [.string ⟨#[]⟩, .slice none 0 0, .int .i64 0, .int .i64 0, .int .i64 0, .int .i64 0])
  have HC := Lib.hid (check_any ⟨q.toArray⟩ W1 (hE.below HB1.out))
  have HWE := Lib.hid hW1
  have HT := Lib.hid hT.low
  clear hE hT hW1
  rcases Option.eq_none_or_eq_some (partsOf q) with e | ⟨up, e⟩
  · have HV := Lib.hid (show tGet q t = (none, 90) by unfold tGet; rw [if_pos e])
    replace HC := Lib.hid (show Calls _ _ _ _ (Ans (.int .i64 90) W1) by have := HC.out; rw [show (⟨q.toArray⟩ : ByteArray).data.toList = q from rfl, e] at this; exact this)
    clear e
    go_enter Tryz.func47, Tryz.ntmps47
    go_wp2_with fail
    rw [← HWE.out]
    refine HC.out.mono ?_
    rintro e w1 ⟨rfl, hb1⟩
    have HX := Lib.hid (HB1.out.trans (hb1.mono HB1.out.size))
    have hk := HK1.out.kept hb1
    clear hb1
    go_wp2_with (refine wpList_store_bkT rfl 50 _ _ rfl w.heap.size [.string ⟨#[]⟩, .slice none 0 0, .int .i64 0, .int .i64 0, .int .i64 0, .int .i64 0] rfl rfl 50 [.string ⟨#[]⟩, .slice none 0 0, .int .i64 0, .int .i64 0, .int .i64 0, .int .i64 0] hk rfl info_leaf1 rfl ?_; intro w99 hk99 hg99)
    refine bodyPost_ret_by (results_row_tmp rfl _ _ w.heap.size 50 _ _ rfl hk99.out Tryz.underlying50 rfl info_leaf1) rfl ?_
    rw [HV.out]
    exact ⟨HX.out.grown hg99.out HX.out.size (fun g hg => by injection hg with hg; omega), rfl⟩
  · replace HC := Lib.hid (show Calls _ _ _ _ (Ans (.int .i64 0) W1) by have := HC.out; rw [show (⟨q.toArray⟩ : ByteArray).data.toList = q from rfl, e] at this; exact this)
    have hq : q.length ≤ maxLen := by have := path_le e; simp only [maxLen]; omega
    have HQ := Lib.hid hq
    cases hat : tAt q t with
    | none =>
      have HV := Lib.hid (show tGet q t = (none, 100) by unfold tGet; rw [e, hat]; rfl)
      have HAT := Lib.hid hat
      clear e hat hq
      go_enter Tryz.func47, Tryz.ntmps47
      go_wp2_with fail
      rw [← HWE.out]
      refine HC.out.mono ?_
      rintro e w1 ⟨rfl, hb1⟩
      have HX := Lib.hid (HB1.out.trans (hb1.mono HB1.out.size))
      have hk := HK1.out.kept hb1
      obtain ⟨b, hkg, hFg, hFb, hm⟩ := HT.out.below HX.out
      have g0 : w1.cell? ⟨g, 0, none⟩ = some (.map (some b)) := hkg.at_ rfl
      have hlk : (Instr.lookup 74 (.map (some b)) (.string ⟨q.toArray⟩) true).run Tryz.prog w1 = .ok (.tuple #[.agg #[.string ⟨#[]⟩, .slice none 0 0, .int .i64 0, .int .i64 0, .int .i64 0, .int .i64 0], .bool false]) w1 := hm.look_no true HAT.out HQ.out
      have HS2 := Lib.hid (show w.heap.size + 1 ≤ w1.heap.size by have := hb1.size; have := HS1.out; omega)
      clear hb1 hkg hFg hFb hm
      go_wp2_with (refine wpList_store_bkT rfl 50 _ _ rfl w.heap.size [.string ⟨#[]⟩, .slice none 0 0, .int .i64 0, .int .i64 0, .int .i64 0, .int .i64 0] rfl rfl 50 [.string ⟨#[]⟩, .slice none 0 0, .int .i64 0, .int .i64 0, .int .i64 0, .int .i64 0] (hk.alloc _) rfl info_leaf1 rfl ?_; intro w99 hk99 hg99)
      refine bodyPost_ret_by (results_row_tmp rfl _ _ w.heap.size 50 _ _ rfl hk99.out Tryz.underlying50 rfl info_leaf1) rfl ?_
      rw [HV.out]
      exact ⟨(HX.out.alloc HX.out.size _).grown hg99.out (by have := HX.out.size; simp; omega) (fun g hg => by injection hg with hg; omega), rfl⟩
    | some k =>
      obtain ⟨l, hl, hlp⟩ := tAt_mem hat
      have HV := Lib.hid (show tGet q t = (some l, 0) by unfold tGet; rw [e, hat]; simp [List.getD, hl])
      have HAT := Lib.hid hat
      have HL := Lib.hid hl
      clear e hat hq hl hlp
      go_enter Tryz.func47, Tryz.ntmps47
      go_wp2_with fail
      rw [← HWE.out]
      refine HC.out.mono ?_
      rintro e w1 ⟨rfl, hb1⟩
      have HX := Lib.hid (HB1.out.trans (hb1.mono HB1.out.size))
      have hk := HK1.out.kept hb1
      obtain ⟨b, hkg, hFg, hFb, hm⟩ := HT.out.below HX.out
      have g0 : w1.cell? ⟨g, 0, none⟩ = some (.map (some b)) := hkg.at_ rfl
      obtain ⟨A, c, hbf, hrun⟩ := hm.look_yes true HAT.out HL.out HQ.out
      have hlk : (Instr.lookup 74 (.map (some b)) (.string ⟨q.toArray⟩) true).run Tryz.prog w1 = .ok (.tuple #[.agg #[.string ⟨l.path.toArray⟩, .slice A l.data.length c, .int .i64 l.ver, .int .i64 l.own, .int .i64 l.next, .int .i64 l.born], .bool true]) w1 := hrun
      have HS2 := Lib.hid (show w.heap.size + 1 ≤ w1.heap.size by have := hb1.size; have := HS1.out; omega)
      have HBF := Lib.hid hbf
      clear hb1 hkg hFg hFb hm hrun hbf
      go_wp2_with (refine wpList_store_bkT rfl 50 _ _ rfl w.heap.size [.string ⟨l.path.toArray⟩, .slice A l.data.length c, .int .i64 l.ver, .int .i64 l.own, .int .i64 l.next, .int .i64 l.born] rfl rfl 50 [.string ⟨#[]⟩, .slice none 0 0, .int .i64 0, .int .i64 0, .int .i64 0, .int .i64 0] (hk.alloc _) rfl info_leaf1 rfl ?_; intro w99 hk99 hg99)
      refine bodyPost_ret_by (results_row_tmp rfl _ _ w.heap.size 50 _ _ rfl hk99.out Tryz.underlying50 rfl info_leaf1) rfl ?_
      rw [HV.out]
      refine ⟨(HX.out.alloc HX.out.size _).grown hg99.out (by have := HX.out.size; simp; omega) (fun g hg => by injection hg with hg; omega), A, c, rfl, ?_⟩
      exact bf_low (bf_set (HBF.out.below ((Below.refl _ _).alloc (Nat.le_refl _) _)) hg99.out fun k hk e => by have := hk.2; omega)
/-- a node that may have children -/
def tHold (p : List UInt8) (t : List Lf) : Option Lf × Int := match tGet p t with
  | (some l, n) => if l.own = -1 then (some l, n) else (none, 105)
  | r => r
theorem tGet_cases (q : List UInt8) (t : List Lf) : (∃ l, tGet q t = (some l, 0) ∧ l.path = q ∧ l ∈ t ∧ (partsOf q).isSome = true) ∨ ∃ n : Int, tGet q t = (none, n) ∧ (n = 90 ∨ n = 100) := by
  unfold tGet
  split
  · exact .inr ⟨90, rfl, .inl rfl⟩
  · rename_i hp
    split
    · exact .inr ⟨100, rfl, .inr rfl⟩
    · rename_i k hk
      obtain ⟨l, hl, hp2⟩ := tAt_mem hk
      refine .inl ⟨l, by simp [List.getD, hl], hp2, List.mem_of_getElem? hl, ?_⟩
      cases h : partsOf q with
      | none => exact absurd h hp
      | some u => rfl
set_option maxHeartbeats 3200000 in
theorem findHolder_any (g : Nat) (t : List Lf) (F : Nat → Prop) (p : ByteArray) (w : World) (hE : Env w) (hT : TreeAt F w g t) :
    Calls Tryz.prog 40 #[.pointer (some ⟨g, 0, none⟩), .string p] w (FndP F (tHold p.data.toList t) w) := by
  obtain ⟨q, rfl⟩ : ∃ l : List UInt8, p = ⟨l.toArray⟩ := ⟨p.data.toList, (sv_of p).symm⟩
  show Calls _ _ _ _ (FndP F (tHold q t) w)
  obtain ⟨W1, hW1⟩ : ∃ W1, W1 = w.alloc (.cells #[.string ⟨#[]⟩, .slice none 0 0, .int .i64 0, .int .i64 0, .int .i64 0, .int .i64 0] 50) := ⟨_, rfl⟩
  have HB1 := Lib.hid (show Below w.heap.size w W1 by rw [hW1]; exact (Below.refl w.heap.size w).alloc (Nat.le_refl _) _)
  have HS1 := Lib.hid (show W1.heap.size = w.heap.size + 1 by rw [hW1]; simp)
  have HK1 := Lib.hid (show Bk W1 w.heap.size 50 [.string ⟨#[]⟩, .slice none 0 0, .int .i64 0, .int .i64 0, .int .i64 0, .int .i64 0] by rw [hW1]; exact Bk.new w 50 [.string ⟨#[]⟩, .slice none 0 0, .int .i64 0, .int .i64 0, .int .i64 0, .int .i64 0])
  have HC := Lib.hid (find_any g t (Lw F w) ⟨q.toArray⟩ W1 (hE.below HB1.out) (hT.low.below HB1.out))
  have HWE := Lib.hid hW1
  clear hE hT hW1
  rcases tGet_cases q t with ⟨l, e, -⟩ | ⟨n, e, hn⟩
  · replace HC := Lib.hid (show Calls _ _ _ _ (FndP (Lw F w) (some l, 0) W1) by have := HC.out; rw [show (⟨q.toArray⟩ : ByteArray).data.toList = q from rfl, e] at this; exact this)
    by_cases ho : l.own = -1
    · have HV := Lib.hid (show tHold q t = (some l, 0) by unfold tHold; rw [e]; exact if_pos ho)
      have hb : (l.own != -1) = false := by simp [ho]
      clear e
      go_enter Tryz.func40, Tryz.ntmps40
      go_wp2_with fail
      rw [← HWE.out]
      refine HC.out.mono ?_
      rintro e w1 ⟨hb1, A, c, rfl, hbf⟩
      have HX := Lib.hid (HB1.out.trans (hb1.mono HB1.out.size))
      have hk := HK1.out.kept hb1
      have HS2 := Lib.hid (show w.heap.size + 1 ≤ w1.heap.size by have := hb1.size; have := HS1.out; omega)
      have HBF := Lib.hid hbf
      clear hb1 hbf ho
      go_wp2_with (first
        | (refine wpList_load_row rfl 50 _ rfl w1.heap.size rfl 50 #[.string ⟨l.path.toArray⟩, .slice A l.data.length c, .int .i64 l.ver, .int .i64 l.own, .int .i64 l.next, .int .i64 l.born] (0, 0) _ (Bk.new w1 50 [.string ⟨l.path.toArray⟩, .slice A l.data.length c, .int .i64 l.ver, .int .i64 l.own, .int .i64 l.next, .int .i64 l.born]) Tryz.underlying50 rfl info_leaf1 ?_)
        | (refine wpList_store_bkT rfl 50 _ _ rfl w.heap.size [.string ⟨l.path.toArray⟩, .slice A l.data.length c, .int .i64 l.ver, .int .i64 l.own, .int .i64 l.next, .int .i64 l.born] rfl rfl 50 [.string ⟨#[]⟩, .slice none 0 0, .int .i64 0, .int .i64 0, .int .i64 0, .int .i64 0] (hk.alloc _) rfl info_leaf1 rfl ?_; intro w99 hk99 hg99))
      refine bodyPost_ret_by (results_row_tmp rfl _ _ w.heap.size 50 _ _ rfl hk99.out Tryz.underlying50 rfl info_leaf1) rfl ?_
      rw [HV.out]
      refine ⟨(HX.out.alloc HX.out.size _).grown hg99.out (by have := HX.out.size; simp; omega) (fun g hg => by injection hg with hg; omega), A, c, rfl, ?_⟩
      exact bf_low (bf_set (HBF.out.below ((Below.refl _ _).alloc (Nat.le_refl _) _)) hg99.out fun k hk e => by have := hk.2; omega)
    · have HV := Lib.hid (show tHold q t = (none, 105) by unfold tHold; rw [e]; exact if_neg ho)
      have hb : (l.own != -1) = true := by simpa using ho
      clear e ho
      go_enter Tryz.func40, Tryz.ntmps40
      go_wp2_with fail
      rw [← HWE.out]
      refine HC.out.mono ?_
      rintro e w1 ⟨hb1, A, c, rfl, hbf⟩
      have HX := Lib.hid (HB1.out.trans (hb1.mono HB1.out.size))
      have hk := HK1.out.kept hb1
      clear hb1 hbf
      go_wp2_with (refine wpList_store_bkT rfl 50 _ _ rfl w.heap.size [.string ⟨#[]⟩, .slice none 0 0, .int .i64 0, .int .i64 0, .int .i64 0, .int .i64 0] rfl rfl 50 [.string ⟨#[]⟩, .slice none 0 0, .int .i64 0, .int .i64 0, .int .i64 0, .int .i64 0] (hk.alloc _) rfl info_leaf1 rfl ?_; intro w99 hk99 hg99)
      refine bodyPost_ret_by (results_row_tmp rfl _ _ w.heap.size 50 _ _ rfl hk99.out Tryz.underlying50 rfl info_leaf1) rfl ?_
      rw [HV.out]
      exact ⟨(HX.out.alloc HX.out.size _).grown hg99.out (by have := HX.out.size; simp; omega) (fun g hg => by injection hg with hg; omega), rfl⟩
  · replace HC := Lib.hid (show Calls _ _ _ _ (FndP (Lw F w) (none, n) W1) by have := HC.out; rw [show (⟨q.toArray⟩ : ByteArray).data.toList = q from rfl, e] at this; exact this)
    have HV := Lib.hid (show tHold q t = (none, n) by unfold tHold; rw [e])
    have hb : (n != 0) = true := by rcases hn with rfl | rfl <;> rfl
    clear e hn
    go_enter Tryz.func40, Tryz.ntmps40
    go_wp2_with fail
    rw [← HWE.out]
    refine HC.out.mono ?_
    rintro e w1 ⟨hb1, rfl⟩
    have HX := Lib.hid (HB1.out.trans (hb1.mono HB1.out.size))
    have hk := HK1.out.kept hb1
    clear hb1
    go_wp2_with (refine wpList_store_bkT rfl 50 _ _ rfl w.heap.size [.string ⟨#[]⟩, .slice none 0 0, .int .i64 0, .int .i64 0, .int .i64 0, .int .i64 0] rfl rfl 50 [.string ⟨#[]⟩, .slice none 0 0, .int .i64 0, .int .i64 0, .int .i64 0, .int .i64 0] (hk.alloc _) rfl info_leaf1 rfl ?_; intro w99 hk99 hg99)
    refine bodyPost_ret_by (results_row_tmp rfl _ _ w.heap.size 50 _ _ rfl hk99.out Tryz.underlying50 rfl info_leaf1) rfl ?_
    rw [HV.out]
    exact ⟨(HX.out.alloc HX.out.size _).grown hg99.out (by have := HX.out.size; simp; omega) (fun g hg => by injection hg with hg; omega), rfl⟩
end Go.Proofs.YtgppclmofphlfaaGreatDoor

/-
  A tree's paths; a node copied out. Walks; no statement.
-/
namespace Go.Proofs.YtgppclmofphlfaaGreatDoor
set_option maxRecDepth 100000
open Go.RowKit Go.Maps Go.Sort Go.Shelf
set_option linter.unusedVariables false

theorem sorts_any (m : Nat) : AnyZ.SortsIn Tryz.prog Tryz.sortedLay_ren Fence.wide m :=
  ⟨fun blk off cap ss W hH hblk hsz => callsIn_wide.2 (AnyM.slices_Sort_string Tryz.sortLay blk off cap ss W hH hblk hsz),
   fun p cap W => callsIn_wide.2 (AnyM.slices_Sort_string_none Tryz.sortLay p cap W)⟩
theorem keys_any (mb : Option Nat) (W : World) : Calls Tryz.prog 73 #[.map mb] W fun e w' => e = .returned (.func (.func 88) #[] #[.pointer (some ⟨W.heap.size, 0, none⟩)]) ∧ w' = W.alloc (.cells #[.map mb] 74) :=
  callsIn_wide.1 (AnyZ.keys_in Tryz.keysLay Fence.wide 5 trivial rfl mb W)
set_option maxHeartbeats 1000000 in
theorem sorted_keys {H : Type} (b nn : Nat) (D0 : DataW H) (R : Value → Option (DataW H × List MemPlace)) (w : World) (hown : w.ownsMap Tryz.prog 9 R b nn D0) (hmax : Maps.size D0 ≤ maxLen) (hbytes : Maps.size D0 * 16 ≤ 140737488355328) :
    Calls Tryz.prog 72 #[.func (.func 88) #[] #[.pointer (some ⟨w.heap.size, 0, none⟩)]] (w.alloc (.cells #[.map (some b)] 74)) fun e w' => ∃ (v : Value) (ss : List (List UInt8)), e = .returned v ∧ ss.Perm (strKeys D0) ∧
      w'.ownsRow (w.alloc (.cells #[.map (some b)] 74)).heap.size 9 1 v ss.length ((ss.mergeSort (fun x y => decide (x ≤ y))).map encStr) ∧ (v = .slice none 0 0 ↔ ss = []) ∧ Below (w.alloc (.cells #[.map (some b)] 74)).heap.size (w.alloc (.cells #[.map (some b)] 74)) w' := by
  refine (callsIn_wide (n := 5)).1 ?_
  have hbl := hown.lt
  have hseq : SeqGives Fence.wide 2 Tryz.prog 88 #[.pointer (some ⟨w.heap.size, 0, none⟩)] encStr (fun ss => ss.Perm (strKeys D0)) (Maps.size D0) (w.alloc (.cells #[.map (some b)] 74)) :=
    AnyZ.keys_gives (ρ := Tryz.keysLay_ren) { Tryz.keysLay with } Fence.wide _ trivial rfl (by omega) w.heap.size b nn D0 _ (by simp) (by simp) (by
      obtain ⟨es, clock, hb, Ft, hs, hD⟩ := hown
      exact ⟨es, clock, (Below.heap_alloc _ _ b hbl).trans hb, Ft, hs, hD⟩)
  exact AnyZ.sorted_in Tryz.sortedLay Fence.wide 5 trivial trivial trivial trivial rfl (by omega) (sorts_any _) (enters_of Tryz.func87 (by kernel_rfl) rfl) 88 #[.pointer (some ⟨w.heap.size, 0, none⟩)] trivial (enters_of Tryz.func88 (by kernel_rfl) rfl) _ _ hmax hbytes _ hseq
/-- the paths of all nodes -/
def PathsP (t : List Lf) (w : World) (e : Ending) (w' : World) : Prop :=
  ∃ A c, e = .returned (.slice A t.length c) ∧ OwnT w' w.heap.size A t.length c (t.map (·.path)) ∧ Below w.heap.size w w'
set_option maxHeartbeats 1600000 in
theorem paths_any (g : Nat) (t : List Lf) (F : Nat → Prop) (w : World) (hT : TreeAt F w g t) (hn : t.length ≤ 1000) :
    Calls Tryz.prog 54 #[.pointer (some ⟨g, 0, none⟩)] w (PathsP t w) := by
  have hs := hT.srt
  obtain ⟨b, hkg, hFg, hFb, es, h1, h2, h3⟩ := hT
  have hsz : Maps.size (DataW.map (ent es)) = t.length := by rw [← h1]; simp [Maps.size, ent]
  have hsk : strKeys (DataW.map (ent es)) = t.map (·.path) := by
    show (ent es).map (fun p => strOf p.1) = _
    unfold ent
    rw [List.map_map, ← h1, List.map_map]
    rfl
  have HS := Lib.hid (sorted_keys b t.length _ asIs w h2 (by rw [hsz]; simp only [maxLen]; omega) (by rw [hsz]; omega))
  have HK := Lib.hid (keys_any (some b) w)
  have HE := Lib.hid hsk
  have HSR := Lib.hid hs
  have g0 : w.cell? ⟨g, 0, none⟩ = some (.map (some b)) := hkg.at_ rfl
  clear hs hkg hFg hFb h1 h2 h3 hsz hsk
  go_enter Tryz.func54, Tryz.ntmps54
  go_wp2_with fail
  refine HK.out.mono ?_
  rintro e w1 ⟨rfl, rfl⟩
  go_wp2_with fail
  refine HS.out.mono ?_
  rintro e w2 ⟨v, ss, rfl, hp, ho, hnil, hb2⟩
  have HX := Lib.hid (((Below.refl w.heap.size w).alloc (Nat.le_refl _) (.cells #[.map (some b)] 74)).trans (hb2.mono (by simp)))
  have hp2 := hp
  rw [HE.out] at hp2
  have hms := sorted_paths HSR.out hp2
  have hln : ss.length = t.length := by rw [hp2.length_eq, List.length_map]
  rw [hms, hln] at ho
  have HO := Lib.hid ho
  clear hp hp2 hms ho hnil hb2
  go_wp2_with fail
  go_ret
  have ho : w2.ownsRow (w.heap.size + 1) 9 1 v t.length ((t.map (·.path)).map sv) := by have := HO.out; rw [show (w.alloc (.cells #[.map (some b)] 74)).heap.size = w.heap.size + 1 by simp] at this; exact this
  have hform : ∃ A c, v = .slice A t.length c := by
    rcases ho.2 with ⟨e1, e2⟩ | ⟨g', cap, cur, e1, _⟩
    · exact ⟨none, 0, by rw [e1, e2]⟩
    · exact ⟨_, _, e1⟩
  obtain ⟨A, c, rfl⟩ := hform
  exact ⟨A, c, rfl, (show OwnT w2 (w.heap.size + 1) A t.length c _ from ho).more (by omega), HX.out⟩
end Go.Proofs.YtgppclmofphlfaaGreatDoor
