/-
  A node copied, and what is asked of one. Walks; no statement.
-/
import Derived.Test.YtgppclmofphlfaaGreatDoorTreeOwn
import Derived.Test.YtgppclmofphlfaaGreatDoorPathDev6
import Derived.Test.YtgppclmofphlfaaGreatDoorMBase
import Derived.Test.YtgppclmofphlfaaGreatDoorMRows
namespace Go.Proofs.YtgppclmofphlfaaGreatDoor
set_option maxRecDepth 100000
open Go.RowKit
set_option linter.unusedVariables false

theorem info_str1 : (Tryz.prog.info? 9).map (·.size) = some 1 := by kernel_rfl
theorem info_bytes1 : (Tryz.prog.info? 32).map (·.size) = some 1 := by kernel_rfl
/-- a node in new memory -/
def CopyP (l : Lf) (w : World) (e : Ending) (w' : World) : Prop :=
  Below w.heap.size w w' ∧ ∃ A c, e = .returned (.agg (lfC l A c).toArray) ∧ BF (From w.heap.size) w' A c l.data
set_option maxHeartbeats 1600000 in
theorem copied_any (l : Lf) (A : Option Addr) (c : Nat) (F : Nat → Prop) (w : World) (hB : BF F w A c l.data) (hp : l.path.length ≤ 64) (hd : l.data.length ≤ 1000) :
    Calls Tryz.prog 52 #[.agg (lfC l A c).toArray] w (CopyP l w) := by
  show Calls _ _ #[.agg #[.string ⟨l.path.toArray⟩, .slice A l.data.length c, .int .i64 l.ver, .int .i64 l.own, .int .i64 l.next, .int .i64 l.born]] _ _
  obtain ⟨W2, hW2⟩ : ∃ W2, W2 = (w.alloc (.cells #[.string ⟨l.path.toArray⟩, .slice A l.data.length c, .int .i64 l.ver, .int .i64 l.own, .int .i64 l.next, .int .i64 l.born] 50)).alloc (.cells #[.string ⟨#[]⟩, .slice none 0 0, .int .i64 0, .int .i64 0, .int .i64 0, .int .i64 0] 50) := ⟨_, rfl⟩
  have HB2 := Lib.hid (show Below w.heap.size w W2 by rw [hW2]; exact ((Below.refl w.heap.size w).alloc (Nat.le_refl _) _).alloc (by simp) _)
  have HS2 := Lib.hid (show W2.heap.size = w.heap.size + 2 by rw [hW2]; simp)
  have hk0 : Bk W2 w.heap.size 50 [.string ⟨l.path.toArray⟩, .slice A l.data.length c, .int .i64 l.ver, .int .i64 l.own, .int .i64 l.next, .int .i64 l.born] := by rw [hW2]; exact (Bk.new w 50 [.string ⟨l.path.toArray⟩, .slice A l.data.length c, .int .i64 l.ver, .int .i64 l.own, .int .i64 l.next, .int .i64 l.born]).alloc _
  have hk1 : Bk W2 (w.heap.size + 1) 50 [.string ⟨#[]⟩, .slice none 0 0, .int .i64 0, .int .i64 0, .int .i64 0, .int .i64 0] := by
    rw [hW2]
    have := Bk.new (w.alloc (.cells #[.string ⟨l.path.toArray⟩, .slice A l.data.length c, .int .i64 l.ver, .int .i64 l.own, .int .i64 l.next, .int .i64 l.born] 50)) 50 [.string ⟨#[]⟩, .slice none 0 0, .int .i64 0, .int .i64 0, .int .i64 0, .int .i64 0]
    rw [show (w.alloc (.cells #[.string ⟨l.path.toArray⟩, .slice A l.data.length c, .int .i64 l.ver, .int .i64 l.own, .int .i64 l.next, .int .i64 l.born] 50)).heap.size = w.heap.size + 1 by simp] at this
    exact this
  have HK0 := Lib.hid hk0
  have HK1 := Lib.hid hk1
  have HWE := Lib.hid hW2
  have HC := Lib.hid (fun W => cloneS_any ⟨l.path.toArray⟩ W hp)
  have HD := Lib.hid (fun W (hb : Kp F w W) => show Calls _ _ _ _ (Fresh1 l.data W) from clone_any A l.data.length c l.data W (hB.keep hb fun _ h _ => h).rd (by omega))
  have HBF := Lib.hid hB
  have HFL := Lib.hid (fun b hb hl => hB.2 b hb hl)
  clear hB hp hd hk0 hk1 hW2
  go_enter Tryz.func52, Tryz.ntmps52
  go_wp2_with fail
  rw [← HWE.out]
  refine (HC.out _).mono ?_
  rintro e w1 ⟨rfl, hb1⟩
  have hk0 := HK0.out.kept hb1
  have HK1 := Lib.hid (HK1.out.kept hb1)
  have HS1 := Lib.hid (show w.heap.size + 2 ≤ w1.heap.size by have := hb1.size; rw [HS2.out] at this; exact this)
  have HX1 := Lib.hid (HB2.out.trans (hb1.mono HB2.out.size))
  clear hb1
  go_wp2_with (refine wpList_store_cell rfl 9 _ _ rfl w.heap.size 0 (.string ⟨l.path.toArray⟩) rfl rfl rfl rfl info_str1 50 _ hk0 (by simp) ?_; intro w2 hk2 hg2; have j1 : w2.cell? ⟨w.heap.size, 1, none⟩ = some (.slice A l.data.length c) := hk2.out.at_ rfl)
  have HX2 := Lib.hid (HX1.out.grown hg2.out HX1.out.size (fun g hg => by injection hg with hg; omega))
  have HK1 := Lib.hid (HK1.out.grown hg2.out (by simp))
  have HS2' := Lib.hid (Nat.le_trans HS1.out hg2.out.size)
  refine (HD.out w2 (Kp.of_below HX2.out)).mono ?_
  rintro e w3 ⟨B, n, d, rfl, ho, hb3⟩
  obtain rfl := ho.len.symm
  have hk3 := hk2.out.kept hb3
  have HK1 := Lib.hid (HK1.out.kept hb3)
  have HX3 := Lib.hid (HX2.out.trans (hb3.mono HX2.out.size))
  have HO := Lib.hid (show BF (From (w.heap.size + 2)) w3 B d l.data from bf_from (BF.own ho) HS2'.out)
  have HS3 := Lib.hid (Nat.le_trans HS2'.out hb3.size)
  clear hb3 ho j1 hk0
  go_wp2_with (first
    | (refine wpList_store_cell rfl 32 _ _ rfl w.heap.size 1 (.slice B l.data.length d) rfl rfl rfl rfl info_bytes1 50 _ hk3 (by simp) ?_; intro w4 hk4 hg4; have hr4 : Bk w4 w.heap.size 50 [.string ⟨l.path.toArray⟩, .slice B l.data.length d, .int .i64 l.ver, .int .i64 l.own, .int .i64 l.next, .int .i64 l.born] := hk4.out)
    | (refine wpList_load_row rfl 50 _ rfl w.heap.size rfl 50 #[.string ⟨l.path.toArray⟩, .slice B l.data.length d, .int .i64 l.ver, .int .i64 l.own, .int .i64 l.next, .int .i64 l.born] (0, 0) _ hr4 Tryz.underlying50 rfl info_leaf1 ?_)
    | (refine wpList_store_bkT rfl 50 _ _ rfl (w.heap.size + 1) [.string ⟨l.path.toArray⟩, .slice B l.data.length d, .int .i64 l.ver, .int .i64 l.own, .int .i64 l.next, .int .i64 l.born] rfl rfl 50 [.string ⟨#[]⟩, .slice none 0 0, .int .i64 0, .int .i64 0, .int .i64 0, .int .i64 0] (HK1.out.grown hg4.out (by simp)) rfl info_leaf1 rfl ?_; intro w5 hk5 hg5))
  refine bodyPost_ret_by (results_row1 rfl _ _ (w.heap.size + 1) 50 _ _ rfl hk5.out Tryz.underlying50 rfl info_leaf1) rfl ?_
  refine ⟨(HX3.out.grown hg4.out HX3.out.size (fun g hg => by injection hg with hg; omega)).grown hg5.out (by have := HX3.out.size; have := hg4.out.size; omega) (fun g hg => by injection hg with hg; omega), B, d, rfl, ?_⟩
  refine bf_from (bf_set (bf_set HO.out hg4.out fun b hb => by unfold From at hb; omega) hg5.out fun b hb => by unfold From at hb; omega) (by omega)
/-- is it the node's version, or any? -/
theorem isVersion_any (l : Lf) (A : Option Addr) (c : Nat) (v : Int) (w : World) : Calls Tryz.prog 48 #[.agg (lfC l A c).toArray, .int .i64 v] w (Ans (.bool (decide (v < 0 ∨ v = l.ver))) w) := by
  show Calls _ _ #[.agg #[.string ⟨l.path.toArray⟩, .slice A l.data.length c, .int .i64 l.ver, .int .i64 l.own, .int .i64 l.next, .int .i64 l.born], _] _ _
  by_cases h : v < 0
  · rw [show decide (v < 0 ∨ v = l.ver) = true by simp [h]]
    have hb : decide (v < 0) = true := by simp [h]
    go_enter Tryz.func48, Tryz.ntmps48
    go_wp2
    go_ret
    exact ⟨rfl, (Below.refl w.heap.size w).alloc (Nat.le_refl _) _⟩
  · rw [show decide (v < 0 ∨ v = l.ver) = decide (v = l.ver) by simp [h]]
    have hb : decide (v < 0) = false := by simp [h]
    have hn : ¬ v < 0 := h
    by_cases e : v = l.ver
    · have he : (v == l.ver) = true := by simpa using e
      rw [decide_eq_true e]
      clear e h
      go_enter Tryz.func48, Tryz.ntmps48
      go_wp2
      go_ret
      exact ⟨rfl, (Below.refl w.heap.size w).alloc (Nat.le_refl _) _⟩
    · have he : (v == l.ver) = false := by simpa using e
      rw [decide_eq_false e]
      clear e h
      go_enter Tryz.func48, Tryz.ntmps48
      go_wp2
      go_ret
      exact ⟨rfl, (Below.refl w.heap.size w).alloc (Nat.le_refl _) _⟩
end Go.Proofs.YtgppclmofphlfaaGreatDoor
