/-
  The reference's New. Walks; no statement.
-/
import Derived.Test.YtgppclmofphlfaaGreatDoorTreeRef3
namespace Go.Proofs.YtgppclmofphlfaaGreatDoor
set_option maxRecDepth 100000
open Go.RowKit
set_option linter.unusedVariables false

set_option maxHeartbeats 3200000 in
theorem refNew_any (w : World) : Calls Tryz.prog 13 #[] w (FreshW (fun _ => False) [lfRoot] w) := by
  obtain ⟨i0, hi, hz0, hz1, hz2⟩ := info_parts info_leaf
  go_enter Tryz.func13, Tryz.ntmps13
  go_wp2_with fail
  have h0 := (Bk.new w 30 [.slice (some ⟨w.heap.size + 1, 0, none⟩) 1 1]).alloc (.cells #[.string ⟨#[47]⟩, .slice none 0 0, .int .i64 0, .int .i64 (-1), .int .i64 0, .int .i64 0] 50)
  have h1 := Bk.new (w.alloc (.cells #[.slice (some ⟨w.heap.size + 1, 0, none⟩) 1 1] 30)) 50 [.string ⟨#[47]⟩, .slice none 0 0, .int .i64 0, .int .i64 (-1), .int .i64 0, .int .i64 0]
  rw [show (w.alloc (.cells #[.slice (some ⟨w.heap.size + 1, 0, none⟩) 1 1] 30)).heap.size = w.heap.size + 1 by simp] at h1
  have hb := ((Below.refl w.heap.size w).alloc (Nat.le_refl _) (.cells #[.slice (some ⟨w.heap.size + 1, 0, none⟩) 1 1] 30)).alloc (by simp) (.cells #[.string ⟨#[47]⟩, .slice none 0 0, .int .i64 0, .int .i64 (-1), .int .i64 0, .int .i64 0] 50)
  refine bodyPost_ret_by (results_row1 rfl _ _ w.heap.size 30 _ _ rfl h0 Tryz.underlying30 rfl info_tree1) rfl ?_
  refine ⟨hb, some ⟨w.heap.size + 1, 0, none⟩, 1, rfl, by simp, by simp [maxLen], (fun e => by cases e), fun k x hx => ?_⟩
  cases k with
  | succ k => simp at hx
  | zero =>
    obtain rfl : lfRoot = x := by simpa using hx
    refine ⟨_, [.string ⟨#[47]⟩, .slice none 0 0, .int .i64 0, .int .i64 (-1), .int .i64 0, .int .i64 0], rfl, .inr (by simp), by simp, fun j u hu => ?_, none, 0, rfl, BF.nil_ _ _⟩
    have h2 := h1.at_ hu
    have ha : (⟨w.heap.size + 1, 0, none⟩ : Addr).add (0 * RLf.sz + j) = ⟨w.heap.size + 1, j, none⟩ := by
      rw [Nat.zero_mul, Nat.zero_add]
      unfold Addr.add
      split <;> simp_all
    rw [ha]
    exact h2
end Go.Proofs.YtgppclmofphlfaaGreatDoor
