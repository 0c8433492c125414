import Derived.Test.YtcibjdodkcfpeaaOwn
import Derived.WalkSpells
namespace Go.Proofs.Ytcibjdodkcfpeaa
open Go.RowKit

theorem copyBytes_any (A : Option Addr) (n c : Nat) (l : List UInt8) (w : World) (h : Rd w A n (l.map bv)) (hn : n ≤ 1099511627776) :
    Calls Try.prog 22 #[.slice A n c] w (Fresh1 l w) := by
  obtain ⟨i0, hi, hz0, hz1, hz2⟩ := info_parts info_u8
  have HN := Lib.hid hn
  clear hn
  go_enter Try.func22, Try.ntmps22
  go_wp2_with (at_builtin
               refine wpList_append_rd _ rfl _ _ 28 rfl w.heap.size 5 i0 _ 1 Try.underlying28 hi hz0 hz1 hz2 rfl (some ⟨w.heap.size, 0, none⟩) 0 0 ([].map bv) rfl (own_empty w) A n c (l.map bv) rfl
                 (h.alloc _) (oneCell_bytes l) (by have := HN.out; simp only [maxLen]; omega) (by have := HN.out; omega) (by simp) ?_
               intro A2 c2 w2 hown2 hg2 hrow2)
  go_ret
  refine ⟨A2, n, c2, rfl, by simpa [OwnB] using hown2, ?_⟩
  exact ((Below.refl _ _).alloc (Nat.le_refl _) _).grown hg2 (by simp) (fun k e => by simp [Value.ownBlock] at e; omega)

theorem clone_nil (n c : Nat) (w : World) : Calls Try.prog 25 #[.slice none n c] w (Fresh1 [] w) := by
  have hnil := fun w => Lib.run_eql_slice_nil (P := Try.prog) w 28 5 none n c 0 0 Try.underlying28
  go_enter Try.func25, Try.ntmps25
  go_wp2
  go_ret
  exact ⟨none, 0, 0, rfl, OwnB.nil_ _ _, Below.refl _ _⟩

theorem clone_some (a : Addr) (n c : Nat) (l : List UInt8) (w : World) (h : Rd w (some a) n (l.map bv)) (hn : n ≤ 1099511627776) :
    Calls Try.prog 25 #[.slice (some a) n c] w (Fresh1 l w) := by
  obtain ⟨i0, hi, hz0, hz1, hz2⟩ := info_parts info_u8
  have HN := Lib.hid hn
  clear hn
  have hnil := fun w => Lib.run_eql_slice_nil (P := Try.prog) w 28 5 (some a) n c 0 0 Try.underlying28
  go_enter Try.func25, Try.ntmps25
  go_wp2_with (at_builtin
               refine wpList_append_rd _ rfl _ _ 28 rfl w.heap.size 5 i0 _ 1 Try.underlying28 hi hz0 hz1 hz2 rfl (some ⟨w.heap.size, 0, none⟩) 0 0 ([].map bv) rfl (own_empty w) (some a) n c (l.map bv) rfl
                 (h.alloc _) (oneCell_bytes l) (by have := HN.out; simp only [maxLen]; omega) (by have := HN.out; omega) (by simp) ?_
               intro A2 c2 w2 hown2 hg2 hrow2)
  go_ret
  refine ⟨A2, n, c2, rfl, by simpa [OwnB] using hown2, ?_⟩
  exact ((Below.refl _ _).alloc (Nat.le_refl _) _).grown hg2 (by simp) (fun k e => by simp [Value.ownBlock] at e; omega)

theorem Rd.none_nil {w : World} {n : Nat} {xs : List Value} (h : Rd w none n xs) : xs = [] := by
  cases xs with
  | nil => rfl
  | cons u r => obtain ⟨_, h, _⟩ := h.2 0 u rfl; cases h

theorem clone_any (A : Option Addr) (n c : Nat) (l : List UInt8) (w : World) (h : Rd w A n (l.map bv)) (hn : n ≤ 1099511627776) :
    Calls Try.prog 25 #[.slice A n c] w (Fresh1 l w) := by
  rcases A with _ | a
  · have := h.none_nil
    simp at this
    subst this
    exact clone_nil n c w
  · exact clone_some a n c l w h hn


end Go.Proofs.Ytcibjdodkcfpeaa
