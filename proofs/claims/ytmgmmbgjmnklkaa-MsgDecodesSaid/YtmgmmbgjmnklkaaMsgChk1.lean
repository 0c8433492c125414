/-
  The program's checks of an entry and of a letter. Walks; no statement.
-/
import Derived.Test.YtmgmmbgjmnklkaaMsgSmall
namespace Go.Proofs.Ytmgmmbgjmnklkaa
set_option maxRecDepth 100000
open Go.RowKit
open Pk
set_option linter.unusedVariables false

theorem Chk.yes {b : Bool} {k : Int} {w w' : World} (h : b = true) (hb : Below w.heap.size w w') : Chk b k w (.returned (.tuple #[])) w' := ⟨hb, .inl ⟨h, rfl⟩⟩
theorem Chk.no {b : Bool} {k : Int} {w w' : World} (h : b = false) (hb : Below w.heap.size w w') : Chk b k w (Pn k) w' := ⟨hb, .inr ⟨h, rfl⟩⟩

theorem checkEntry_any (x y z : Int) (A : Option Addr) (n c : Nat) (dig : List UInt8) (w : World) (hn : dig.length = n) :
    Calls Try.prog 59 #[.agg #[.int .i64 x, .int .i64 y, .int .i64 z, .slice A n c]] w (Chk (En.ok ⟨x, y, z, dig⟩) 81 w) := by
  have HB := Lib.hid ((Below.refl w.heap.size w).alloc (Nat.le_refl _) (.cells #[.int .i64 x, .int .i64 y, .int .i64 z, .slice A n c] 24))
  have HE := Lib.hid (show En.ok ⟨x, y, z, dig⟩ = (wideB z && (if x = -1 then decide (y = 0) && decide (n = 0) else peerB x && (wideB y && decide (n = 32)))) by simp [En.ok, hn])
  clear hn
  by_cases hx : x = -1
  · subst hx
    have HE := Lib.hid (show En.ok ⟨-1, y, z, dig⟩ = (wideB z && (decide (y = 0) && decide (n = 0))) by rw [HE.out]; simp)
    by_cases hy : y = 0
    · subst hy
      go_enter Try.func59, Try.ntmps59
      go_wp2_with (first
        | (go_at_call 94; refine (below_any _ _ _).mono ?_; rintro e w' ⟨rfl, rfl⟩)
        | (go_at_call 86; refine (need_any _ _).mono ?_; rintro e w' ⟨rfl, ⟨hb, rfl⟩ | ⟨hb, rfl⟩⟩))
      all_goals first
      | contradiction
      | (go_end0; exact Chk.yes (by rw [HE.out]; simp [wideB] at *; omega) HB.out)
      | (refine bodyPost_ret (results_none rfl _ _ _) rfl ?_; exact Chk.yes (by rw [HE.out]; simp [wideB, peerB] at *; omega) HB.out)
      | exact ⟨rfl, Chk.no (by rw [HE.out]; simp [wideB] at *; omega) HB.out⟩
    · have hy2 : (y == 0) = false := by rw [beq_eq_false_iff_ne]; exact hy
      go_enter Try.func59, Try.ntmps59
      go_wp2_with (first
        | (go_at_call 94; refine (below_any _ _ _).mono ?_; rintro e w' ⟨rfl, rfl⟩)
        | (go_at_call 86; refine (need_any _ _).mono ?_; rintro e w' ⟨rfl, ⟨hb, rfl⟩ | ⟨hb, rfl⟩⟩))
      all_goals first
      | contradiction
      | (go_end0; exact Chk.yes (by rw [HE.out]; simp [wideB] at *; omega) HB.out)
      | (refine bodyPost_ret (results_none rfl _ _ _) rfl ?_; exact Chk.yes (by rw [HE.out]; simp [wideB, peerB] at *; omega) HB.out)
      | exact ⟨rfl, Chk.no (by rw [HE.out]; simp [wideB] at *; omega) HB.out⟩
  · have HE := Lib.hid (show En.ok ⟨x, y, z, dig⟩ = (wideB z && (peerB x && (wideB y && decide (n = 32)))) by rw [HE.out]; simp [hx])
    have hx2 : (x == -1) = false := by rw [beq_eq_false_iff_ne]; exact hx
    go_enter Try.func59, Try.ntmps59
    go_wp2_with (first
        | (go_at_call 94; refine (below_any _ _ _).mono ?_; rintro e w' ⟨rfl, rfl⟩)
        | (go_at_call 86; refine (need_any _ _).mono ?_; rintro e w' ⟨rfl, ⟨hb, rfl⟩ | ⟨hb, rfl⟩⟩))
    all_goals first
      | contradiction
      | (go_end0; exact Chk.yes (by rw [HE.out]; simp [wideB, peerB] at *; omega) HB.out)
      | (refine bodyPost_ret (results_none rfl _ _ _) rfl ?_; exact Chk.yes (by rw [HE.out]; simp [wideB, peerB] at *; omega) HB.out)
      | exact ⟨rfl, Chk.no (by rw [HE.out]; simp [wideB, peerB] at *; omega) HB.out⟩
end Go.Proofs.Ytmgmmbgjmnklkaa
