/-
  Which parts a kind has. Walks; no statement.
-/
import Derived.Test.YtmgmmbgjmnklkaaMsgChk3
namespace Go.Proofs.Ytmgmmbgjmnklkaa
set_option maxRecDepth 100000
open Go.RowKit
open Pk
set_option linter.unusedVariables false

/-- a part as a value -/
def pv (p : Nat) : Value := .int .i64 (p : Int)
/-- partsOf's answer -/
def PartsP (k : Int) (w : World) (e : Ending) (w' : World) : Prop :=
  Below w.heap.size w w' ∧ ((kindB k = true ∧ ∃ a, e = .returned (.slice (some a) (partsN k).length (partsN k).length) ∧ Rd w' (some a) (partsN k).length ((partsN k).map pv) ∧ w.heap.size ≤ a.block) ∨ (kindB k = false ∧ e = Pn 80))
theorem parts_new {k : Int} {w : World} {ps : List Nat} {n : Nat} {vs : List Value} {t : TypeId} (hk : kindB k = true) (hp : partsN k = ps) (hv : ps.map pv = vs) (hn : ps.length = n) :
    PartsP k w (.returned (.slice (some ⟨w.heap.size, 0, none⟩) n n)) (w.alloc (.cells vs.toArray t)) := by
  refine ⟨(Below.refl _ _).alloc (Nat.le_refl _) _, .inl ⟨hk, ⟨w.heap.size, 0, none⟩, by rw [hp, hn], ?_, Nat.le_refl _⟩⟩
  rw [hp]
  have := Rd.new w vs t
  rw [← hv, List.length_map] at this
  rw [← hv]
  exact this

theorem partsOf_1 (w : World) : Calls Try.prog 69 #[.int .i64 1] w (PartsP 1 w) := by
  go_enter Try.func69, Try.ntmps69
  go_wp2
  go_ret
  exact parts_new (vs := [.int .i64 2, .int .i64 3, .int .i64 6]) rfl (ps := [2, 3, 6]) rfl rfl rfl

theorem partsOf_2 (w : World) : Calls Try.prog 69 #[.int .i64 2] w (PartsP 2 w) := by
  go_enter Try.func69, Try.ntmps69
  go_wp2
  go_ret
  exact parts_new (vs := [.int .i64 2, .int .i64 3, .int .i64 5]) rfl (ps := [2, 3, 5]) rfl rfl rfl

theorem partsOf_3 (w : World) : Calls Try.prog 69 #[.int .i64 3] w (PartsP 3 w) := by
  go_enter Try.func69, Try.ntmps69
  go_wp2
  go_ret
  exact parts_new (vs := [.int .i64 0, .int .i64 1, .int .i64 4]) rfl (ps := [0, 1, 4]) rfl rfl rfl

theorem partsOf_4 (w : World) : Calls Try.prog 69 #[.int .i64 4] w (PartsP 4 w) := by
  go_enter Try.func69, Try.ntmps69
  go_wp2
  go_ret
  exact parts_new (vs := [.int .i64 0, .int .i64 1, .int .i64 4]) rfl (ps := [0, 1, 4]) rfl rfl rfl

theorem partsOf_5 (w : World) : Calls Try.prog 69 #[.int .i64 5] w (PartsP 5 w) := by
  go_enter Try.func69, Try.ntmps69
  go_wp2
  go_ret
  exact parts_new (vs := [.int .i64 0, .int .i64 1, .int .i64 4]) rfl (ps := [0, 1, 4]) rfl rfl rfl

theorem partsOf_6 (w : World) : Calls Try.prog 69 #[.int .i64 6] w (PartsP 6 w) := by
  go_enter Try.func69, Try.ntmps69
  go_wp2
  go_ret
  exact parts_new (vs := [.int .i64 1, .int .i64 4]) rfl (ps := [1, 4]) rfl rfl rfl

theorem partsOf_7 (w : World) : Calls Try.prog 69 #[.int .i64 7] w (PartsP 7 w) := by
  go_enter Try.func69, Try.ntmps69
  go_wp2
  go_ret
  exact parts_new (vs := [.int .i64 5]) rfl (ps := [5]) rfl rfl rfl

theorem partsOf_8 (w : World) : Calls Try.prog 69 #[.int .i64 8] w (PartsP 8 w) := by
  go_enter Try.func69, Try.ntmps69
  go_wp2
  go_ret
  exact parts_new (vs := [.int .i64 2, .int .i64 3, .int .i64 6]) rfl (ps := [2, 3, 6]) rfl rfl rfl

theorem partsOf_9 (w : World) : Calls Try.prog 69 #[.int .i64 9] w (PartsP 9 w) := by
  go_enter Try.func69, Try.ntmps69
  go_wp2
  go_ret
  exact parts_new (vs := [.int .i64 1, .int .i64 2, .int .i64 3, .int .i64 6]) rfl (ps := [1, 2, 3, 6]) rfl rfl rfl

theorem partsOf_10 (w : World) : Calls Try.prog 69 #[.int .i64 10] w (PartsP 10 w) := by
  go_enter Try.func69, Try.ntmps69
  go_wp2
  go_ret
  exact parts_new (vs := [.int .i64 1, .int .i64 5]) rfl (ps := [1, 5]) rfl rfl rfl

theorem partsOf_11 (w : World) : Calls Try.prog 69 #[.int .i64 11] w (PartsP 11 w) := by
  go_enter Try.func69, Try.ntmps69
  go_wp2
  go_ret
  exact parts_new (vs := [.int .i64 0, .int .i64 1, .int .i64 7, .int .i64 8]) rfl (ps := [0, 1, 7, 8]) rfl rfl rfl

theorem partsOf_12 (w : World) : Calls Try.prog 69 #[.int .i64 12] w (PartsP 12 w) := by
  go_enter Try.func69, Try.ntmps69
  go_wp2
  go_ret
  exact parts_new (vs := [.int .i64 0, .int .i64 7]) rfl (ps := [0, 7]) rfl rfl rfl

theorem partsOf_13 (w : World) : Calls Try.prog 69 #[.int .i64 13] w (PartsP 13 w) := by
  go_enter Try.func69, Try.ntmps69
  go_wp2
  go_ret
  exact parts_new (vs := [.int .i64 1]) rfl (ps := [1]) rfl rfl rfl

theorem partsOf_14 (w : World) : Calls Try.prog 69 #[.int .i64 14] w (PartsP 14 w) := by
  go_enter Try.func69, Try.ntmps69
  go_wp2
  go_ret
  exact parts_new (vs := [.int .i64 1, .int .i64 6]) rfl (ps := [1, 6]) rfl rfl rfl

theorem partsOf_none (k : Int) (w : World) (h : kindB k = false) : Calls Try.prog 69 #[.int .i64 k] w (PartsP k w) := by
  have hk := Lib.hid h
  have h2 : ¬ (1 ≤ k ∧ k ≤ 14) := by unfold kindB at h; simpa using h
  have q1 : (k == 1) = false := by rw [beq_eq_false_iff_ne]; omega
  have q2 : (k == 2) = false := by rw [beq_eq_false_iff_ne]; omega
  have q3 : (k == 3) = false := by rw [beq_eq_false_iff_ne]; omega
  have q4 : (k == 4) = false := by rw [beq_eq_false_iff_ne]; omega
  have q5 : (k == 5) = false := by rw [beq_eq_false_iff_ne]; omega
  have q6 : (k == 6) = false := by rw [beq_eq_false_iff_ne]; omega
  have q7 : (k == 7) = false := by rw [beq_eq_false_iff_ne]; omega
  have q8 : (k == 8) = false := by rw [beq_eq_false_iff_ne]; omega
  have q9 : (k == 9) = false := by rw [beq_eq_false_iff_ne]; omega
  have q10 : (k == 10) = false := by rw [beq_eq_false_iff_ne]; omega
  have q11 : (k == 11) = false := by rw [beq_eq_false_iff_ne]; omega
  have q12 : (k == 12) = false := by rw [beq_eq_false_iff_ne]; omega
  have q13 : (k == 13) = false := by rw [beq_eq_false_iff_ne]; omega
  have q14 : (k == 14) = false := by rw [beq_eq_false_iff_ne]; omega
  clear h h2
  go_enter Try.func69, Try.ntmps69
  go_wp2
  exact ⟨rfl, Below.refl _ _, .inr ⟨hk.out, rfl⟩⟩
theorem partsOf_any (k : Int) (w : World) : Calls Try.prog 69 #[.int .i64 k] w (PartsP k w) := by
  by_cases h : kindB k = true
  · rcases kind_cases h with rfl | rfl | rfl | rfl | rfl | rfl | rfl | rfl | rfl | rfl | rfl | rfl | rfl | rfl
    · exact partsOf_1 w
    · exact partsOf_2 w
    · exact partsOf_3 w
    · exact partsOf_4 w
    · exact partsOf_5 w
    · exact partsOf_6 w
    · exact partsOf_7 w
    · exact partsOf_8 w
    · exact partsOf_9 w
    · exact partsOf_10 w
    · exact partsOf_11 w
    · exact partsOf_12 w
    · exact partsOf_13 w
    · exact partsOf_14 w
  · exact partsOf_none k w (by simpa using h)
end Go.Proofs.Ytmgmmbgjmnklkaa
