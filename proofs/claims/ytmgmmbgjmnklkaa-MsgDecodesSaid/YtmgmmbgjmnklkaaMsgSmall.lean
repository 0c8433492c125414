/-
  The small calls of msg: what panics with which error. Walks; no statement.
-/
import Derived.Test.YtmgmmbgjmnklkaaMsgMem
import Derived.WalkSmall
namespace Go.Proofs.Ytmgmmbgjmnklkaa
set_option maxRecDepth 100000
open Go.RowKit
open Pk
set_option linter.unusedVariables false

/-- a panic with an error's number -/
abbrev Pn (k : Int) : Ending := .panicked [{ v := .iface 32 (.int .i64 k), recovered := false }]

theorem need_yes (w : World) : Calls Try.prog 86 #[.bool true] w fun e w' => e = .returned (.tuple #[]) ∧ w = w' := by
  go_enter Try.func86, Try.ntmps86
  go_wp2
  go_end0
  exact ⟨rfl, rfl⟩
theorem need_no (w : World) : Calls Try.prog 86 #[.bool false] w fun e w' => e = Pn 81 ∧ w = w' := by
  go_enter Try.func86, Try.ntmps86
  go_wp2
  exact ⟨rfl, rfl, rfl⟩
/-- 'nothing came back, if this is so; else a panic' -/
def Chk (b : Bool) (k : Int) (w : World) (e : Ending) (w' : World) : Prop := Below w.heap.size w w' ∧ ((b = true ∧ e = .returned (.tuple #[])) ∨ (b = false ∧ e = Pn k))
/-- likewise where the world is the same -/
def Chk0 (b : Bool) (k : Int) (w : World) (e : Ending) (w' : World) : Prop := w = w' ∧ ((b = true ∧ e = .returned (.tuple #[])) ∨ (b = false ∧ e = Pn k))
theorem need_any (b : Bool) (w : World) : Calls Try.prog 86 #[.bool b] w (Chk0 b 81 w) := by
  cases b
  · refine (need_no w).mono ?_
    rintro e w' ⟨rfl, rfl⟩
    exact ⟨rfl, .inr ⟨rfl, rfl⟩⟩
  · refine (need_yes w).mono ?_
    rintro e w' ⟨rfl, rfl⟩
    exact ⟨rfl, .inl ⟨rfl, rfl⟩⟩
theorem below_any (v n : Int) (w : World) : Calls Try.prog 94 #[.int .i64 v, .int .i64 n] w fun e w' => e = .returned (.bool (decide (0 ≤ v ∧ v < n))) ∧ w = w' := by
  by_cases h0 : 0 ≤ v
  · have hd := Lib.hid (show decide (0 ≤ v ∧ v < n) = decide (v < n) by simp [h0])
    go_enter Try.func94, Try.ntmps94
    go_wp2
    go_ret
    exact ⟨ret_bool hd.out.symm, rfl⟩
  · have h2 : decide (0 ≤ v) = false := by simp; omega
    go_enter Try.func94, Try.ntmps94
    go_wp2
    go_ret
    exact ⟨rfl, rfl⟩
theorem checkRole_any (v : Int) (w : World) : Calls Try.prog 93 #[.int .i64 v] w (Chk0 (roleB v) 81 w) := by
  have HN := Lib.hid (need_any (roleB v) w)
  by_cases h0 : 1 ≤ v
  · by_cases h1 : v ≤ 4
    · have hd : roleB v = true := by unfold roleB; simp [h0, h1]
      rw [hd] at HN ⊢
      clear hd
      go_enter Try.func93, Try.ntmps93
      go_wp2_with fail
      refine HN.out.mono ?_
      rintro e w' ⟨rfl, ⟨_, rfl⟩ | ⟨h, _⟩⟩
      · go_wp2_with fail
        go_end0
        exact ⟨rfl, .inl ⟨rfl, rfl⟩⟩
      · cases h
    · have hd : roleB v = false := by unfold roleB; simp [h0]; omega
      rw [hd] at HN ⊢
      clear hd
      have h2 : ¬ (v ≤ 4) := h1
      go_enter Try.func93, Try.ntmps93
      go_wp2_with fail
      refine HN.out.mono ?_
      rintro e w' ⟨rfl, ⟨h, rfl⟩ | ⟨h, rfl⟩⟩
      · cases h
      · exact ⟨rfl, rfl, .inr ⟨rfl, rfl⟩⟩
  · have hd : roleB v = false := by unfold roleB; simp; omega
    rw [hd] at HN ⊢
    clear hd
    have h2 : ¬ (1 ≤ v) := h0
    go_enter Try.func93, Try.ntmps93
    go_wp2_with fail
    refine HN.out.mono ?_
    rintro e w' ⟨rfl, ⟨h, rfl⟩ | ⟨h, rfl⟩⟩
    · cases h
    · exact ⟨rfl, rfl, .inr ⟨rfl, rfl⟩⟩
theorem mustB_yes (A : Option Addr) (n c : Nat) (w : World) : Calls Try.prog 72 #[.slice A n c, .int .i64 0] w fun e w' => e = .returned (.slice A n c) ∧ w = w' := by
  go_enter Try.func72, Try.ntmps72
  go_wp2
  go_ret
  exact ⟨rfl, rfl⟩
theorem mustB_no (v : Value) (k : Int) (hk : k ≠ 0) (w : World) : Calls Try.prog 72 #[v, .int .i64 k] w fun e w' => e = Pn k ∧ w = w' := by
  have h1 : (k != 0) = true := by rw [bne_iff_ne]; exact hk
  go_enter Try.func72, Try.ntmps72
  go_wp2
  exact ⟨rfl, rfl, rfl⟩
theorem mustR_yes (A : Option Addr) (n c : Nat) (w : World) : Calls Try.prog 84 #[.slice A n c, .int .i64 0] w fun e w' => e = .returned (.slice A n c) ∧ w = w' := by
  go_enter Try.func84, Try.ntmps84
  go_wp2
  go_ret
  exact ⟨rfl, rfl⟩
theorem mustR_no (v : Value) (k : Int) (hk : k ≠ 0) (w : World) : Calls Try.prog 84 #[v, .int .i64 k] w fun e w' => e = Pn k ∧ w = w' := by
  have h1 : (k != 0) = true := by rw [bne_iff_ne]; exact hk
  go_enter Try.func84, Try.ntmps84
  go_wp2
  exact ⟨rfl, rfl, rfl⟩
theorem mustI_yes (A : Option Addr) (n c : Nat) (w : World) : Calls Try.prog 121 #[.slice A n c, .int .i64 0] w fun e w' => e = .returned (.slice A n c) ∧ w = w' := by
  go_enter Try.func121, Try.ntmps121
  go_wp2
  go_ret
  exact ⟨rfl, rfl⟩
theorem mustI_no (v : Value) (k : Int) (hk : k ≠ 0) (w : World) : Calls Try.prog 121 #[v, .int .i64 k] w fun e w' => e = Pn k ∧ w = w' := by
  have h1 : (k != 0) = true := by rw [bne_iff_ne]; exact hk
  go_enter Try.func121, Try.ntmps121
  go_wp2
  exact ⟨rfl, rfl, rfl⟩
/-- 'just so many: the list; else a panic' -/
def Exa (n k : Nat) (v : Value) (w : World) (e : Ending) (w' : World) : Prop := w = w' ∧ ((n = k ∧ e = .returned v) ∨ (n ≠ k ∧ e = Pn 81))
theorem exactlyR_any (A : Option Addr) (n c k : Nat) (w : World) :
    Calls Try.prog 88 #[.int .i64 (k : Int), .slice A n c] w (Exa n k (.slice A n c) w) := by
  by_cases h : n = k
  · subst h
    have h1 : ((n : Int) == (n : Int)) = true := by simp
    go_enter Try.func88, Try.ntmps88
    go_wp2_with fail
    refine (need_yes _).mono ?_
    rintro e w' ⟨rfl, rfl⟩
    go_wp2_with fail
    go_ret
    exact ⟨rfl, .inl ⟨rfl, rfl⟩⟩
  · have h1 : ((n : Int) == (k : Int)) = false := by rw [beq_eq_false_iff_ne]; omega
    have HH := Lib.hid h
    clear h
    go_enter Try.func88, Try.ntmps88
    go_wp2_with fail
    refine (need_no _).mono ?_
    rintro e w' ⟨rfl, rfl⟩
    exact ⟨rfl, rfl, .inr ⟨HH.out, rfl⟩⟩
theorem exactlyI_any (A : Option Addr) (n c k : Nat) (w : World) :
    Calls Try.prog 120 #[.int .i64 (k : Int), .slice A n c] w (Exa n k (.slice A n c) w) := by
  by_cases h : n = k
  · subst h
    have h1 : ((n : Int) == (n : Int)) = true := by simp
    go_enter Try.func120, Try.ntmps120
    go_wp2_with fail
    refine (need_yes _).mono ?_
    rintro e w' ⟨rfl, rfl⟩
    go_wp2_with fail
    go_ret
    exact ⟨rfl, .inl ⟨rfl, rfl⟩⟩
  · have h1 : ((n : Int) == (k : Int)) = false := by rw [beq_eq_false_iff_ne]; omega
    have HH := Lib.hid h
    clear h
    go_enter Try.func120, Try.ntmps120
    go_wp2_with fail
    refine (need_no _).mono ?_
    rintro e w' ⟨rfl, rfl⟩
    exact ⟨rfl, rfl, .inr ⟨HH.out, rfl⟩⟩
end Go.Proofs.Ytmgmmbgjmnklkaa
