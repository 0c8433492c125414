/-
  Scripts of sessions' calls that are too long. A walk; no statement.
-/
import Derived.Test.YtfbdmemjojjgnaaOpenSess
namespace Go.Proofs.Ytfbdmemjojjgnaa
set_option maxRecDepth 100000
open Go.RowKit
set_option linter.unusedVariables false
set_option maxRecDepth 100000

/-- how much a script is -/
def soW : List So → Nat
  | [] => 0
  | o :: r => 1 + o.clients.length + soW r
theorem soW_append (a b : List So) : soW (a ++ b) = soW a + soW b := by
  induction a with
  | nil => simp [soW]
  | cons x r ih => simp [soW, ih]; omega
theorem soW_next (ops : List So) (k : Nat) (o : So) (h : ops[k]? = some o) : soW (ops.take (k + 1)) = soW (ops.take k) + (1 + o.clients.length) := by
  obtain ⟨hk, rfl⟩ := List.getElem?_eq_some_iff.1 h
  rw [List.take_succ_eq_append_getElem hk, soW_append]
  simp [soW]
theorem soW_mem {ops : List So} {o : So} (h : o ∈ ops) : o.clients.length ≤ soW ops := by
  induction ops with
  | nil => cases h
  | cons x r ih =>
    unfold soW
    rcases List.mem_cons.1 h with e | e
    · subst e; omega
    · have := ih e; omega
theorem soW_len (ops : List So) : ops.length ≤ soW ops := by
  induction ops with
  | nil => exact Nat.le_refl _
  | cons x r ih => unfold soW; simp only [List.length_cons]; omega
/-- what the answer tells -/
def GreatS (ops : List So) (w : World) (e : Ending) (w' : World) : Prop := ∃ b, e = .returned (.bool b) ∧ (b = false → soW ops ≤ 3000) ∧ w' = w
set_option maxHeartbeats 1600000 in
theorem greatS_any (A : Option Addr) (c : Nat) (ops : List So) (w : World) (h : RdS RSo AllB w A c ops) (hg : ∀ o ∈ ops, o.big) :
    Calls Try.prog 8 #[.slice A ops.length c] w (GreatS ops w) := by
  have hn : ops.length ≤ 9223372036854775807 := by have := h.1; have := h.2.1; unfold maxLen at this; omega
  have HR := Lib.hid h
  have HG := Lib.hid hg
  obtain ⟨n, hl⟩ : ∃ n, n = ops.length := ⟨_, rfl⟩
  rw [← hl] at hn ⊢
  have HL := Lib.hid hl.symm
  clear h hl hg
  go_enter Try.func8, Try.ntmps8
  go_wp2_with fail
  go_loopw [3, 4] (fun m i wr => ∃ (k acc : Nat), k ≤ n ∧ i = .int .i64 k ∧ m = .int .i64 acc ∧ acc ≤ 562949953521314 ∧ (acc = soW (ops.take k) ∨ 3000 < acc) ∧ wr = w) (fun _ i _ => n - (intOf i).toNat)
  case atStart => exact ⟨0, 0, by omega, rfl, rfl, by omega, .inl rfl, rfl⟩
  case round =>
    obtain ⟨k, acc, hk, rfl, rfl, hab, hacc, rfl⟩ := hrel
    have HACC := Lib.hid hacc
    clear hacc
    by_cases hkn : k < n ∧ acc ≤ 100000
    · obtain ⟨hkn, ha⟩ := hkn
      have hkl : k < ops.length := by rw [HL.out]; exact hkn
      have hx : ops[k]? = some ops[k] := List.getElem?_eq_getElem hkl
      obtain ⟨x, C, e, rfl, -, -, -, -, -, c4, -⟩ := HR.out.so5 hx
      have hs := (HG.out _ (List.getElem_mem hkl)).clients
      have HWN := Lib.hid (soW_next ops k _ hx)
      generalize ops[k] = o at *
      obtain ⟨s, hlD⟩ : ∃ s, s = o.clients.length := ⟨_, rfl⟩
      rw [← hlD] at c4 hs
      have HLN := Lib.hid hlD.symm
      have y1 : (0 : Int) ≤ (k : Int) := by omega
      have y2 : (k : Int) < (n : Int) := by omega
      have y3 : (acc : Int) ≤ 100000 := by omega
      have y4 : decide ((acc : Int) ≤ 100000) = true := decide_eq_true y3
      have w1 : IntKind.i64.wrap ((k : Int) + 1) = (k : Int) + 1 := by simp only [IntKind.wrap, IntKind.bits, IntKind.signed]; simp; omega
      have w2 : IntKind.i64.wrap (1 + (s : Int)) = 1 + (s : Int) := by simp only [IntKind.wrap, IntKind.bits, IntKind.signed]; simp; omega
      have w5 : IntKind.i64.wrap ((acc : Int) + (1 + (s : Int))) = ((acc + (1 + s) : Nat) : Int) := by simp only [IntKind.wrap, IntKind.bits, IntKind.signed]; simp; omega
      clear hx hkl hlD
      go_wp2_with fail
      go_roundw
      case rel =>
        refine ⟨k + 1, acc + (1 + s), by omega, by go_num, rfl, by omega, ?_, by first | rfl | trivial⟩
        rcases HACC.out with e | e
        · left; rw [HWN.out, e, HLN.out]
        · right; omega
      case measure => simp [intOf]; omega
    · have HE := Lib.hid (show decide (3000 < acc) = false → soW ops ≤ 3000 from fun hb => by
        simp only [decide_eq_false_iff_not] at hb
        have hkn' : k = n := by omega
        rcases HACC.out with e | e
        · rw [hkn', List.take_of_length_le (by have := HL.out; omega)] at e
          omega
        · omega)
      by_cases hkn2 : k < n
      · have y2 : (k : Int) < (n : Int) := by omega
        have y3 : ¬ ((acc : Int) ≤ 100000) := by omega
        have y5 : decide ((acc : Int) ≤ 100000) = false := decide_eq_false y3
        have y4 : (3000 : Int) < (acc : Int) := by omega
        clear hkn
        go_wp2_with fail
        go_ret
        exact ⟨true, rfl, (fun h => by cases h), rfl⟩
      · have y2 : ¬ ((k : Int) < (n : Int)) := by omega
        clear hkn
        by_cases h1 : 3000 < acc
        · have y4 : (3000 : Int) < (acc : Int) := by omega
          go_wp2_with fail
          go_ret
          exact ⟨true, rfl, (fun h => by cases h), rfl⟩
        · have y4 : ¬ ((3000 : Int) < (acc : Int)) := by omega
          have HE2 := Lib.hid (HE.out (by simp [h1]))
          go_wp2_with fail
          go_ret
          exact ⟨false, rfl, (fun _ => HE2.out), rfl⟩
end Go.Proofs.Ytfbdmemjojjgnaa
