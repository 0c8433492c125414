/-
  The laws' own 'cut': the first sixty calls of a script. A walk; no statement.
-/
import Derived.Test.YtcibjdodkcfpeaaDiskPlain
import Derived.Test.YtcibjdodkcfpeaaBlocks
namespace Go.Proofs.Ytcibjdodkcfpeaa
open Go.RowKit
set_option linter.unusedVariables false

/-- a call's cells, as the walk names them -/
theorem CallAt.five {w : World} {x : Addr} {o : Call} (h : CallAt w x o) :
    ∃ B p pc C q qc, w.cell? x = some (.int .i64 o.what) ∧ w.cell? ⟨x.block, x.off + 1, none⟩ = some (.int .i64 o.area) ∧ w.cell? ⟨x.block, x.off + 2, none⟩ = some (.int .i64 o.n) ∧ w.cell? ⟨x.block, x.off + 3, none⟩ = some (.slice B p pc) ∧ w.cell? ⟨x.block, x.off + 4, none⟩ = some (.slice C q qc) ∧
      (Lit.int .i64 o.what).wf = true ∧ (Lit.int .i64 o.area).wf = true ∧ (Lit.int .i64 o.n).wf = true ∧ InR w (.slice B p pc) o.parts ∧ InI w (.slice C q qc) o.areas ∧ o.areas.length ≤ 140737488355328 := by
  obtain ⟨B, p, pc, C, q, qc, h0, h1, h2, h3, h4, r⟩ := h
  refine ⟨B, p, pc, C, q, qc, ?_, ?_, ?_, ?_, ?_, r⟩
  · simpa [Addr.add] using h0
  · simpa [Addr.add] using h1
  · simpa [Addr.add] using h2
  · simpa [Addr.add] using h3
  · simpa [Addr.add] using h4
theorem RdCalls.front {w : World} {A : Option Addr} {n m : Nat} {ops : List Call} (h : RdCalls w A n ops) (hm : m ≤ n) : RdCalls w A m (ops.take m) :=
  ⟨by have := h.1; simp; omega, fun k o hk => h.2 k o (by rw [List.getElem?_take] at hk; split at hk <;> simp_all)⟩
theorem cut_any (A : Option Addr) (n c : Nat) (ops : List Call) (w : World) (h : RdCalls w A n ops) (hnc : n ≤ c) (hcm : c ≤ maxLen) :
    Calls Try.prog 10 #[.slice A n c] w (fun e w' => ∃ m, e = .returned (.slice A m c) ∧ RdCalls w A m (ops.take 60) ∧ m ≤ 60 ∧ m ≤ n ∧ w' = w) := by
  have HR := Lib.hid h
  have hl := h.1
  clear h
  by_cases h60 : 60 < n
  · have g1 : (60 : Int) < (n : Int) := by omega
    have HM := Lib.hid h60
    have y : (60 : Int) ≤ (c : Int) := by omega
    clear h60 hl
    go_enter Try.func10, Try.ntmps10
    go_wp2_with fail
    go_ret
    exact ⟨60, rfl, HR.out.front (by have := HM.out; omega), Nat.le_refl _, by have := HM.out; omega, rfl⟩
  · have g1 : ¬ (60 : Int) < (n : Int) := by omega
    have HM := Lib.hid (show n ≤ 60 by omega)
    have HE := Lib.hid (show ops.take 60 = ops from List.take_of_length_le (by omega))
    clear h60 hl
    go_enter Try.func10, Try.ntmps10
    go_wp2_with fail
    go_ret
    exact ⟨n, rfl, by rw [HE.out]; exact HR.out, HM.out, Nat.le_refl _, rfl⟩
end Go.Proofs.Ytcibjdodkcfpeaa
