/-
  The laws' own 'great': a script that it lets pass has few parts, bytes and areas. A walk; no statement.
-/
import Derived.Test.YtcibjdodkcfpeaaDiskCut
namespace Go.Proofs.Ytcibjdodkcfpeaa
open Go.RowKit
set_option linter.unusedVariables false

def rowsW : List (List UInt8) → Nat
  | [] => 0
  | l :: r => 1 + l.length + rowsW r
def weight : List Call → Nat
  | [] => 0
  | o :: r => rowsW o.parts + o.areas.length + weight r
theorem rowsW_append (a b : List (List UInt8)) : rowsW (a ++ b) = rowsW a + rowsW b := by
  induction a with
  | nil => simp [rowsW]
  | cons x r ih => simp [rowsW, ih]; omega
theorem weight_append (a b : List Call) : weight (a ++ b) = weight a + weight b := by
  induction a with
  | nil => simp [weight]
  | cons x r ih => simp [weight, ih]; omega
theorem rowsW_next (ls : List (List UInt8)) (k : Nat) (h : k < ls.length) : rowsW (ls.take (k + 1)) = rowsW (ls.take k) + (1 + (ls.getD k []).length) := by
  rw [take_snocD ls [] k h, rowsW_append]
  simp [rowsW]
theorem weight_next (ops : List Call) (k : Nat) (h : k < ops.length) : weight (ops.take (k + 1)) = weight (ops.take k) + (rowsW ops[k].parts + ops[k].areas.length) := by
  rw [List.take_succ_eq_append_getElem h, weight_append]
  simp [weight]
/-- what the answer tells -/
def GreatS (ops : List Call) (w : World) (e : Ending) (w' : World) : Prop := ∃ b, e = .returned (.bool b) ∧ (b = false → weight ops ≤ 5000) ∧ w' = w
theorem great_any (A : Option Addr) (n c : Nat) (ops : List Call) (w : World) (h : RdCalls w A n ops) (hn : n ≤ 60) :
    Calls Try.prog 11 #[.slice A n c] w (GreatS ops w) := by
  have hl := h.1
  have HR := Lib.hid h
  have HL := Lib.hid hl
  have HN := Lib.hid hn
  clear h hl
  go_enter Try.func11, Try.ntmps11
  go_wp2_with fail
  go_loop [3, 4] (fun m i => ∃ k : Nat, ∃ acc : Nat, k ≤ n ∧ i = .int .i64 k ∧ m = .int .i64 acc ∧ acc ≤ 281474976810657 ∧ (acc = weight (ops.take k) ∨ 5000 < acc)) (fun _ i => n - (intOf i).toNat)
  case atStart => exact ⟨0, 0, by omega, rfl, rfl, by omega, .inl rfl⟩
  case round =>
    obtain ⟨k, acc, hk, rfl, rfl, hab, hacc⟩ := hrel
    have HACC := Lib.hid hacc
    have HAB := Lib.hid hab
    clear hab hacc
    by_cases hkn : k < n
    · have hkl : k < ops.length := by rw [HL.out]; exact hkn
      obtain ⟨a, rfl, _, hca⟩ := HR.out.2 k ops[k] (List.getElem?_eq_getElem hkl)
      have HWN := Lib.hid (weight_next ops k hkl)
      obtain ⟨B, p, pc, C, q0, qc, x0, x1, x2, x3, x4, _, _, _, hRr, hI, hIz⟩ := hca.five
      generalize ops[k] = o at *
      obtain ⟨B', p', pc', eB, hp1, hp2, hRd, _, hRz⟩ := hRr
      injection eB with eB1 eB2 eB3
      subst eB1 eB2 eB3
      obtain ⟨C', q0', qc', eC, hq1, hq2, hRi, _, _⟩ := hI
      injection eC with eC1 eC2 eC3
      subst eC1 eC2 eC3
      have HP := Lib.hid hRd.1
      have HQ := Lib.hid (show o.areas.length = q0 by simpa using hRi.1)
      have HRd := Lib.hid hRd
      have HB1 := Lib.hid (show p ≤ maxLen ∧ q0 ≤ 140737488355328 from ⟨by omega, by have := HQ.out; omega⟩)
      have HRZ := Lib.hid hRz
      have HKN := Lib.hid hkn
      have y1 : (0 : Int) ≤ (k : Int) := by omega
      have y2 : (k : Int) < (n : Int) := by omega
      have y3 : (n : Int) ≤ 60 := by omega
      have w1 : IntKind.i64.wrap ((k : Int) + 1) = (k : Int) + 1 := by simp only [IntKind.wrap, IntKind.bits, IntKind.signed]; simp; omega
      clear hRd hRi hca hIz hRz hp1 hp2 hq1 hq2 hkl
      by_cases ha : acc ≤ 100000
      · have ha' : (acc : Int) ≤ 100000 := by omega
        have HST := Lib.hid ha
        go_wp2_with fail
        go_loop [3, 5] (fun m j => ∃ q : Nat, ∃ acc' : Nat, q ≤ p ∧ j = .int .i64 q ∧ m = .int .i64 acc' ∧ acc' ≤ 140737488455329 ∧ (acc' = weight (ops.take k) + rowsW (o.parts.take q) ∨ 5000 < acc')) (fun _ j => p - (intOf j).toNat)
        case atStart => exact ⟨0, acc, by omega, rfl, rfl, by omega, by rcases HACC.out with h | h; (left; simp [rowsW]; omega); (right; exact h)⟩
        case round =>
          obtain ⟨q, acc', hq, rfl, rfl, hab', hacc'⟩ := hrel
          have HACC' := Lib.hid hacc'
          have HAB' := Lib.hid hab'
          clear hab' hacc'
          have hfin : ∀ m : Nat, (q = p ∨ 100000 < acc') → (acc' + q0 = weight (ops.take (k + 1)) ∨ 5000 < acc' + q0) := by
            intro _ hc
            rcases HACC'.out with h | h
            · rcases hc with hc | hc
              · left
                have e : o.parts.take q = o.parts := List.take_of_length_le (by have := HP.out; omega)
                rw [HWN.out, h, e, HQ.out]
                omega
              · right; omega
            · right; omega
          have HFIN := Lib.hid (hfin 0)
          have w3 : IntKind.i64.wrap ((acc' : Int) + (q0 : Int)) = ((acc' + q0 : Nat) : Int) := by
            have := HAB'.out; have := HB1.out
            simp only [maxLen] at *
            simp only [IntKind.wrap, IntKind.bits, IntKind.signed]; simp; omega
          clear hfin
          by_cases hqp : q < p
          · by_cases ha2 : acc' ≤ 100000
            · obtain ⟨b, E, e, rfl, _, hc, _, hem, _, _⟩ := HRd.out.at_ hqp
              have HRN := Lib.hid (rowsW_next o.parts q (by rw [HP.out]; exact hqp))
              have hzl : (o.parts.getD q []).length ≤ 140737488355328 := HRZ.out _ (getD_mem (by have := HP.out; omega))
              generalize o.parts.getD q [] = z at *
              have z0 : (acc' : Int) ≤ 100000 := by omega
              have z1 : (0 : Int) ≤ (q : Int) := by omega
              have z2 : (q : Int) < (p : Int) := by omega
              have HZ := Lib.hid hzl
              have HQP := Lib.hid hqp
              have z3 : (z.length : Int) ≤ 140737488355328 := by have := HZ.out; omega
              have HA2 := Lib.hid ha2
              have w5 : IntKind.i64.wrap ((q : Int) + 1) = (q : Int) + 1 := by
                have := HB1.out
                simp only [maxLen] at *
                simp only [IntKind.wrap, IntKind.bits, IntKind.signed]; simp; omega
              clear hem hzl
              go_wp2_with fail
              go_round
              case rel => exact ⟨q + 1, acc' + (1 + z.length), by have := HQP.out; omega, by go_num, by go_num, by have := HZ.out; have := HA2.out; omega, by rw [HRN.out]; rcases HACC'.out with h | h; (left; omega); (right; omega)⟩
              case measure => have := HQP.out; simp [intOf]; omega
            · have z0 : ¬ (acc' : Int) ≤ 100000 := by omega
              have HQP := Lib.hid (show 100000 < acc' by omega)
              have z2 : (q : Int) < (p : Int) := by omega
              clear ha2
              go_wp2_with fail
              go_round
              case rel => exact ⟨k + 1, acc' + q0, by have := HKN.out; omega, by go_num, by go_num, by have := HAB'.out; have := HB1.out; omega, HFIN.out (.inr HQP.out)⟩
              case measure => have := HKN.out; simp [intOf]; omega
          · have HQP := Lib.hid (show q = p by omega)
            have z2 : ¬ (q : Int) < (p : Int) := by omega
            go_wp2_with fail
            go_round
            case rel => exact ⟨k + 1, acc' + q0, by have := HKN.out; omega, by go_num, by go_num, by have := HAB'.out; have := HB1.out; omega, HFIN.out (.inl HQP.out)⟩
            case measure => have := HKN.out; simp [intOf]; omega
      · have z0 : ¬ (acc : Int) ≤ 100000 := by omega
        have z1 : (5000 : Int) < (acc : Int) := by omega
        go_wp2_with fail
        go_ret
        exact ⟨true, rfl, by simp, rfl⟩
    · have z0 : ¬ (k : Int) < (n : Int) := by omega
      have HKE := Lib.hid (show ops.take k = ops from List.take_of_length_le (by have := HL.out; omega))
      by_cases hb : 5000 < acc
      · have z1 : (5000 : Int) < (acc : Int) := by omega
        go_wp2_with fail
        go_ret
        exact ⟨true, rfl, by simp, rfl⟩
      · have z1 : ¬ (5000 : Int) < (acc : Int) := by omega
        have HW := Lib.hid (show weight ops ≤ 5000 by
          have e := HKE.out
          rcases HACC.out with h | h
          · rw [e] at h; omega
          · omega)
        go_wp2_with fail
        go_ret
        exact ⟨false, rfl, fun _ => HW.out, rfl⟩
end Go.Proofs.Ytcibjdodkcfpeaa
