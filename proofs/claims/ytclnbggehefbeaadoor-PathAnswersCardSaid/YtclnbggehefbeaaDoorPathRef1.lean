/-
  The reference's part. Walks; no statement.
-/
import Derived.Test.YtclnbggehefbeaaDoorPathDev1
import Derived.Deep.CutRange
namespace Go.Proofs.YtclnbggehefbeaaDoor
set_option maxRecDepth 100000
open Go.RowKit
set_option linter.unusedVariables false

set_option maxHeartbeats 6400000 in
theorem refPart_any (s : ByteArray) (w : World) (hs : s.size ≤ maxLen) : Calls Tryd.prog 32 #[.string s] w fun e w' => e = .returned (.bool (isPart s.data.toList)) ∧ w' = w := by
  obtain ⟨l, rfl⟩ : ∃ l : List UInt8, s = ⟨l.toArray⟩ := ⟨s.data.toList, (sv_of s).symm⟩
  show Calls _ _ _ _ fun e w' => e = .returned (.bool (isPart l)) ∧ w' = w
  have hl : l.length ≤ 9223372036854775807 := hs
  clear hs
  have HP := Lib.hid (isPart_eq l)
  go_enter Tryd.func32, Tryd.ntmps32
  go_wp2_with fail
  go_loop [3] (fun i => ∃ k : Nat, k ≤ l.length ∧ i = .int .i64 k ∧ (l.take k).all pchar = true) (fun i => l.length - (intOf i).toNat)
  case atStart => exact ⟨0, by omega, rfl, by simp⟩
  case round =>
    obtain ⟨k, hk, rfl, hall⟩ := hrel
    have HA := Lib.hid hall
    clear hall
    by_cases hlt : k < l.length
    · have HS := Lib.hid (show l.take (k + 1) = l.take k ++ [l[k]] from List.take_succ_eq_append_getElem hlt)
      have HM := Lib.hid (List.getElem_mem hlt)
      go_upto_region 5 with fail
      have HC := Lib.hid (show ∀ z : Int, z = (((⟨l.toArray⟩ : ByteArray)[k]'hlt).toNat : Int) → pchar l[k] = decide ((97 ≤ z ∧ z ≤ 122) ∨ (48 ≤ z ∧ z ≤ 57) ∨ z = 45 ∨ z = 95) by
        rintro z rfl
        show decide ((97 ≤ l[k].toNat ∧ l[k].toNat ≤ 122) ∨ (48 ≤ l[k].toNat ∧ l[k].toNat ≤ 57) ∨ l[k].toNat = 45 ∨ l[k].toNat = 95) = decide ((97 ≤ (l[k].toNat : Int) ∧ (l[k].toNat : Int) ≤ 122) ∨ (48 ≤ (l[k].toNat : Int) ∧ (l[k].toNat : Int) ≤ 57) ∨ (l[k].toNat : Int) = 45 ∨ (l[k].toNat : Int) = 95)
        congr 1; apply propext; omega)
      have hz0 : (0 : Int) ≤ (((⟨l.toArray⟩ : ByteArray)[k]'hlt).toNat : Int) := by omega
      have hz1 : (((⟨l.toArray⟩ : ByteArray)[k]'hlt).toNat : Int) < 256 := by have := ((⟨l.toArray⟩ : ByteArray)[k]'hlt).toNat_lt; omega
      replace HC := Lib.hid (HC.out _ rfl)
      generalize (((⟨l.toArray⟩ : ByteArray)[k]'hlt).toNat : Int) = z at *
      by_cases hv : (97 ≤ z ∧ z ≤ 122) ∨ (48 ≤ z ∧ z ≤ 57) ∨ z = 45 ∨ z = 95
      · have HF := Lib.hid (show pchar l[k] = true by rw [HC.out]; exact decide_eq_true hv)
        by_cases c1 : 97 ≤ z <;> by_cases c2 : z ≤ 122 <;> by_cases c3 : 48 ≤ z <;> by_cases c4 : z ≤ 57 <;> by_cases c5 : z = 45 <;> by_cases c6 : z = 95 <;>
        first
        | (exfalso; omega)
        | (have c5' : (z == 45) = decide (z = 45) := rfl
           have c6' : (z == 95) = decide (z = 95) := rfl
           simp only [c5, c6, decide_false] at c5' c6'
           clear hv HC
           go_wp2_with fail
           refine ⟨⟨k + 1, by omega, by go_num, ?_⟩, by simp [intOf]; omega⟩
           rw [HS.out, List.all_append, HA.out]
           simp [HF.out])
      · have HF := Lib.hid (show pchar l[k] = false by rw [HC.out]; exact decide_eq_false hv)
        by_cases c1 : 97 ≤ z <;> by_cases c2 : z ≤ 122 <;> by_cases c3 : 48 ≤ z <;> by_cases c4 : z ≤ 57 <;> by_cases c5 : z = 45 <;> by_cases c6 : z = 95 <;>
        first
        | (exfalso; omega)
        | (have c5' : (z == 45) = decide (z = 45) := rfl
           have c6' : (z == 95) = decide (z = 95) := rfl
           simp only [c5, c6, decide_false] at c5' c6'
           clear hv HC
           go_wp2_with fail
           have HG : isPart l = false := by
             rw [HP.out, List.all_eq_false.2 ⟨l[k], HM.out, by rw [HF.out]; simp⟩, Bool.false_and]
           go_ret
           exact ⟨ret_bool HG.symm, rfl⟩)
    · obtain rfl : k = l.length := by omega
      have HF := Lib.hid (show isPart l = decide (1 ≤ l.length ∧ l.length ≤ 16) by have := HA.out; rw [List.take_length] at this; rw [HP.out, this, Bool.true_and])
      by_cases h1 : 1 ≤ l.length
      · by_cases h2 : l.length ≤ 16
        · have HG := Lib.hid (show isPart l = true by rw [HF.out]; simp; omega)
          go_wp2_with fail
          go_ret
          exact ⟨ret_bool (by rw [HG.out]; simp; try omega), rfl⟩
        · have HG := Lib.hid (show isPart l = false by rw [HF.out]; simp; omega)
          go_wp2_with fail
          go_ret
          exact ⟨ret_bool (by rw [HG.out]; simp; try omega), rfl⟩
      · have HG := Lib.hid (show isPart l = false by rw [HF.out]; simp; omega)
        go_wp2_with fail
        go_ret
        exact ⟨ret_bool HG.out.symm, rfl⟩
end Go.Proofs.YtclnbggehefbeaaDoor
