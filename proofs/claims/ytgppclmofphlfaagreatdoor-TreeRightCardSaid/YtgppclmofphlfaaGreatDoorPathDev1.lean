/-
  Bytes and texts that are parts. Walks; no statement.
-/
import Derived.Test.YtgppclmofphlfaaGreatDoorPathLem
import Derived.Test.YtgppclmofphlfaaGreatDoorMBase
namespace Go.Proofs.YtgppclmofphlfaaGreatDoor
set_option maxRecDepth 100000
open Go.RowKit
set_option linter.unusedVariables false

set_option maxHeartbeats 1600000 in
theorem inPart_any (x : UInt8) (w : World) : Calls Tryz.prog 109 #[.int .u8 (x.toNat : Int)] w fun e w' => e = .returned (.bool (pchar x)) ∧ w' = w := by
  have hP := Lib.hid (show pchar x = decide ((97 ≤ x.toNat ∧ x.toNat ≤ 122) ∨ (48 ≤ x.toNat ∧ x.toNat ≤ 57) ∨ x.toNat = 45 ∨ x.toNat = 95) from rfl)
  have hx : x.toNat < 256 := x.toNat_lt
  generalize hz : ((x.toNat : Nat) : Int) = z
  have h1 : (97 ≤ x.toNat) = (97 ≤ z) := by rw [← hz]; simp; omega
  have H1 := Lib.hid (show pchar x = decide ((97 ≤ z ∧ z ≤ 122) ∨ (48 ≤ z ∧ z ≤ 57) ∨ z = 45 ∨ z = 95) by
    rw [hP.out]; subst hz; congr 1; apply propext; omega)
  have hz0 : 0 ≤ z := by omega
  have hz1 : z < 256 := by omega
  clear h1 hz hP
  by_cases hv : (97 ≤ z ∧ z ≤ 122) ∨ (48 ≤ z ∧ z ≤ 57) ∨ z = 45 ∨ z = 95
  · have HF := Lib.hid (show pchar x = true by rw [H1.out]; exact decide_eq_true hv)
    clear H1
    by_cases c1 : 97 ≤ z <;> by_cases c2 : z ≤ 122 <;> by_cases c3 : 48 ≤ z <;> by_cases c4 : z ≤ 57 <;> by_cases c5 : z = 45 <;> by_cases c6 : z = 95 <;>
    first
    | (exfalso; omega)
    | (have c5' : (z == 45) = decide (z = 45) := rfl
       have c6' : (z == 95) = decide (z = 95) := rfl
       simp only [c5, c6, decide_false] at c5' c6'
       clear hv
       go_enter Tryz.func109, Tryz.ntmps109
       go_wp2_with fail
       go_ret
       exact ⟨ret_bool HF.out.symm, rfl⟩)
  · have HF := Lib.hid (show pchar x = false by rw [H1.out]; exact decide_eq_false hv)
    clear H1
    by_cases c1 : 97 ≤ z <;> by_cases c2 : z ≤ 122 <;> by_cases c3 : 48 ≤ z <;> by_cases c4 : z ≤ 57 <;> by_cases c5 : z = 45 <;> by_cases c6 : z = 95 <;>
    first
    | (exfalso; omega)
    | (have c5' : (z == 45) = decide (z = 45) := rfl
       have c6' : (z == 95) = decide (z = 95) := rfl
       simp only [c5, c6, decide_false] at c5' c6'
       clear hv
       go_enter Tryz.func109, Tryz.ntmps109
       go_wp2_with fail
       go_ret
       exact ⟨ret_bool HF.out.symm, rfl⟩)
set_option maxHeartbeats 1600000 in
theorem isPart_any (s : ByteArray) (w : World) : Calls Tryz.prog 97 #[.string s] w fun e w' => e = .returned (.bool (isPart s.data.toList)) ∧ w' = w := by
  obtain ⟨l, rfl⟩ : ∃ l : List UInt8, s = ⟨l.toArray⟩ := ⟨s.data.toList, (sv_of s).symm⟩
  show Calls _ _ _ _ fun e w' => e = .returned (.bool (isPart l)) ∧ w' = w
  by_cases hsz : 1 ≤ l.length ∧ l.length ≤ 16
  · have HP := Lib.hid (show isPart l = l.all pchar by rw [isPart_eq, decide_eq_true hsz, Bool.and_true])
    obtain ⟨hs1, hs2⟩ := hsz
    go_enter Tryz.func97, Tryz.ntmps97
    go_wp2_with fail
    go_loop [14] (fun i => ∃ k : Nat, k ≤ l.length ∧ i = .int .i64 k ∧ (l.take k).all pchar = true) (fun i => l.length - (intOf i).toNat)
    case atStart => exact ⟨0, by omega, rfl, by simp⟩
    case round =>
      obtain ⟨k, hk, rfl, hall⟩ := hrel
      have HA := Lib.hid hall
      clear hall
      by_cases hlt : k < l.length
      · have HS := Lib.hid (show l.take (k + 1) = l.take k ++ [l[k]] from List.take_succ_eq_append_getElem hlt)
        have HC := Lib.hid (fun W => inPart_any l[k] W)
        cases hp : pchar l[k] with
        | true =>
          have HPC := Lib.hid hp
          rw [hp] at HC
          clear hp
          go_wp2_with (first | (go_at_call 109; refine (HC.out _).mono ?_; rintro e w' ⟨rfl, rfl⟩))
          refine ⟨⟨k + 1, by omega, by go_num, ?_⟩, by simp [intOf]; omega⟩
          rw [HS.out, List.all_append, HA.out]
          simp [HPC.out]
        | false =>
          have HF := Lib.hid (show isPart l = false by
            rw [HP.out, List.all_eq_false]
            exact ⟨l[k], List.getElem_mem hlt, by rw [hp]; simp⟩)
          rw [hp] at HC
          clear hp
          go_wp2_with (first | (go_at_call 109; refine (HC.out _).mono ?_; rintro e w' ⟨rfl, rfl⟩))
          go_ret
          exact ⟨ret_bool HF.out.symm, rfl⟩
      · obtain rfl : k = l.length := by omega
        have HF := Lib.hid (show isPart l = true by have := HA.out; rw [List.take_length] at this; rw [HP.out, this])
        go_wp2_with fail
        go_ret
        exact ⟨ret_bool HF.out.symm, rfl⟩
  · have HP := Lib.hid (show isPart l = false by rw [isPart_eq, decide_eq_false hsz, Bool.and_false])
    have h2 : l.length < 1 ∨ 16 < l.length := by omega
    clear hsz
    rcases h2 with h2 | h2
    · go_enter Tryz.func97, Tryz.ntmps97
      go_wp2_with fail
      go_ret
      exact ⟨ret_bool HP.out.symm, rfl⟩
    · have h3 : ¬ l.length < 1 := by omega
      go_enter Tryz.func97, Tryz.ntmps97
      go_wp2_with fail
      go_ret
      exact ⟨ret_bool HP.out.symm, rfl⟩
set_option maxHeartbeats 1600000 in
theorem areParts_any (A : Option Addr) (n c : Nat) (ls : List (List UInt8)) (w : World) (h : RdT w A n ls) (hn : n ≤ maxLen) :
    Calls Tryz.prog 84 #[.slice A n c] w fun e w' => e = .returned (.bool (ls.all isPart)) ∧ w' = w := by
  unfold maxLen at hn
  have HL := Lib.hid h.len
  go_enter Tryz.func84, Tryz.ntmps84
  go_wp2_with fail
  go_loop [7] (fun i => ∃ k : Nat, k ≤ n ∧ i = .int .i64 k ∧ (ls.take k).all isPart = true) (fun i => n - (intOf i).toNat)
  case atStart => exact ⟨0, by omega, rfl, by simp⟩
  case round =>
    obtain ⟨k, hk, rfl, hall⟩ := hrel
    have HA := Lib.hid hall
    clear hall
    by_cases hlt : k < n
    · obtain ⟨a, rfl, hb, hc⟩ := h.at_ hlt
      have HS := Lib.hid (show ls.take (k + 1) = ls.take k ++ [ls.getD k []] from take_snocD ls [] k (by rw [HL.out]; exact hlt))
      have HM := Lib.hid (show ls.getD k [] ∈ ls from getD_mem (by rw [HL.out]; exact hlt))
      generalize ls.getD k [] = x at *
      have HC := Lib.hid (fun W => isPart_any ⟨x.toArray⟩ W)
      have e1 : (0 : Int) ≤ (k : Int) := by omega
      have e2 : (k : Int) < (n : Int) := by omega
      cases hp : isPart x with
      | true =>
        have HPC := Lib.hid hp
        replace HC := Lib.hid (fun W => show Calls _ _ _ W fun e w' => e = .returned (.bool true) ∧ w' = W by rw [← HPC.out]; exact HC.out W)
        clear hp
        go_wp2_with (first | (go_at_call 97; refine (HC.out _).mono ?_; rintro e w' ⟨rfl, rfl⟩))
        refine ⟨⟨k + 1, by omega, by go_num, ?_⟩, by simp [intOf]; omega⟩
        rw [HS.out, List.all_append, HA.out]
        simp [HPC.out]
      | false =>
        have HPC := Lib.hid hp
        replace HC := Lib.hid (fun W => show Calls _ _ _ W fun e w' => e = .returned (.bool false) ∧ w' = W by rw [← HPC.out]; exact HC.out W)
        have HF := Lib.hid (show ls.all isPart = false by
          rw [List.all_eq_false]
          exact ⟨x, HM.out, by rw [hp]; simp⟩)
        clear hp
        go_wp2_with (first | (go_at_call 97; refine (HC.out _).mono ?_; rintro e w' ⟨rfl, rfl⟩))
        go_ret
        exact ⟨ret_bool HF.out.symm, rfl⟩
    · obtain rfl : k = n := by omega
      have HF := Lib.hid (show ls.all isPart = true by have := HA.out; rw [List.take_of_length_le (by rw [HL.out]; exact Nat.le_refl _)] at this; exact this)
      go_wp2_with fail
      go_ret
      exact ⟨ret_bool HF.out.symm, rfl⟩
end Go.Proofs.YtgppclmofphlfaaGreatDoor
