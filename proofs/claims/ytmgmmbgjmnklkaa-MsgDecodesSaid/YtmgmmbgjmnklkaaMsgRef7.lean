/-
  The reference's parts and has. Walks; no statement.
-/
import Derived.Test.YtmgmmbgjmnklkaaMsgRef6
namespace Go.Proofs.Ytmgmmbgjmnklkaa
set_option maxRecDepth 100000
open Go.RowKit
open Pk
set_option linter.unusedVariables false

/-- a part's letter -/
def letterB (p : Nat) : UInt8 :=
  match p with
  | 0 => 118
  | 1 => 115
  | 2 => 99
  | 3 => 116
  | 4 => 101
  | 5 => 100
  | 6 => 98
  | 7 => 108
  | _ => 112
def lettersOf (k : Int) : List UInt8 := (partsN k).map letterB
set_option maxHeartbeats 3200000 in
theorem refParts_any (k : Int) (w : World) : Calls Try.prog 39 #[.int .i64 k] w (Tells (.string ⟨(lettersOf k).toArray⟩) w) := by
  by_cases h : kindB k = true
  · rcases kind_cases h with rfl | rfl | rfl | rfl | rfl | rfl | rfl | rfl | rfl | rfl | rfl | rfl | rfl | rfl <;> clear h <;>
    (go_enter Try.func39, Try.ntmps39
     go_wp2_with fail
     go_ret
     exact ⟨rfl, (Below.refl _ _).alloc (Nat.le_refl _) _⟩)
  · have HL := Lib.hid (show lettersOf k = [] by unfold lettersOf; rw [(parts_kind k).2 (by simpa using h)]; rfl)
    have h2 : k < 1 ∨ 14 < k := by unfold kindB at h; simp at h; omega
    clear h
    rcases h2 with h2 | h2
    · go_enter Try.func39, Try.ntmps39
      go_wp2_with fail
      go_ret
      exact ⟨by rw [HL.out]; rfl, (Below.refl _ _).alloc (Nat.le_refl _) _⟩
    · have h3 : ¬ k < 1 := by omega
      go_enter Try.func39, Try.ntmps39
      go_wp2_with fail
      go_ret
      exact ⟨by rw [HL.out]; rfl, (Below.refl _ _).alloc (Nat.le_refl _) _⟩
theorem refHas_any (bs : List UInt8) (c : UInt8) (w : World) (hn : bs.length ≤ 1000) : Calls Try.prog 76 #[.string ⟨bs.toArray⟩, .int .u8 (c.toNat : Int)] w fun e w' => e = .returned (.bool (decide (c ∈ bs))) ∧ w' = w := by
  go_enter Try.func76, Try.ntmps76
  go_wp2_with fail
  go_loop [5] (fun i => ∃ k : Nat, k ≤ bs.length ∧ i = .int .i64 k ∧ c ∉ bs.take k) (fun i => bs.length - (intOf i).toNat)
  case atStart => exact ⟨0, by omega, rfl, by simp⟩
  case round =>
    obtain ⟨k, hk, rfl, hno⟩ := hrel
    have HNO := Lib.hid hno
    clear hno
    by_cases hlt : k < bs.length
    · have hq0 : bs[k] = bs[k] := rfl
      have HS := Lib.hid (show bs.take (k + 1) = bs.take k ++ [bs[k]] from List.take_succ_eq_append_getElem hlt)
      clear hq0
      go_wp2_with fail
      · rename_i hq hq2
        have h1 := eq_of_beq (by assumption : (_ == ((c.toNat : Nat) : Int)) = true)
        have h3 : bs[k].toNat = c.toNat := Int.ofNat_inj.1 h1
        have hc : c = bs[k] := (UInt8.toNat_inj.1 h3).symm
        go_ret
        exact ⟨ret_bool (by rw [hc]; simp), rfl⟩
      · rename_i hq
        refine ⟨⟨k + 1, by omega, by go_num, ?_⟩, by simp [intOf]; omega⟩
        rw [HS.out]
        simp only [List.mem_append, List.mem_singleton, not_or]
        refine ⟨HNO.out, fun hc => (beq_eq_false_iff_ne.1 hq) ?_⟩
        rw [hc]
        rfl
    · obtain rfl : k = bs.length := by omega
      have HF := Lib.hid (show decide (c ∈ bs) = false by have := HNO.out; rw [List.take_length] at this; simpa using this)
      go_wp2_with fail
      go_ret
      exact ⟨ret_bool HF.out.symm, rfl⟩
end Go.Proofs.Ytmgmmbgjmnklkaa
