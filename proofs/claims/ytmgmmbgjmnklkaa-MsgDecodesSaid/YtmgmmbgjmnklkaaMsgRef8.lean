/-
  What makes a message right or not: plain words for the reference's own check. No statement.
-/
import Derived.Test.YtmgmmbgjmnklkaaMsgRef7
namespace Go.Proofs.Ytmgmmbgjmnklkaa
set_option maxRecDepth 100000
open Go.RowKit
open Pk
set_option linter.unusedVariables false

theorem rest_bad {m : Mg} {ps : List Nat} {p : Nat} (hp : p < 9) (hc : ps.contains p = false) (h : m.partNo p = false) : restOk m ps = false := by
  unfold restOk
  rw [List.all_eq_false]
  exact ⟨p, List.mem_range.2 hp, by rw [hc, h]; decide⟩
theorem ok_no {m : Mg} {p : Nat} (hp : p < 9) (hc : (partsN m.kind).contains p = false) (h : m.partNo p = false) : m.ok = false := by
  unfold Mg.ok
  rw [rest_bad hp hc h, Bool.and_false]
theorem ok_part {m : Mg} {p : Nat} (hc : (partsN m.kind).contains p = true) (h : m.partOk p = false) : m.ok = false := by
  unfold Mg.ok
  rw [Bool.and_eq_false_iff]
  left
  rw [List.all_eq_false]
  exact ⟨p, by simpa using hc, by rw [h]; decide⟩
theorem ok_all {m : Mg} (h : ∀ p, p < 9 → (if (partsN m.kind).contains p then m.partOk p else m.partNo p) = true) (hl : ∀ p ∈ partsN m.kind, p < 9) : m.ok = true := by
  unfold Mg.ok restOk
  rw [Bool.and_eq_true, List.all_eq_true, List.all_eq_true]
  refine ⟨fun p hp => ?_, fun p hp => ?_⟩
  · have := h p (hl p hp)
    rw [if_pos (by simpa using hp)] at this
    exact this
  · have := h p (List.mem_range.1 hp)
    cases hc : (partsN m.kind).contains p
    · rw [if_neg (by rw [hc]; decide)] at this
      simpa using this
    · simp
theorem part_cases {Q : Nat → Prop} (h0 : Q 0) (h1 : Q 1) (h2 : Q 2) (h3 : Q 3) (h4 : Q 4) (h5 : Q 5) (h6 : Q 6) (h7 : Q 7) (h8 : Q 8) : ∀ p, p < 9 → Q p := by
  intro p hp
  match p, hp with
  | 0, _ => exact h0
  | 1, _ => exact h1
  | 2, _ => exact h2
  | 3, _ => exact h3
  | 4, _ => exact h4
  | 5, _ => exact h5
  | 6, _ => exact h6
  | 7, _ => exact h7
  | 8, _ => exact h8
  | n + 9, h => omega
theorem en_no (e : En) : decide (e = En.zero) = decide (e.c = 0 ∧ e.s = 0 ∧ e.t = 0 ∧ e.dig.length = 0) := by
  obtain ⟨c, s, t, d⟩ := e
  have hz : En.zero = ⟨0, 0, 0, []⟩ := rfl
  rw [hz]
  simp
/-- the message of a kind that right is asked of -/
abbrev mgOf (k v s c t : Int) (e : En) (g d : List UInt8) (pf : List Lt) (pn : List Pv) : Mg := ⟨k, v, s, c, t, e, g, d, pf, pn⟩
theorem refHas_lit (bs : List UInt8) (c : UInt8) (b : Bool) (k : Int) (hk : (c.toNat : Int) = k) (hn : bs.length ≤ 1000) (hb : decide (c ∈ bs) = b) (w : World) :
    Calls Try.prog 76 #[.string ⟨bs.toArray⟩, .int .u8 k] w fun e w' => e = .returned (.bool b) ∧ w' = w := by
  rw [← hk, ← hb]
  exact refHas_any bs c w hn
theorem ltsOk_nil {pf : List Lt} (h : pf.length = 0) : ltsOk pf = true := by rw [List.eq_nil_of_length_eq_zero h]; rfl
end Go.Proofs.Ytmgmmbgjmnklkaa
