/-
  The bounds of a configuration's numbers: a walk of allWithin. No statement.
-/
import Derived.Test.YtmeojepffnoceaaConfPlain
namespace Go.Proofs.Ytmeojepffnoceaa
open Go.RowKit
set_option linter.unusedVariables false

/-- a number within its bounds -/
def inBd (b : Int × Int × Int) : Bool := decide (b.2.1 ≤ b.1) && decide (b.1 ≤ b.2.2)
/-- block g holds these bounds -/
def RdBd (w : World) (g : Nat) (bs : List (Int × Int × Int)) : Prop :=
  ∀ (k : Nat) b, bs[k]? = some b → w.cell? ⟨g, k * 3, none⟩ = some (.int .i64 b.1) ∧ w.cell? ⟨g, k * 3 + 1, none⟩ = some (.int .i64 b.2.1) ∧ w.cell? ⟨g, k * 3 + 2, none⟩ = some (.int .i64 b.2.2)
theorem RdBd.below {w w' : World} {g : Nat} {bs : List (Int × Int × Int)} (h : RdBd w g bs) (hb : Below w.heap.size w w') : RdBd w' g bs := by
  intro k b hk
  obtain ⟨h1, h2, h3⟩ := h k b hk
  have l1 := cell_lt h1
  exact ⟨(hb.cell l1).trans h1, (hb.cell (by exact l1)).trans h2, (hb.cell (by exact l1)).trans h3⟩
theorem all_snoc {α : Type} (f : α → Bool) (l : List α) (k : Nat) (h : k < l.length) (ha : (l.take k).all f = true) : (l.take (k + 1)).all f = f l[k] := by
  rw [take_snoc l k h, List.all_append, ha]; simp
theorem all_false {α : Type} (f : α → Bool) (l : List α) (k : Nat) (h : k < l.length) (hf : f l[k] = false) : l.all f = false := by
  rw [List.all_eq_false]; exact ⟨l[k], List.getElem_mem h, by simp [hf]⟩

theorem allWithin_any (g n c : Nat) (bs : List (Int × Int × Int)) (w : World) (h : RdBd w g bs) (hl : bs.length = n) (hn : n ≤ 1000) :
    Calls Try.prog 27 #[.slice (some ⟨g, 0, none⟩) n c] w (Tells (.bool (bs.all inBd)) w) := by
  have H := Lib.hid h
  have HL := Lib.hid hl
  clear h hl
  go_enter Try.func27, Try.ntmps27
  go_wp2_with fail
  go_loopw [7] (fun i wr => ∃ k : Nat, k ≤ n ∧ i = .int .i64 k ∧ Below w.heap.size w wr ∧ (bs.take k).all inBd = true) (fun i _ => n - (intOf i).toNat)
  case atStart => exact ⟨0, by omega, rfl, Below.refl _ _, by simp⟩
  case round =>
    obtain ⟨k, hk, rfl, hb, ha⟩ := hrel
    by_cases hlt : k < n
    · have hkl : k < bs.length := by rw [HL.out]; exact hlt
      obtain ⟨x0, x1, x2⟩ := (H.out.below hb) k bs[k] (List.getElem?_eq_getElem hkl)
      have HS := Lib.hid (all_snoc inBd bs k hkl ha)
      have HF := Lib.hid (all_false inBd bs k hkl)
      have HB := Lib.hid (hb.alloc hb.size (.cells #[.int .i64 bs[k].1, .int .i64 bs[k].2.1, .int .i64 bs[k].2.2] 48))
      have y1 : (0 : Int) ≤ (k : Int) := by omega
      have y2 : (k : Int) < (n : Int) := by omega
      clear ha hb
      generalize bs[k] = b at *
      clear hkl
      obtain ⟨b1, b2, b3⟩ := b
      simp only at x0 x1 x2 HB
      by_cases h1 : b1 < b2
      · have HR := Lib.hid (show bs.all inBd = false from HF.out (by simp [inBd]; intro; omega))
        go_wp2_with fail
        go_ret
        exact ⟨ret_bool HR.out.symm, HB.out⟩
      · by_cases h2 : b3 < b1
        · have HR := Lib.hid (show bs.all inBd = false from HF.out (by simp [inBd]; omega))
          go_wp2_with fail
          go_ret
          exact ⟨ret_bool HR.out.symm, HB.out⟩
        · have HR := Lib.hid (show (bs.take (k + 1)).all inBd = true by rw [HS.out]; simp [inBd]; omega)
          go_wp2_with fail
          go_roundw
          case rel => exact ⟨k + 1, by omega, by go_num, HB.out, HR.out⟩
          case measure => simp [intOf]; omega
    · have HR := Lib.hid (show bs.all inBd = true by
        rw [List.take_of_length_le (by have := HL.out; omega)] at ha; exact ha)
      have HB := Lib.hid hb
      clear ha
      go_wp2_with fail
      go_ret
      exact ⟨ret_bool HR.out.symm, HB.out⟩
end Go.Proofs.Ytmeojepffnoceaa
