/-
  Two disks that have no block in common. Plain lemmas; no statement.
-/
import Derived.Test.YtcibjdodkcfpeaaDiskScript
namespace Go.Proofs.Ytcibjdodkcfpeaa
open Go.RowKit
set_option linter.unusedVariables false

theorem On.other {B g : Nat} {w0 w w' : World} {F G : Nat → Prop} {P : PD} (h : On B w0 w F g P) (hc : Chg G w w') (hG : ∀ i, G i → B ≤ i) (hd : ∀ i, F i → ¬ G i) : On B w0 w' F g P :=
  ⟨h.dk.keep hc hd, h.up, h.be.trans (hc.below hG h.sz), Nat.le_trans h.sz hc.size⟩
structure Two (B : Nat) (w0 w : World) (F : Nat → Prop) (g : Nat) (P : PD) (F' : Nat → Prop) (g' : Nat) (P' : PD) : Prop where
  one : On B w0 w F g P
  two : On B w0 w F' g' P'
  apart : ∀ i, F i → ¬ F' i
section
variable {B g g' : Nat} {w0 w w' : World} {F F' : Nat → Prop} {P P' : PD} {r : PD × Int} {e : Ending}
theorem Two.kept (h : Two B w0 w F g P F' g' P') (hb : Below w.heap.size w w') : Two B w0 w' F g P F' g' P' := ⟨h.one.kept hb, h.two.kept hb, h.apart⟩
theorem Two.did1 (h : Two B w0 w F g P F' g' P') (hd : Did F g r w e w') : e = .returned (.int .i64 r.2) ∧ ∃ G, Two B w0 w' G g r.1 F' g' P' ∧ (∀ i, G i → F i ∨ w.heap.size ≤ i) ∧ Chg F w w' := by
  obtain ⟨he, G, hon, hG, hc⟩ := h.one.did hd
  refine ⟨he, G, ⟨hon, h.two.other hc h.one.up (fun i hi hf => h.apart i hf hi), fun i hi hf => ?_⟩, hG, hc⟩
  rcases hG i hi with q | q
  · exact h.apart i q hf
  · have := h.two.lt i hf; omega
theorem Two.did2 (h : Two B w0 w F g P F' g' P') (hd : Did F' g' r w e w') : e = .returned (.int .i64 r.2) ∧ ∃ G, Two B w0 w' F g P G g' r.1 ∧ (∀ i, G i → F' i ∨ w.heap.size ≤ i) ∧ Chg F' w w' := by
  obtain ⟨he, G, hon, hG, hc⟩ := h.two.did hd
  refine ⟨he, G, ⟨h.one.other hc h.two.up h.apart, hon, fun i hi hf => ?_⟩, hG, hc⟩
  rcases hG i hf with q | q
  · exact h.apart i hi q
  · have := h.one.lt i hi; omega
end
/-- a block that is none of a disk's is left as it is -/
theorem Chg.off {F : Nat → Prop} {w w' : World} {g : Nat} {t : TypeId} {cs : List Value} (hc : Chg F w w') (hk : Bk w g t cs) (hg : ¬ F g) : Bk w' g t cs := hc.bk hk hg
namespace PD
/-- the same disk, its power another -/
def withP (P : PD) (p : Int) : PD := { P with power := p }
theorem act_down (P : PD) (o : Call) (h : P.power = 0) (ho : 1 ≤ o.what ∧ o.what ≤ 3) : (P.act o).1 = P ∧ (P.act o).2 ≠ 0 := by
  unfold act
  split
  · unfold append; split
    · simp
    · simp
  · split
    · unfold trim; split
      · simp
      · simp
    · split
      · unfold sync; split
        · simp
        · simp
      · omega
theorem setData_with (P : PD) (p a : Int) (l : List UInt8) : (P.withP p).setData a l = (P.setData a l).withP p := by unfold setData withP; split <;> rfl
theorem setSafe_with (P : PD) (p a n : Int) : (P.withP p).setSafe a n = (P.setSafe a n).withP p := by unfold setSafe withP; split <;> rfl
theorem data_with (P : PD) (p a : Int) : (P.withP p).data a = P.data a := rfl
theorem safe_with (P : PD) (p a : Int) : (P.withP p).safe a = P.safe a := rfl
theorem drew_with (P : PD) (p : Int) (hp : 0 < p) (h : P.power = -1) : (P.withP p).drew = P.drew.withP (p - 1) := by
  unfold drew withP drawn
  simp [hp]
theorem marks_with (P : PD) (p : Int) (l : List Int) : l.foldl mark (P.withP p) = (l.foldl mark P).withP p := by
  induction l generalizing P with
  | nil => rfl
  | cons a r ih =>
    rw [List.foldl_cons, List.foldl_cons, ← ih]
    congr 1
    unfold mark
    rw [data_with, setSafe_with]
theorem act_with (P : PD) (p : Int) (o : Call) (hp : 0 < p) (h : P.power = -1) (ho : 1 ≤ o.what ∧ o.what ≤ 3) : ((P.withP p).act o) = ((P.act o).1.withP (if (P.act o).2 = 0 then p - 1 else p), (P.act o).2) := by
  have h0 : (P.withP p).power ≠ 0 := by show p ≠ 0; omega
  have h1 : P.power ≠ 0 := by omega
  unfold act
  split
  · unfold append
    split
    · rw [drew_with P p hp h, setData_with, data_with]; simp
    · simp
  · split
    · unfold trim
      rw [data_with]
      split
      · rw [drew_with P p hp h, setData_with, setSafe_with, safe_with]; simp
      · simp
    · split
      · unfold sync
        split
        · rw [drew_with P p hp h, marks_with]; simp
        · simp
      · omega
end PD
end Go.Proofs.Ytcibjdodkcfpeaa
