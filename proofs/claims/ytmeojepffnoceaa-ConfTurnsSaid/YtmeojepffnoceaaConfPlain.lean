/-
  What a configuration comes to, in plain words. No statement.
-/
import Derived.Test.YtmeojepffnoceaaMRows
import Derived.Deep.RegionHeld3
namespace Go.Proofs.Ytmeojepffnoceaa
open Go.RowKit
set_option linter.unusedVariables false

theorem Bk.seven {w : World} {g : Nat} {t : TypeId} {a b c d e f h : Value} (k : Bk w g t [a, b, c, d, e, f, h]) :
    w.cell? ⟨g, 0, none⟩ = some a ∧ w.cell? ⟨g, 1, none⟩ = some b ∧ w.cell? ⟨g, 2, none⟩ = some c ∧ w.cell? ⟨g, 3, none⟩ = some d ∧ w.cell? ⟨g, 4, none⟩ = some e ∧ w.cell? ⟨g, 5, none⟩ = some f ∧ w.cell? ⟨g, 6, none⟩ = some h :=
  ⟨k.at_ rfl, k.at_ rfl, k.at_ rfl, k.at_ rfl, k.at_ rfl, k.at_ rfl, k.at_ rfl⟩
/-- a configuration; n: its secret's bytes -/
structure Cf where
  u : Int
  r : Int
  p : Int
  wi : Int
  ev : Int
  pa : Int
  n : Nat
/-- can it be? -/
def Cf.Ok (x : Cf) : Prop := 0 ≤ x.r ∧ x.r ≤ x.u ∧ x.u ≤ 2 ∧ 1 ≤ x.p ∧ x.p ≤ 8 ∧ 1 ≤ x.wi ∧ x.wi ≤ 8 ∧ 1 ≤ x.ev ∧ x.ev ≤ x.wi ∧ 1 ≤ x.pa ∧ x.pa ≤ 1000 ∧ x.n ≤ 64
instance (x : Cf) : Decidable x.Ok := by unfold Cf.Ok; infer_instance
def Cf.err (x : Cf) : Int := if x.Ok then 0 else 60
def Cf.count (x : Cf) (role : Int) : Int :=
  if x.Ok then (if role = 1 ∨ role = 2 then 2 * x.u + x.r + 1 else if role = 3 then x.u + x.r + 1 else if role = 4 then x.p else 0) else 0
def Cf.quorum (x : Cf) : Int := if x.Ok then x.u + x.r + 1 else 0
def Cf.proof (x : Cf) : Int := if x.Ok then x.r + 1 else 0
def Cf.primary (x : Cf) (view : Int) : Int := if x.Ok then (if view < 0 then 0 else view % (2 * x.u + x.r + 1)) else 0
def Cf.there (x : Cf) (role n : Int) : Bool := decide (0 ≤ n ∧ n < x.count role)
theorem Cf.quorum_count (x : Cf) : x.count 3 = x.quorum := by simp [Cf.count, Cf.quorum]
theorem Cf.count_ok {x : Cf} (h : x.Ok) (role : Int) : x.count role = if role = 1 ∨ role = 2 then 2 * x.u + x.r + 1 else if role = 3 then x.u + x.r + 1 else if role = 4 then x.p else 0 := by unfold Cf.count; rw [if_pos h]
theorem Cf.count_no {x : Cf} (h : ¬ x.Ok) (role : Int) : x.count role = 0 := by unfold Cf.count; rw [if_neg h]
theorem Cf.count_room (x : Cf) (role : Int) : 0 ≤ x.count role ∧ x.count role ≤ 8 := by
  unfold Cf.count
  by_cases h : x.Ok
  · rw [if_pos h]
    obtain ⟨h1, h2, h3, h4, h5, _⟩ := h
    split
    · omega
    · split
      · omega
      · split <;> omega
  · rw [if_neg h]; omega
theorem Cf.primary_count (x : Cf) (view : Int) : x.primary view = if x.count 2 = 0 ∨ view < 0 then 0 else view % (x.count 2) := by
  unfold Cf.primary
  by_cases h : x.Ok
  · have h0 : ¬ (2 * x.u + x.r + 1 = 0) := by obtain ⟨h1, h2, h3, _⟩ := h; omega
    have e : x.count 2 = 2 * x.u + x.r + 1 := by rw [Cf.count_ok h]; simp
    rw [if_pos h, e]
    simp [h0]
  · rw [if_neg h, Cf.count_no h]; simp
end Go.Proofs.Ytmeojepffnoceaa
