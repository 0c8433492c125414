/-
  Keys, tags and letters' tags in plain Lean. No statement.
-/
import Derived.Test.YtfdmnnbcnaofgaaDoorMacPlain
import Derived.Test.YtfdmnnbcnaofgaaDoorLists
import Derived.Test.YtfdmnnbcnaofgaaDoorJoin
namespace Go.Proofs.YtfdmnnbcnaofgaaDoor
namespace Sh
open Pk

/-- does an Id (its role, its number) stand ahead of another? -/
def idLess (a b : Int × Int) : Bool := decide (a.1 < b.1) || (decide (a.1 = b.1) && decide (a.2 < b.2))
def keyIds (a b : Int × Int) : List Int := if idLess b a then [b.1, b.2, a.1, a.2] else [a.1, a.2, b.1, b.2]
def keyN (s : List UInt8) (a b : Int × Int) : List UInt8 := if numsBad (keyIds a b) then zeros 32 else sum (joinN [s, numsN (keyIds a b)])
theorem keyIds_comm (a b : Int × Int) : keyIds a b = keyIds b a := by
  unfold keyIds idLess
  obtain ⟨a1, a2⟩ := a
  obtain ⟨b1, b2⟩ := b
  simp only [Bool.or_eq_true, Bool.and_eq_true, decide_eq_true_eq]
  by_cases h1 : b1 < a1 ∨ b1 = a1 ∧ b2 < a2
  · rw [if_pos h1, if_neg (by omega)]
  · rw [if_neg h1]
    by_cases h2 : a1 < b1 ∨ a1 = b1 ∧ a2 < b2
    · rw [if_pos h2]
    · rw [if_neg h2]
      have e1 : a1 = b1 := by omega
      have e2 : a2 = b2 := by omega
      rw [e1, e2]
theorem keyN_comm (s : List UInt8) (a b : Int × Int) : keyN s a b = keyN s b a := by unfold keyN; rw [keyIds_comm]
theorem keyN_len (s : List UInt8) (a b : Int × Int) : (keyN s a b).length = 32 := by
  unfold keyN
  split
  · exact zeros_len 32
  · exact sum_len _
def tagIds (f t : Int × Int) : List UInt8 := if numsBad [f.1, f.2, t.1] then [] else numsN [f.1, f.2, t.1]
def tagN (s : List UInt8) (f t : Int × Int) (body : List UInt8) : List UInt8 := (hmac (keyN s f t) (joinN [tagIds f t, body])).take 16
theorem tagN_len (s : List UInt8) (f t : Int × Int) (body : List UInt8) : (tagN s f t body).length = 16 := by
  unfold tagN
  rw [List.length_take, hmac_len]
  decide
theorem tagIds_len (f t : Int × Int) : (tagIds f t).length ≤ 27 := by
  unfold tagIds
  split
  · simp
  · rename_i h
    have := numsN_len (l := [f.1, f.2, t.1]) (by simpa using h)
    simpa using this
/-- laid over with 255 -/
def turned (t : List UInt8) : List UInt8 := t.map (· ^^^ 255)
theorem turned_len (t : List UInt8) : (turned t).length = t.length := by simp [turned]
theorem turn_ne (x : UInt8) : x ^^^ 255 ≠ x := by
  intro h
  have e : (x ^^^ 255) ^^^ x = 0 := by rw [h]; exact UInt8.xor_self
  rw [UInt8.xor_comm x 255, UInt8.xor_assoc, UInt8.xor_self] at e
  revert e
  decide
theorem turned_ne {t : List UInt8} (h : t ≠ []) : turned t ≠ t := by
  cases t with
  | nil => exact absurd rfl h
  | cons x r =>
    intro e
    simp only [turned, List.map_cons, List.cons.injEq] at e
    exact turn_ne x e.1
def isIn (bad : List Int) (i : Nat) : Bool := bad.any fun b => decide (b = (i : Int))
def letterTag (s : List UInt8) (f : Int × Int) (role : Int) (body : List UInt8) (bad : List Int) (i : Nat) : List UInt8 :=
  if isIn bad i then turned (tagN s f (role, (i : Int)) body) else tagN s f (role, (i : Int)) body
theorem letterTag_len (s : List UInt8) (f : Int × Int) (role : Int) (body : List UInt8) (bad : List Int) (i : Nat) : (letterTag s f role body bad i).length = 16 := by
  unfold letterTag
  split
  · rw [turned_len, tagN_len]
  · exact tagN_len _ _ _ _
def tagsN (s : List UInt8) (f : Int × Int) (role : Int) (body : List UInt8) (bad : List Int) : Nat → List (List UInt8)
  | 0 => []
  | n + 1 => tagsN s f role body bad n ++ [letterTag s f role body bad n]
theorem tagsN_len (s : List UInt8) (f : Int × Int) (role : Int) (body : List UInt8) (bad : List Int) (n : Nat) : (tagsN s f role body bad n).length = n := by
  induction n with
  | zero => rfl
  | succ n ih => rw [tagsN, List.length_append, ih]; rfl
theorem tagsN_at (s : List UInt8) (f : Int × Int) (role : Int) (body : List UInt8) (bad : List Int) {n i : Nat} (h : i < n) : (tagsN s f role body bad n).getD i [] = letterTag s f role body bad i := by
  induction n with
  | zero => omega
  | succ n ih =>
    rw [tagsN]
    rcases Nat.lt_or_ge i n with hl | hg
    · rw [← ih hl]
      simp only [List.getD_eq_getElem?_getD]
      rw [List.getElem?_append_left (by rw [tagsN_len]; exact hl)]
    · have e : i = n := by omega
      subst e
      simp only [List.getD_eq_getElem?_getD]
      rw [List.getElem?_append_right (by rw [tagsN_len]; omega), tagsN_len]
      simp
/-- how many tags a letter for so many has -/
def upTo (count : Int) : Nat := (min count 64).toNat
end Sh
end Go.Proofs.YtfdmnnbcnaofgaaDoor
