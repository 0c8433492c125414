/-
  The reference's New, at. Walks; no statement.
-/
import Derived.Test.YtgppclmofphlfaaGreatDoorTreeSame
namespace Go.Proofs.YtgppclmofphlfaaGreatDoor
set_option maxRecDepth 100000
open Go.RowKit
set_option linter.unusedVariables false

/-- a place as the reference tells it -/
def atI (o : Option Nat) : Int := match o with
  | some k => (k : Int)
  | none => -1
theorem tAt_some : ∀ {t : List Lf} {p : List UInt8} {k : Nat} {l : Lf}, t[k]? = some l → l.path = p → (∀ j x, j < k → t[j]? = some x → x.path ≠ p) → tAt p t = some k
  | x :: r, p, 0, l, h, hl, _ => by
    obtain rfl := Option.some.inj h
    unfold tAt
    rw [if_pos hl]
  | x :: r, p, k + 1, l, h, hl, hn => by
    have hx := hn 0 x (by omega) rfl
    unfold tAt
    rw [if_neg hx, tAt_some (t := r) (k := k) (by simpa using h) hl (fun j y hj hy => hn (j + 1) y (by omega) (by simpa using hy))]
    rfl
theorem tAt_none : ∀ {t : List Lf} {p : List UInt8}, (∀ (j : Nat) x, t[j]? = some x → x.path ≠ p) → tAt p t = none
  | [], p, _ => rfl
  | x :: r, p, hn => by
    have hx := hn 0 x rfl
    unfold tAt
    rw [if_neg hx, tAt_none (t := r) (fun j y hy => hn (j + 1) y (by simpa using hy))]
    rfl
theorem tAt_is : ∀ {t : List Lf} {p : List UInt8} {k : Nat}, tAt p t = some k → ∃ l, t[k]? = some l ∧ l.path = p
  | [], p, k, h => by cases h
  | x :: r, p, k, h => by
    unfold tAt at h
    split at h
    · rename_i hx
      obtain rfl := Option.some.inj h
      exact ⟨x, rfl, hx⟩
    · obtain ⟨j, hj, rfl⟩ := Option.map_eq_some_iff.1 h
      obtain ⟨l, hl, hp⟩ := tAt_is hj
      exact ⟨l, by simpa using hl, hp⟩
set_option maxHeartbeats 3200000 in
theorem refAt_any (p : ByteArray) (A : Option Addr) (c : Nat) (t : List Lf) (F : Nat → Prop) (w : World) (h : RdS RLf F w A c t) :
    Calls Tryz.prog 44 #[.agg #[.slice A t.length c], .string p] w (Tells (.int .i64 (atI (tAt p.data.toList t))) w) := by
  obtain ⟨q, rfl⟩ : ∃ l : List UInt8, p = ⟨l.toArray⟩ := ⟨p.data.toList, (sv_of p).symm⟩
  show Calls _ _ _ _ (Tells (.int .i64 (atI (tAt q t))) w)
  have hml : t.length ≤ maxLen := Nat.le_trans h.1 h.2.1
  simp only [maxLen] at hml
  have HB := Lib.hid ((Below.refl w.heap.size w).alloc (Nat.le_refl _) (.cells #[.slice A t.length c] 30))
  have HR := Lib.hid (h.below HB.out)
  clear h
  go_enter Tryz.func44, Tryz.ntmps44
  go_wp2_with fail
  go_loop [5] (fun i => ∃ k : Nat, k ≤ t.length ∧ i = .int .i64 k ∧ ∀ j x, j < k → t[j]? = some x → x.path ≠ q) (fun i => t.length - (intOf i).toNat)
  case atStart => exact ⟨0, by omega, rfl, fun j x hj => by omega⟩
  case round =>
    obtain ⟨k, hk, rfl, hno⟩ := hrel
    have HN := Lib.hid hno
    clear hno
    by_cases hlt : k < t.length
    · obtain ⟨l, hl⟩ : ∃ l, t[k]? = some l := ⟨_, List.getElem?_eq_getElem hlt⟩
      obtain ⟨x, B, d, rfl, hxb, c0, _⟩ := HR.out.lf6 hl
      have HS := Lib.hid (fun e => tAt_some (p := q) hl e HN.out)
      have HG := Lib.hid (show l.path ≠ q → ∀ j x, j < k + 1 → t[j]? = some x → x.path ≠ q from fun e j x hj hx => by
        rcases Nat.lt_or_ge j k with h | h
        · exact HN.out j x h hx
        · obtain rfl : j = k := by omega
          rw [hl] at hx
          rw [← Option.some.inj hx]; exact e)
      have y1 : (0 : Int) ≤ (k : Int) := by omega
      have y2 : (k : Int) < (t.length : Int) := by omega
      clear hl hxb
      by_cases e : l.path = q
      · have b1 : (l.path == q) = true := by simpa using e
        have HV := Lib.hid (HS.out e)
        clear e
        go_wp2_with fail
        go_ret
        rw [HV.out]
        exact ⟨rfl, HB.out⟩
      · have b1 : (l.path == q) = false := by simpa using e
        have HV := Lib.hid (HG.out e)
        clear e
        go_wp2_with fail
        exact ⟨⟨k + 1, by omega, by go_num, HV.out⟩, by simp [intOf]; omega⟩
    · obtain rfl : k = t.length := by omega
      have HV := Lib.hid (show tAt q t = none from tAt_none (fun j x hx => HN.out j x ((List.getElem?_eq_some_iff.1 hx).1) hx))
      go_wp2_with fail
      go_ret
      rw [HV.out]
      exact ⟨rfl, HB.out⟩
end Go.Proofs.YtgppclmofphlfaaGreatDoor
