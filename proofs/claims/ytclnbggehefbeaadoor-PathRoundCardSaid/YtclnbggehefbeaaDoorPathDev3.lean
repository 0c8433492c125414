/-
  Parts, and what is a path that isn't the root. Walks; no statement.
-/
import Derived.Test.YtclnbggehefbeaaDoorPathDev2
namespace Go.Proofs.YtclnbggehefbeaaDoor
set_option maxRecDepth 100000
open Go.RowKit
set_option linter.unusedVariables false

/-- the last of a list that isn't empty -/
theorem last_cut {α : Type} : ∀ l : List α, l ≠ [] → ∃ ps q, l = ps ++ [q]
  | [], h => absurd rfl h
  | [q], _ => ⟨[], q, rfl⟩
  | a :: b :: l, _ => by
    obtain ⟨ps, q, h⟩ := last_cut (b :: l) (by simp)
    exact ⟨a :: ps, q, by rw [h]; rfl⟩
theorem path_cases (l : List UInt8) : partsOf l = none ∨ (l = [47] ∧ partsOf l = some []) ∨
    ∃ ps q, partsOf l = some (ps ++ [q]) ∧ l = joinP ps ++ 47 :: q ∧ (∀ p ∈ ps, isPart p = true) ∧ isPart q = true ∧ l.length ≤ 64 := by
  cases hp : partsOf l with
  | none => exact .inl rfl
  | some ls =>
    right
    obtain ⟨h1, h2, h3⟩ := whole_parts hp
    by_cases h0 : ls = []
    · subst h0; exact .inl ⟨h1.symm, rfl⟩
    · obtain ⟨ps, q, rfl⟩ := last_cut ls h0
      refine .inr ⟨ps, q, rfl, ?_, fun p hm => h2 p (by simp [hm]), h2 q (by simp), h3⟩
      rw [← h1]
      unfold wholeP
      rw [if_neg (by simp), joinP_last]
theorem parentP_eq {l : List UInt8} {ps : List (List UInt8)} {q : List UInt8} (h : partsOf l = some (ps ++ [q])) : parentP l = some (wholeP ps) ∧ nameP l = some q := by
  unfold parentP nameP
  rw [h]
  cases ps with
  | nil => exact ⟨rfl, rfl⟩
  | cons p ps =>
    constructor
    · show some (wholeP ((p :: ps) ++ [q]).dropLast) = _
      rw [List.dropLast_append_of_ne_nil (by simp)]; simp
    · show ((p :: ps) ++ [q]).getLast? = some q
      exact List.getLast?_concat
/-- is it a path that isn't the root? -/
def belowP (l : List UInt8) : Bool := (nameP l).isSome
theorem belowP_none {l : List UInt8} (h : partsOf l = none) : belowP l = false ∧ parentP l = none ∧ nameP l = none := by
  unfold belowP parentP nameP; rw [h]; exact ⟨rfl, rfl, rfl⟩
theorem belowP_root : belowP [47] = false ∧ parentP [47] = none ∧ nameP [47] = none := ⟨rfl, rfl, rfl⟩
set_option maxHeartbeats 1600000 in
theorem checkBelow_any (s : ByteArray) (w : World) (hE : Env w) : Calls Tryd.prog 33 #[.string s] w (Ans (.int .i64 (errB (belowP s.data.toList))) w) := by
  obtain ⟨l, rfl⟩ : ∃ l : List UInt8, s = ⟨l.toArray⟩ := ⟨s.data.toList, (sv_of s).symm⟩
  show Calls _ _ _ _ (Ans (.int .i64 (errB (belowP l))) w)
  by_cases h0 : l = [47]
  · subst h0
    go_enter Tryd.func33, Tryd.ntmps33
    go_wp2_with fail
    go_ret
    exact ⟨rfl, Below.refl _ _⟩
  · have HC := Lib.hid (show Calls Tryd.prog 14 #[.string ⟨l.toArray⟩] w (Ans (.int .i64 (errB (belowP l))) w) by
      have hb : belowP l = (partsOf l).isSome := by
        rcases path_cases l with h | h | ⟨ps, q, h, _⟩
        · rw [h, (belowP_none h).1]; rfl
        · exact absurd h.1 h0
        · unfold belowP; rw [h, (parentP_eq h).2]; rfl
      rw [hb]
      exact check_any ⟨l.toArray⟩ w hE)
    have he : (l == [47]) = false := by simpa using h0
    go_enter Tryd.func33, Tryd.ntmps33
    go_wp2_with (first | (go_at_call 14; refine (HC.out).mono ?_; rintro e w' ⟨rfl, hb⟩))
    go_ret
    exact ⟨rfl, hb⟩
theorem clone_any (s : ByteArray) (w : World) (hs : s.size ≤ 64) : Calls Tryd.prog 31 #[.string s] w (Ans (.string s) w) := by
  have HC := Lib.hid (Tryd.stringslite_Clone s w (by omega))
  go_enter Tryd.func31, Tryd.ntmps31
  go_wp2_with (first | (go_at_call 42; refine (HC.out).mono ?_; rintro e w' ⟨rfl, hb⟩))
  go_ret
  exact ⟨rfl, hb⟩
set_option maxHeartbeats 1600000 in
theorem checked_any (s : ByteArray) (w : World) (hE : Env w) : Calls Tryd.prog 35 #[.string s] w (Ans (optV (if (partsOf s.data.toList).isSome = true then some s.data.toList else none)) w) := by
  have HC := Lib.hid (check_any s w hE)
  cases hp : (partsOf s.data.toList).isSome with
  | true =>
    rw [hp] at HC
    clear hp
    go_enter Tryd.func35, Tryd.ntmps35
    go_wp2_with (first | (go_at_call 14; refine (HC.out).mono ?_; rintro e w' ⟨rfl, hb⟩))
    go_ret2
    refine ⟨?_, hb⟩
    show Ending.returned (.tuple #[.string s, .int .i64 0]) = Ending.returned (.tuple #[.string ⟨s.data.toList.toArray⟩, .int .i64 0])
    rw [sv_of s]
  | false =>
    rw [hp] at HC
    clear hp
    go_enter Tryd.func35, Tryd.ntmps35
    go_wp2_with (first | (go_at_call 14; refine (HC.out).mono ?_; rintro e w' ⟨rfl, hb⟩))
    go_ret2
    exact ⟨rfl, hb⟩
theorem parted_of {r : List UInt8} {ls : List (List UInt8)} (h : partsOf (47 :: r) = some ls) : ls = parted r ∧ r.length < 64 := by
  rw [partsOf_eq] at h
  split at h
  · rename_i hc
    exact ⟨(Option.some.inj h).symm, hc.1⟩
  · cases h
set_option maxHeartbeats 1600000 in
theorem parts_any (s : ByteArray) (w : World) (hE : Env w) : Calls Tryd.prog 18 #[.string s] w (PartsP (partsOf s.data.toList) w) := by
  obtain ⟨l, rfl⟩ : ∃ l : List UInt8, s = ⟨l.toArray⟩ := ⟨s.data.toList, (sv_of s).symm⟩
  show Calls _ _ _ _ (PartsP (partsOf l) w)
  have HC := Lib.hid (show Calls _ _ _ _ (Ans (.int .i64 (errB (partsOf l).isSome)) w) from check_any ⟨l.toArray⟩ w hE)
  cases hp : partsOf l with
  | none =>
    rw [hp] at HC
    clear hp
    go_enter Tryd.func18, Tryd.ntmps18
    go_wp2_with (first | (go_at_call 14; refine (HC.out).mono ?_; rintro e w' ⟨rfl, hb⟩))
    go_ret2
    exact ⟨hb, rfl⟩
  | some ls =>
    rw [hp] at HC
    obtain ⟨r, rfl⟩ : ∃ r, l = 47 :: r := by
      cases l with
      | nil => cases hp
      | cons c r =>
        by_cases hc : c = 47
        · exact ⟨r, by rw [hc]⟩
        · rw [show partsOf (c :: r) = none by
            show (if c = 47 ∧ r.length < 64 then _ else _) = none
            rw [if_neg (fun e => hc e.1)]] at hp
          cases hp
    obtain ⟨rfl, hr⟩ := parted_of hp
    have HCL := Lib.hid (fun W => clone_any ⟨(47 :: r).toArray⟩ W (by show (47 :: r).length ≤ 64; simp only [List.length_cons]; omega))
    have HSP := Lib.hid (fun W (h : Env W) => split_any r W h hr)
    have HE := Lib.hid hE
    clear hp hr hE
    go_enter Tryd.func18, Tryd.ntmps18
    go_wp2_with (first
      | (go_at_call 14; refine (HC.out).mono ?_; rintro e w1 ⟨rfl, hb1⟩)
      | (go_at_call 31; refine (HCL.out _).mono ?_; rintro e w2 ⟨rfl, hb2⟩)
      | (go_at_call 30; refine (HSP.out _ ((HE.out.below hb1).below hb2)).mono ?_; rintro e w3 ⟨hb3, A, n, c, rfl, hn, ho⟩))
    go_ret2
    have s1 := hb1.size
    have s2 := hb2.size
    exact ⟨hb1.trans ((hb2.mono s1).trans (hb3.mono (Nat.le_trans s1 s2))), A, n, c, rfl, ho.more (Nat.le_trans s1 s2)⟩
end Go.Proofs.YtclnbggehefbeaaDoor
