/-
  Parts, and what is a path that isn't the root. Walks; no statement.
-/
import Derived.Test.YtgppclmofphlfaaGreatDoorPathDev2
namespace Go.Proofs.YtgppclmofphlfaaGreatDoor
set_option maxRecDepth 100000
open Go.RowKit
set_option linter.unusedVariables false

set_option maxHeartbeats 1600000 in
theorem checkBelow_any (s : ByteArray) (w : World) (hE : Env w) : Calls Tryz.prog 60 #[.string s] w (Ans (.int .i64 (errB (belowP s.data.toList))) w) := by
  obtain ⟨l, rfl⟩ : ∃ l : List UInt8, s = ⟨l.toArray⟩ := ⟨s.data.toList, (sv_of s).symm⟩
  show Calls _ _ _ _ (Ans (.int .i64 (errB (belowP l))) w)
  by_cases h0 : l = [47]
  · subst h0
    go_enter Tryz.func60, Tryz.ntmps60
    go_wp2_with fail
    go_ret
    exact ⟨rfl, Below.refl _ _⟩
  · have HC := Lib.hid (show Calls Tryz.prog 68 #[.string ⟨l.toArray⟩] w (Ans (.int .i64 (errB (belowP l))) w) by
      have hb : belowP l = (partsOf l).isSome := by
        rcases path_cases l with h | h | ⟨ps, q, h, _⟩
        · rw [h, (belowP_none h).1]; rfl
        · exact absurd h.1 h0
        · unfold belowP; rw [h, (parentP_eq h).2]; rfl
      rw [hb]
      exact check_any ⟨l.toArray⟩ w hE)
    have he : (l == [47]) = false := by simpa using h0
    go_enter Tryz.func60, Tryz.ntmps60
    go_wp2_with (first | (go_at_call 68; refine (HC.out).mono ?_; rintro e w' ⟨rfl, hb⟩))
    go_ret
    exact ⟨rfl, hb⟩
theorem cloneS_any (s : ByteArray) (w : World) (hs : s.size ≤ 64) : Calls Tryz.prog 42 #[.string s] w (Ans (.string s) w) := by
  have HC := Lib.hid (Tryz.stringslite_Clone s w (by omega))
  go_enter Tryz.func42, Tryz.ntmps42
  go_wp2_with (first | (go_at_call 64; refine (HC.out).mono ?_; rintro e w' ⟨rfl, hb⟩))
  go_ret
  exact ⟨rfl, hb⟩
set_option maxHeartbeats 1600000 in
theorem checked_any (s : ByteArray) (w : World) (hE : Env w) : Calls Tryz.prog 62 #[.string s] w (Ans (optV (if (partsOf s.data.toList).isSome = true then some s.data.toList else none)) w) := by
  have HC := Lib.hid (check_any s w hE)
  cases hp : (partsOf s.data.toList).isSome with
  | true =>
    rw [hp] at HC
    clear hp
    go_enter Tryz.func62, Tryz.ntmps62
    go_wp2_with (first | (go_at_call 68; refine (HC.out).mono ?_; rintro e w' ⟨rfl, hb⟩))
    go_ret2
    refine ⟨?_, hb⟩
    show Ending.returned (.tuple #[.string s, .int .i64 0]) = Ending.returned (.tuple #[.string ⟨s.data.toList.toArray⟩, .int .i64 0])
    rw [sv_of s]
  | false =>
    rw [hp] at HC
    clear hp
    go_enter Tryz.func62, Tryz.ntmps62
    go_wp2_with (first | (go_at_call 68; refine (HC.out).mono ?_; rintro e w' ⟨rfl, hb⟩))
    go_ret2
    exact ⟨rfl, hb⟩
end Go.Proofs.YtgppclmofphlfaaGreatDoor
