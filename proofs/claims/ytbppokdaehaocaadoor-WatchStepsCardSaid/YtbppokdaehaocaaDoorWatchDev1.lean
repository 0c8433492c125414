/-
  Watches: what is right, which is ahead, a copy. Walks; no statement.
-/
import Derived.Test.YtbppokdaehaocaaDoorWatchMem
import Derived.Test.YtbppokdaehaocaaDoorWatchCmp
import Derived.Test.YtbppokdaehaocaaDoorMPathD
namespace Go.Proofs.YtbppokdaehaocaaDoor
set_option maxRecDepth 100000
open Go.RowKit
set_option linter.unusedVariables false

theorem isClient_any (n : Int) (w : World) : Calls Tryd.prog 34 #[.int .i64 n] w fun e w' => e = .returned (.bool (decide (0 ≤ n ∧ n < 8))) ∧ w' = w := by
  by_cases h0 : 0 ≤ n
  · have d0 : decide (n ≥ 0) = true := by simpa using h0
    by_cases h8 : n < 8
    · have d8 : decide (n < 8) = true := by simpa using h8
      rw [show decide (0 ≤ n ∧ n < 8) = true by simp [h0, h8]]
      go_enter Tryd.func34, Tryd.ntmps34
      go_wp2
      go_ret
      exact ⟨rfl, rfl⟩
    · have d8 : decide (n < 8) = false := by simpa using h8
      rw [show decide (0 ≤ n ∧ n < 8) = false by simp [h8]]
      go_enter Tryd.func34, Tryd.ntmps34
      go_wp2
      go_ret
      exact ⟨rfl, rfl⟩
  · have d0 : decide (n ≥ 0) = false := by simpa using h0
    rw [show decide (0 ≤ n ∧ n < 8) = false by simp [h0]]
    go_enter Tryd.func34, Tryd.ntmps34
    go_wp2
    go_ret
    exact ⟨rfl, rfl⟩
theorem isKind_any (n : Int) (w : World) : Calls Tryd.prog 35 #[.int .i64 n] w fun e w' => e = .returned (.bool (decide (n = 1 ∨ n = 2))) ∧ w' = w := by
  by_cases h1 : n = 1
  · subst h1
    go_enter Tryd.func35, Tryd.ntmps35
    go_wp2
    go_ret
    exact ⟨rfl, rfl⟩
  · have d1 : (n == 1) = false := by simpa using h1
    have HR := Lib.hid (show decide (n = 1 ∨ n = 2) = (n == 2) by rw [Bool.eq_iff_iff]; simp [h1])
    clear h1
    go_enter Tryd.func35, Tryd.ntmps35
    go_wp2
    go_ret
    rw [HR.out]
    exact ⟨rfl, rfl⟩
set_option maxHeartbeats 1600000 in
theorem right_any (x : Wt) (w : World) (hE : Env w) : Calls Tryd.prog 13 #[.agg (wtC x).toArray] w (Ans (.bool (wRight x)) w) := by
  show Calls _ _ #[.agg #[.int .i64 x.client, .int .i64 x.kind, .string ⟨x.path.toArray⟩]] _ _
  have HC := Lib.hid (fun W => isClient_any x.client W)
  have HK := Lib.hid (fun W => isKind_any x.kind W)
  have HP := Lib.hid (check_any ⟨x.path.toArray⟩ (w.alloc (.cells #[.int .i64 x.client, .int .i64 x.kind, .string ⟨x.path.toArray⟩] 31)) (hE.alloc _))
  have HB := Lib.hid ((Below.refl w.heap.size w).alloc (Nat.le_refl _) (.cells #[.int .i64 x.client, .int .i64 x.kind, .string ⟨x.path.toArray⟩] 31))
  have HR := Lib.hid (show wRight x = (decide (0 ≤ x.client ∧ x.client < 8) && decide (x.kind = 1 ∨ x.kind = 2) && (partsOf x.path).isSome) by
    unfold wRight
    rw [← Bool.decide_and]
    congr 1
    exact decide_eq_decide.2 and_assoc.symm)
  clear hE
  rw [HR.out]
  cases h1 : decide (0 ≤ x.client ∧ x.client < 8) with
  | false =>
    rw [h1] at HC
    clear h1
    go_enter Tryd.func13, Tryd.ntmps13
    go_wp2_with (first | (go_at_call 34; refine (HC.out _).mono ?_; rintro e w' ⟨rfl, rfl⟩))
    go_ret
    exact ⟨rfl, HB.out⟩
  | true =>
    rw [h1] at HC
    clear h1
    cases h2 : decide (x.kind = 1 ∨ x.kind = 2) with
    | false =>
      rw [h2] at HK
      clear h2
      go_enter Tryd.func13, Tryd.ntmps13
      go_wp2_with (first | (go_at_call 34; refine (HC.out _).mono ?_; rintro e w' ⟨rfl, rfl⟩) | (go_at_call 35; refine (HK.out _).mono ?_; rintro e w' ⟨rfl, rfl⟩))
      go_ret
      exact ⟨rfl, HB.out⟩
    | true =>
      rw [h2] at HK
      clear h2
      cases h3 : (partsOf x.path).isSome with
      | false =>
        have HP := Lib.hid (show Calls _ _ _ _ (Ans (.int .i64 90) _) by have := HP.out; rwa [show errB (partsOf (⟨x.path.toArray⟩ : ByteArray).data.toList).isSome = 90 by show errB (partsOf x.path).isSome = 90; rw [h3]; rfl] at this)
        clear h3
        go_enter Tryd.func13, Tryd.ntmps13
        go_wp2_with (first | (go_at_call 34; refine (HC.out _).mono ?_; rintro e w' ⟨rfl, rfl⟩) | (go_at_call 35; refine (HK.out _).mono ?_; rintro e w' ⟨rfl, rfl⟩) | (go_at_call 36; refine HP.out.mono ?_; rintro e w' ⟨rfl, hb⟩))
        go_ret
        exact ⟨rfl, below_next HB.out hb HB.out.size⟩
      | true =>
        have HP := Lib.hid (show Calls _ _ _ _ (Ans (.int .i64 0) _) by have := HP.out; rwa [show errB (partsOf (⟨x.path.toArray⟩ : ByteArray).data.toList).isSome = 0 by show errB (partsOf x.path).isSome = 0; rw [h3]; rfl] at this)
        clear h3
        go_enter Tryd.func13, Tryd.ntmps13
        go_wp2_with (first | (go_at_call 34; refine (HC.out _).mono ?_; rintro e w' ⟨rfl, rfl⟩) | (go_at_call 35; refine (HK.out _).mono ?_; rintro e w' ⟨rfl, rfl⟩) | (go_at_call 36; refine HP.out.mono ?_; rintro e w' ⟨rfl, hb⟩))
        go_ret
        exact ⟨rfl, below_next HB.out hb HB.out.size⟩
theorem Bk.three {w : World} {g : Nat} {t : TypeId} {a b c : Value} (h : Bk w g t [a, b, c]) : w.cell? ⟨g, 0, none⟩ = some a ∧ w.cell? ⟨g, 1, none⟩ = some b ∧ w.cell? ⟨g, 2, none⟩ = some c := ⟨h.at_ rfl, h.at_ rfl, h.at_ rfl⟩
set_option maxHeartbeats 1600000 in
theorem or3_any (g : Nat) (x y z : Int) (w : World) (h : Bk w g 3 [.int .i64 x, .int .i64 y, .int .i64 z]) :
    Calls Tryd.prog 43 #[.slice (some ⟨g, 0, none⟩) 3 3] w fun e w' => e = .returned (.int .i64 (if x ≠ 0 then x else if y ≠ 0 then y else z)) ∧ w' = w := by
  obtain ⟨c0, c1, c2⟩ := h.three
  clear h
  by_cases hx : x = 0
  · have e1 : (x != 0) = false := by simp [hx]
    have HX := Lib.hid (show (if x ≠ 0 then x else if y ≠ 0 then y else z) = (if y ≠ 0 then y else z) by simp [hx])
    rw [HX.out]
    clear hx HX
    by_cases hy : y = 0
    · have e2 : (y != 0) = false := by simp [hy]
      have HY := Lib.hid (show (if y ≠ 0 then y else z) = z by simp [hy])
      rw [HY.out]
      clear hy HY
      by_cases hz : z = 0
      · have e3 : (z != 0) = false := by simp [hz]
        have hzz := Lib.hid hz
        clear hz
        go_enter Tryd.func43, Tryd.ntmps43
        go_wp2
        go_loopw [8] (fun i wr => ∃ k : Nat, k ≤ 3 ∧ i = .int .i64 k ∧ wr = w) (fun i _ => 3 - (intOf i).toNat)
        case atStart => exact ⟨0, by omega, rfl, rfl⟩
        case round =>
          obtain ⟨k, hk, rfl, rfl⟩ := hrel
          rcases (show k = 0 ∨ k = 1 ∨ k = 2 ∨ k = 3 by omega) with rfl | rfl | rfl | rfl
          · go_wp2
            go_roundw
            case rel => exact ⟨1, by omega, by go_num, by trivial⟩
            case measure => simp [intOf]
          · go_wp2
            go_roundw
            case rel => exact ⟨2, by omega, by go_num, by trivial⟩
            case measure => simp [intOf]
          · go_wp2
            go_roundw
            case rel => exact ⟨3, by omega, by go_num, by trivial⟩
            case measure => simp [intOf]
          · go_wp2
            go_ret
            exact ⟨ret_int hzz.out.symm, rfl⟩
      · have e3 : (z != 0) = true := by simp [hz]
        clear hz
        go_enter Tryd.func43, Tryd.ntmps43
        go_wp2
        go_loopw [8] (fun i wr => ∃ k : Nat, k ≤ 2 ∧ i = .int .i64 k ∧ wr = w) (fun i _ => 3 - (intOf i).toNat)
        case atStart => exact ⟨0, by omega, rfl, rfl⟩
        case round =>
          obtain ⟨k, hk, rfl, rfl⟩ := hrel
          rcases (show k = 0 ∨ k = 1 ∨ k = 2 by omega) with rfl | rfl | rfl
          · go_wp2
            go_roundw
            case rel => exact ⟨1, by omega, by go_num, by trivial⟩
            case measure => simp [intOf]
          · go_wp2
            go_roundw
            case rel => exact ⟨2, by omega, by go_num, by trivial⟩
            case measure => simp [intOf]
          · go_wp2
            go_ret
            exact ⟨rfl, rfl⟩
    · have e2 : (y != 0) = true := by simp [hy]
      have HY := Lib.hid (show (if y ≠ 0 then y else z) = y by simp [hy])
      rw [HY.out]
      clear hy HY
      go_enter Tryd.func43, Tryd.ntmps43
      go_wp2
      go_loopw [8] (fun i wr => ∃ k : Nat, k ≤ 1 ∧ i = .int .i64 k ∧ wr = w) (fun i _ => 3 - (intOf i).toNat)
      case atStart => exact ⟨0, by omega, rfl, rfl⟩
      case round =>
        obtain ⟨k, hk, rfl, rfl⟩ := hrel
        rcases (show k = 0 ∨ k = 1 by omega) with rfl | rfl
        · go_wp2
          go_roundw
          case rel => exact ⟨1, by omega, by go_num, by trivial⟩
          case measure => simp [intOf]
        · go_wp2
          go_ret
          exact ⟨rfl, rfl⟩
  · have e1 : (x != 0) = true := by simp [hx]
    have HX := Lib.hid (show (if x ≠ 0 then x else if y ≠ 0 then y else z) = x by simp [hx])
    rw [HX.out]
    clear hx HX
    go_enter Tryd.func43, Tryd.ntmps43
    go_wp2
    go_loopw [8] (fun i wr => i = .int .i64 0 ∧ wr = w) (fun i _ => 3 - (intOf i).toNat)
    case atStart => exact ⟨rfl, rfl⟩
    case round =>
      obtain ⟨rfl, rfl⟩ := hrel
      go_wp2
      go_ret
      exact ⟨rfl, rfl⟩
theorem or3_new (X : World) (g : Nat) (x y z : Int) (hg : g = X.heap.size) :
    Calls Tryd.prog 43 #[.slice (some ⟨g, 0, none⟩) 3 3] (X.alloc (.cells #[.int .i64 x, .int .i64 y, .int .i64 z] 3)).drew fun e w' => e = .returned (.int .i64 (if x ≠ 0 then x else if y ≠ 0 then y else z)) ∧ w' = (X.alloc (.cells #[.int .i64 x, .int .i64 y, .int .i64 z] 3)).drew := by
  subst hg
  exact or3_any _ x y z _ ((Bk.new X 3 [.int .i64 x, .int .i64 y, .int .i64 z]).drewN 1)
end Go.Proofs.YtbppokdaehaocaaDoor
