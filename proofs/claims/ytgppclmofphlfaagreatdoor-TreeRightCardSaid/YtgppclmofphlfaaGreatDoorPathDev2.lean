/-
  Splitting at slashes; what is a path. Walks; no statement.
-/
import Derived.Test.YtgppclmofphlfaaGreatDoorPathDev1
import Derived.Test.YtgppclmofphlfaaGreatDoorShelf
namespace Go.Proofs.YtgppclmofphlfaaGreatDoor
set_option maxRecDepth 100000
open Go.RowKit
set_option linter.unusedVariables false

def SplitP (ls : List (List UInt8)) (w : World) (e : Ending) (w' : World) : Prop :=
  Below w.heap.size w w' ∧ ∃ A n c, e = .returned (.slice A n c) ∧ n ≤ 4294967296 ∧ OwnT w' w.heap.size A n c ls
theorem splits_any (x : ByteArray) (r : List UInt8) (w : World) (hE : Env w) (hx : x.data.toList = r) (hr : r.length < 64) : Calls Tryz.prog 98 #[.string x, .string ⟨#[47]⟩] w (SplitP (pieces r) w) := by
  obtain ⟨⟨m, hm⟩, _⟩ := hE
  have hsz : x.size < 4294967281 := by rw [Lib.size_eq, hx]; omega
  refine (Tryz.strings_Split x ⟨#[47]⟩ m w hsz hm (by decide)).mono ?_
  rintro e w' ⟨he, rfl⟩
  have hp := splitB_pieces x
  have hn := Lib.splitB_all ⟨#[47]⟩ (by decide) 0 _ x rfl
  have hle := Lib.countB_le ⟨#[47]⟩ (by decide) _ x (Nat.le_refl _)
  have hpl : (pieces r).length = Lib.countB x ⟨#[47]⟩ + 1 := by rw [← hx, ← hp, List.length_map, hn]
  have ho := own_new w (pieces r) (by unfold maxLen; omega)
  rw [texts_of, hp, hx]
  rw [hpl] at ho
  exact ⟨(Below.refl _ _).alloc (Nat.le_refl _) _, _, _, _, he, by omega, ho⟩
set_option maxHeartbeats 1600000 in
theorem split_any (r : List UInt8) (w : World) (hE : Env w) (hr : r.length < 64) : Calls Tryz.prog 85 #[.string ⟨(47 :: r).toArray⟩] w (SplitP (parted r) w) := by
  by_cases h0 : r = []
  · subst h0
    go_enter Tryz.func85, Tryz.ntmps85
    go_wp2_with fail
    go_ret
    exact ⟨Below.refl _ _, none, 0, 0, rfl, by omega, OwnT.nil_ _ _⟩
  · have he : r.isEmpty = false := by simpa using h0
    have HP := Lib.hid (show parted r = pieces r by unfold parted; rw [if_neg h0])
    have HS := Lib.hid (fun (x : ByteArray) (hx : x.data.toList = r) => splits_any x r w hE hx hr)
    have HX := Lib.hid (show ((⟨(47 :: r).toArray⟩ : ByteArray).extract 1 (r.length + 1)).data.toList = r by rw [Lib.extract_data]; simp)
    clear h0
    go_enter Tryz.func85, Tryz.ntmps85
    go_wp2_with (first | (go_at_call 98; refine (HS.out _ HX.out).mono ?_; rintro e w' ⟨hb, A, n, c, rfl, hn, ho⟩))
    go_ret
    rw [HP.out]
    exact ⟨hb, A, n, c, rfl, hn, ho⟩
set_option maxHeartbeats 1600000 in
theorem check_any (s : ByteArray) (w : World) (hE : Env w) : Calls Tryz.prog 68 #[.string s] w (Ans (.int .i64 (errB (partsOf s.data.toList).isSome)) w) := by
  obtain ⟨l, rfl⟩ : ∃ l : List UInt8, s = ⟨l.toArray⟩ := ⟨s.data.toList, (sv_of s).symm⟩
  show Calls _ _ _ _ (Ans (.int .i64 (errB (partsOf l).isSome)) w)
  by_cases h64 : 64 < l.length
  · have HF := Lib.hid (show partsOf l = none by
      cases l with
      | nil => rfl
      | cons c r =>
        show (if c = 47 ∧ r.length < 64 then _ else _) = none
        rw [if_neg]
        simp only [List.length_cons] at h64
        omega)
    go_enter Tryz.func68, Tryz.ntmps68
    go_wp2_with fail
    go_ret
    rw [HF.out]
    exact ⟨rfl, Below.refl _ _⟩
  · have HH := Lib.hid (Tryz.strings_HasPrefix ⟨l.toArray⟩ ⟨#[47]⟩ w)
    have h64' : l.length ≤ 64 := by omega
    clear h64
    rcases l with _ | ⟨c, r⟩
    · go_enter Tryz.func68, Tryz.ntmps68
      go_wp2_with (first | (go_at_call 78; refine (HH.out).mono ?_; rintro e w' ⟨rfl, rfl⟩))
      go_ret
      exact ⟨rfl, Below.refl _ _⟩
    · by_cases hc : c = 47
      · subst hc
        have hr : r.length < 64 := by simp only [List.length_cons] at h64'; omega
        have HPO := Lib.hid (partsOf_eq r)
        have HSP := Lib.hid (split_any r w hE hr)
        have HAP := Lib.hid (fun A n c W (h : RdT W A n (parted r)) (hn : n ≤ maxLen) => areParts_any A n c (parted r) W h hn)
        have HHH := Lib.hid (show Lib.hasPrefix (⟨(47 :: r).toArray⟩ : ByteArray).data.toList (⟨#[47]⟩ : ByteArray).data.toList = true by exact hasPrefix_slash 47 r)
        have HR := Lib.hid hr
        clear h64'
        cases hall : (parted r).all isPart with
        | true =>
          have HALL := Lib.hid hall
          rw [hall] at HAP
          clear hall
          go_enter Tryz.func68, Tryz.ntmps68
          go_wp2_with (first
            | (go_at_call 78; refine (HH.out).mono ?_; rw [HHH.out]; rintro e w' ⟨rfl, rfl⟩)
            | (go_at_call 85; refine (HSP.out).mono ?_; rintro e w1 ⟨hb, A, n, c, rfl, hn, ho⟩)
            | (go_at_call 84; refine (HAP.out A n c w1 ho.rd (by unfold maxLen; omega)).mono ?_; rintro e w2 ⟨rfl, rfl⟩))
          go_ret
          rw [HPO.out, if_pos ⟨HR.out, HALL.out⟩]
          exact ⟨rfl, hb⟩
        | false =>
          have HALL := Lib.hid hall
          rw [hall] at HAP
          clear hall
          go_enter Tryz.func68, Tryz.ntmps68
          go_wp2_with (first
            | (go_at_call 78; refine (HH.out).mono ?_; rw [HHH.out]; rintro e w' ⟨rfl, rfl⟩)
            | (go_at_call 85; refine (HSP.out).mono ?_; rintro e w1 ⟨hb, A, n, c, rfl, hn, ho⟩)
            | (go_at_call 84; refine (HAP.out A n c w1 ho.rd (by unfold maxLen; omega)).mono ?_; rintro e w2 ⟨rfl, rfl⟩))
          go_ret
          rw [HPO.out, if_neg (by rw [HALL.out]; simp)]
          exact ⟨rfl, hb⟩
      · have HHH := Lib.hid (show Lib.hasPrefix (⟨(c :: r).toArray⟩ : ByteArray).data.toList (⟨#[47]⟩ : ByteArray).data.toList = false by
          refine (hasPrefix_slash c r).trans ?_
          simpa using hc)
        have HF := Lib.hid (show partsOf (c :: r) = none by
          show (if c = 47 ∧ r.length < 64 then _ else _) = none
          rw [if_neg (fun e => hc e.1)])
        have hr : r.length < 64 := by simp only [List.length_cons] at h64'; omega
        clear hc h64'
        go_enter Tryz.func68, Tryz.ntmps68
        go_wp2_with (first
            | (go_at_call 78; refine (HH.out).mono ?_; rw [HHH.out]; rintro e w' ⟨rfl, rfl⟩))
        go_ret
        rw [HF.out]
        exact ⟨rfl, Below.refl _ _⟩
end Go.Proofs.YtgppclmofphlfaaGreatDoor
