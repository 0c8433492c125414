/-
  Within; Numbered; Join. Walks; no statement.
-/
import Derived.Test.YtclnbggehefbeaaDoorPathDev4
namespace Go.Proofs.YtclnbggehefbeaaDoor
set_option maxRecDepth 100000
open Go.RowKit
set_option linter.unusedVariables false

theorem below_grew (w : World) (k : Nat) (os : Array Obj) : Below w.heap.size w (Sort.grow (w.drewN k) os) := by
  refine ⟨rfl, rfl, rfl, by simp [Sort.grow], fun i hi => ?_⟩
  show (w.heap ++ os)[i]? = w.heap[i]?
  rw [Array.getElem?_append_left hi]
theorem pieces_more : ∀ (u v : List UInt8), pieces (u ++ 47 :: v) = pieces u ++ pieces v
  | [], v => by
    show pieces (47 :: v) = _
    conv => lhs; unfold pieces
    rw [if_pos rfl]; rfl
  | c :: u, v => by
    have ih := pieces_more u v
    by_cases hc : c = 47
    · subst hc
      show pieces (47 :: (u ++ 47 :: v)) = pieces (47 :: u) ++ _
      have h1 : ∀ r, pieces (47 :: r) = [] :: pieces r := fun r => by
        conv => lhs; unfold pieces
        rw [if_pos rfl]
      rw [h1, h1, ih]; rfl
    · show pieces (c :: (u ++ 47 :: v)) = pieces (c :: u) ++ _
      have h1 : ∀ r, pieces (c :: r) = match pieces r with | p :: ps => (c :: p) :: ps | [] => [[c]] := fun r => by
        conv => lhs; unfold pieces
        rw [if_neg hc]
        cases pieces r <;> rfl
      rw [h1, h1, ih]
      cases hp : pieces u with
      | nil => exact absurd hp (pieces_ne u)
      | cons p ps => rfl
/-- what is within: by bytes -/
theorem within_eq {p top : List UInt8} {a b : List (List UInt8)} (h : partsOf p = some a) (h' : partsOf top = some b) :
    withinP p top = (p == top || (top == [47] || Lib.hasPrefix p (top ++ [47]))) := by
  obtain ⟨h1, h2, h3⟩ := whole_parts h
  obtain ⟨k1, k2, k3⟩ := whole_parts h'
  have hw : withinP p top = b.isPrefixOf a := by unfold withinP; rw [h, h']
  rw [hw, Bool.eq_iff_iff]
  simp only [List.isPrefixOf_iff_prefix, Bool.or_eq_true, beq_iff_eq, Lib.hasPrefix]
  constructor
  · rintro ⟨c, rfl⟩
    by_cases hc : c = []
    · subst hc; rw [List.append_nil, k1] at h1; exact .inl h1.symm
    · by_cases hb : b = []
      · subst hb; exact .inr (.inl k1.symm)
      · refine .inr (.inr ?_)
        obtain ⟨x, c, rfl⟩ := List.exists_cons_of_ne_nil hc
        refine ⟨x ++ joinP c, ?_⟩
        rw [← h1, ← k1]
        unfold wholeP
        rw [if_neg hb, if_neg (by simp), joinP_app]
        simp [joinP]
  · rintro (rfl | rfl | ⟨t, ht⟩)
    · rw [h] at h'; cases h'; exact List.prefix_refl _
    · have : b = [] := Option.some.inj (h'.symm.trans (show partsOf [47] = some [] from rfl))
      rw [this]; exact List.nil_prefix
    · by_cases hb : b = []
      · rw [hb]; exact List.nil_prefix
      · obtain ⟨x, b, rfl⟩ := List.exists_cons_of_ne_nil hb
        have hk : top = 47 :: (x ++ joinP b) := by rw [← k1]; unfold wholeP; rw [if_neg (by simp)]; rfl
        have hp : p = 47 :: ((x ++ joinP b) ++ 47 :: t) := by rw [← ht, hk]; simp
        have hpb : pieces (x ++ joinP b) = x :: b := pieces_of _ _ (fun y hy => part_noslash (k2 y hy)) rfl
        have ha : a = (x :: b) ++ pieces t := by
          rw [hp] at h
          have := (parted_of h).1
          rw [this]
          unfold parted
          rw [if_neg (by simp), pieces_more, hpb]
        exact ⟨pieces t, ha.symm⟩
theorem within_none {p top : List UInt8} (h : partsOf p = none ∨ partsOf top = none) : withinP p top = false := by
  unfold withinP
  rcases h with h | h
  · rw [h]
  · rw [h]
    cases partsOf p <;> rfl
set_option maxHeartbeats 1600000 in
theorem within_any (s t : ByteArray) (w : World) (hE : Env w) : Calls Tryd.prog 16 #[.string s, .string t] w (Ans (.bool (withinP s.data.toList t.data.toList)) w) := by
  obtain ⟨l, rfl⟩ : ∃ l : List UInt8, s = ⟨l.toArray⟩ := ⟨s.data.toList, (sv_of s).symm⟩
  obtain ⟨m, rfl⟩ : ∃ m : List UInt8, t = ⟨m.toArray⟩ := ⟨t.data.toList, (sv_of t).symm⟩
  show Calls _ _ _ _ (Ans (.bool (withinP l m)) w)
  have HC := Lib.hid (show Calls _ _ _ _ (Ans (.int .i64 (errB (partsOf l).isSome)) w) from check_any ⟨l.toArray⟩ w hE)
  have HD := Lib.hid (fun W (h : Env W) => show Calls _ _ _ _ (Ans (.int .i64 (errB (partsOf m).isSome)) W) from check_any ⟨m.toArray⟩ W h)
  have HE := Lib.hid hE
  cases hp : partsOf l with
  | none =>
    have HV := Lib.hid (within_none (top := m) (.inl hp))
    rw [hp] at HC
    clear hp hE
    go_enter Tryd.func16, Tryd.ntmps16
    go_wp2_with (first | (go_at_call 14; refine (HC.out).mono ?_; rintro e w1 ⟨rfl, hb1⟩))
    go_ret
    exact ⟨ret_bool HV.out.symm, hb1⟩
  | some a =>
    rw [hp] at HC
    cases hq : partsOf m with
    | none =>
      have HV := Lib.hid (within_none (p := l) (.inr hq))
      rw [hq] at HD
      clear hp hE hq
      go_enter Tryd.func16, Tryd.ntmps16
      go_wp2_with fail
      refine (HC.out).mono ?_
      rintro e w1 ⟨rfl, hb1⟩
      go_wp2_with fail
      refine (HD.out _ (HE.out.below hb1)).mono ?_
      rintro e w2 ⟨rfl, hb2⟩
      go_wp2_with fail
      go_ret
      exact ⟨ret_bool HV.out.symm, hb1.trans (hb2.mono hb1.size)⟩
    | some b =>
      have HV := Lib.hid (within_eq hp hq)
      rw [hq] at HD
      have HP := Lib.hid (fun (x : ByteArray) W (hx : x.data.toList = m ++ [47]) => show Calls Tryd.prog 28 #[.string ⟨l.toArray⟩, .string x] W fun e w' => e = .returned (.bool (Lib.hasPrefix l (m ++ [47]))) ∧ w' = W by
        rw [← hx]; exact Tryd.strings_HasPrefix ⟨l.toArray⟩ x W)
      have h64 := (whole_parts hq).2.2
      clear hp hE hq
      generalize withinP l m = V at *
      have h65 : m.length + 1 ≤ 65 := by omega
      cases e1 : (l == m) <;> cases e2 : (m == [47]) <;> rw [e1, e2] at HV
      · cases e3 : Lib.hasPrefix l (m ++ [47]) <;> rw [e3] at HV HP <;> clear e3 <;>
        (go_enter Tryd.func16, Tryd.ntmps16
         go_wp2_with fail
         refine (HC.out).mono ?_
         rintro e w1 ⟨rfl, hb1⟩
         go_wp2_with fail
         refine (HD.out _ (HE.out.below hb1)).mono ?_
         rintro e w2 ⟨rfl, hb2⟩
         go_wp2_with fail
         refine (HP.out _ _ (by simp)).mono ?_
         rintro e w3 ⟨rfl, rfl⟩
         go_wp2_with fail
         go_ret
         exact ⟨ret_bool HV.out.symm, hb1.trans (hb2.mono hb1.size)⟩)
      all_goals
        go_enter Tryd.func16, Tryd.ntmps16
        go_wp2_with fail
        refine (HC.out).mono ?_
        rintro e w1 ⟨rfl, hb1⟩
        go_wp2_with fail
        refine (HD.out _ (HE.out.below hb1)).mono ?_
        rintro e w2 ⟨rfl, hb2⟩
        go_wp2_with fail
        go_ret
        exact ⟨ret_bool HV.out.symm, hb1.trans (hb2.mono hb1.size)⟩
end Go.Proofs.YtclnbggehefbeaaDoor
