/-
  The reference's whole, Parent, Name, Within. Walks; no statement.
-/
import Derived.Test.YtclnbggehefbeaaDoorPathRef2
import Derived.Test.YtclnbggehefbeaaDoorPathDev7
namespace Go.Proofs.YtclnbggehefbeaaDoor
set_option maxRecDepth 100000
open Go.RowKit
set_option linter.unusedVariables false

theorem cat_list (a b : List UInt8) : (⟨a.toArray⟩ : ByteArray) ++ (⟨b.toArray⟩ : ByteArray) = ⟨(a ++ b).toArray⟩ := by
  rw [← sv_of (_ ++ _)]
  congr 1
set_option maxHeartbeats 3200000 in
theorem refWhole_any (A : Option Addr) (n c : Nat) (ls : List (List UInt8)) (w : World) (h : RdT w A n ls) (hn : n ≤ 200) (h16 : ∀ x ∈ ls, x.length ≤ 16) :
    Calls Tryd.prog 27 #[.slice A n c] w fun e w' => e = .returned (.string ⟨(wholeP ls).toArray⟩) ∧ w' = w := by
  have hlen := h.len
  have HL := Lib.hid hlen
  go_enter Tryd.func27, Tryd.ntmps27
  go_wp2_with fail
  go_loop [3, 4] (fun s i => ∃ (k : Nat) (jl : List UInt8), k ≤ n ∧ i = .int .i64 k ∧ s = .string ⟨jl.toArray⟩ ∧ jl = joinP (ls.take k)) (fun _ i => n - (intOf i).toNat)
  case atStart => exact ⟨0, [], by omega, rfl, rfl, by simp [joinP]⟩
  case round =>
    obtain ⟨k, jl, hk, rfl, rfl, hj⟩ := hrel
    have hjl : jl.length ≤ 5000 := by
      have h1 := joinP_most (ls.take k) (fun x hx => h16 x (List.mem_of_mem_take hx))
      rw [← hj, List.length_take] at h1
      omega
    by_cases hlt : k < n
    · obtain ⟨a, rfl, hb, hc⟩ := h.at_ hlt
      have hx16 : (ls.getD k []).length ≤ 16 := h16 _ (getD_mem (by omega))
      have HS := Lib.hid (show joinP (ls.take (k + 1)) = jl ++ 47 :: ls.getD k [] by
        rw [take_snocD ls [] k (by omega), joinP_app, hj]; simp [joinP])
      have HC := Lib.hid (cat_list jl (47 :: ls.getD k []))
      have HJ := Lib.hid hj
      clear hj h h16 hlen
      generalize ls.getD k [] = x at *
      have e1 : (0 : Int) ≤ (k : Int) := by omega
      have e2 : (k : Int) < (n : Int) := by omega
      go_wp2_with fail
      go_round
      case rel =>
        refine ⟨k + 1, jl ++ 47 :: x, by omega, by go_num, ?_, HS.out.symm⟩
        rw [← HC.out]
        congr 2
      case measure => simp [intOf]; omega
    · obtain rfl : k = n := by omega
      rw [List.take_of_length_le (by omega)] at hj
      by_cases h0 : ls = []
      · have HV := Lib.hid (show wholeP ls = [47] by rw [h0]; rfl)
        rw [h0] at hj
        have hje : jl = [] := hj
        subst hje
        clear hj h h16 h0
        go_wp2_with fail
        go_ret
        rw [HV.out]
        exact ⟨rfl, rfl⟩
      · have HV := Lib.hid (show wholeP ls = jl by unfold wholeP; rw [if_neg h0, hj])
        have hje : jl.isEmpty = false := by
          obtain ⟨x, r, rfl⟩ := List.exists_cons_of_ne_nil h0
          rw [hj]; rfl
        clear hj h h16 h0
        go_wp2_with fail
        go_ret
        rw [HV.out]
        exact ⟨rfl, rfl⟩
theorem most_parts {l : List UInt8} {ls : List (List UInt8)} (h : partsOf l = some ls) : ls.length ≤ 64 ∧ ∀ x ∈ ls, isPart x = true ∧ x.length ≤ 16 := by
  obtain ⟨h1, h2, h3⟩ := whole_parts h
  have h4 := wholeP_long ls
  rw [h1] at h4
  exact ⟨by omega, fun x hx => ⟨h2 x hx, (part_len (h2 x hx)).2⟩⟩
set_option maxHeartbeats 3200000 in
theorem refParent_any (s : ByteArray) (w : World) (hs : s.size ≤ maxLen) : Calls Tryd.prog 11 #[.string s] w (Ans (optV (parentP s.data.toList)) w) := by
  have HP := Lib.hid (refParts_any s w hs)
  rcases path_cases s.data.toList with h | ⟨h, h'⟩ | ⟨ps, q, h, hl, hps, hq, h64⟩
  · have HV := Lib.hid (belowP_none h).2.1
    rw [h] at HP
    clear h hs
    go_enter Tryd.func11, Tryd.ntmps11
    go_wp2_with fail
    refine (HP.out).mono ?_
    rintro e w1 ⟨hb, rfl⟩
    go_wp2_with fail
    go_ret2
    rw [HV.out]
    exact ⟨rfl, hb⟩
  · have HV := Lib.hid (show parentP s.data.toList = none by rw [h]; exact belowP_root.2.1)
    rw [h'] at HP
    clear h h' hs
    go_enter Tryd.func11, Tryd.ntmps11
    go_wp2_with fail
    refine (HP.out).mono ?_
    rintro e w1 ⟨hb, A, n, c, rfl, ho⟩
    obtain rfl : 0 = n := ho.len
    go_wp2_with fail
    go_ret2
    rw [HV.out]
    exact ⟨rfl, hb⟩
  · have HV := Lib.hid (parentP_eq h).1
    have HM := Lib.hid (most_parts h)
    rw [h] at HP
    clear h hs hl hq h64
    go_enter Tryd.func11, Tryd.ntmps11
    go_wp2_with fail
    refine (HP.out).mono ?_
    rintro e w1 ⟨hb, A, n, c, rfl, ho⟩
    have hn := ho.len
    have hcap := ho.cap
    have hm := HM.out
    have hn1 : n ≤ 65 := by omega
    obtain ⟨m, rfl⟩ : ∃ m, n = m + 1 := ⟨n - 1, by rw [List.length_append] at hn; simp at hn; omega⟩
    have hfr := Rd.front ho.rd (k := m) (by omega)
    have HF := Lib.hid (show RdT w1 A m ps by
      have e1 : List.take m ((ps ++ [q]).map sv) = ps.map sv := by
        rw [← List.map_take, List.take_left' (by simp at hn; omega)]
      rw [e1] at hfr
      exact hfr)
    have HW := Lib.hid (refWhole_any A m c ps w1 HF.out (by omega) (fun x hx => (hm.2 x (by simp [hx])).2))
    have hc1 : (m : Int) ≤ (c : Int) := by omega
    have hc0 : (0 : Int) ≤ (m : Int) := by omega
    clear hn hcap hm hfr ho
    go_wp2_with fail
    refine (HW.out).mono ?_
    rintro e w2 ⟨rfl, rfl⟩
    go_wp2_with fail
    go_ret2
    rw [HV.out]
    exact ⟨rfl, hb⟩
set_option maxHeartbeats 3200000 in
theorem refName_any (s : ByteArray) (w : World) (hs : s.size ≤ maxLen) : Calls Tryd.prog 13 #[.string s] w (Ans (optV (nameP s.data.toList)) w) := by
  have HP := Lib.hid (refParts_any s w hs)
  rcases path_cases s.data.toList with h | ⟨h, h'⟩ | ⟨ps, q, h, hl, hps, hq, h64⟩
  · have HV := Lib.hid (belowP_none h).2.2
    rw [h] at HP
    clear h hs
    go_enter Tryd.func13, Tryd.ntmps13
    go_wp2_with fail
    refine (HP.out).mono ?_
    rintro e w1 ⟨hb, rfl⟩
    go_wp2_with fail
    go_ret2
    rw [HV.out]
    exact ⟨rfl, hb⟩
  · have HV := Lib.hid (show nameP s.data.toList = none by rw [h]; exact belowP_root.2.2)
    rw [h'] at HP
    clear h h' hs
    go_enter Tryd.func13, Tryd.ntmps13
    go_wp2_with fail
    refine (HP.out).mono ?_
    rintro e w1 ⟨hb, A, n, c, rfl, ho⟩
    obtain rfl : 0 = n := ho.len
    go_wp2_with fail
    go_ret2
    rw [HV.out]
    exact ⟨rfl, hb⟩
  · have HV := Lib.hid (parentP_eq h).2
    have HM := Lib.hid (most_parts h)
    rw [h] at HP
    clear h hs hl hq h64
    go_enter Tryd.func13, Tryd.ntmps13
    go_wp2_with fail
    refine (HP.out).mono ?_
    rintro e w1 ⟨hb, A, n, c, rfl, ho⟩
    have hn := ho.len
    have hm := HM.out
    have hn1 : n ≤ 65 := by omega
    obtain ⟨m, rfl⟩ : ∃ m, n = m + 1 := ⟨n - 1, by rw [List.length_append] at hn; simp at hn; omega⟩
    obtain ⟨a, rfl, hab, hac⟩ := ho.rd.at_ (k := m) (by omega)
    have hg : (ps ++ [q]).getD m [] = q := by
      have : m = ps.length := by simp at hn; omega
      rw [this]; simp
    rw [hg] at hac
    have hc0 : (0 : Int) ≤ (m : Int) := by omega
    have hc1 : (m : Int) < (m : Int) + 1 := by omega
    clear hn hm ho hg
    go_wp2_with fail
    go_ret2
    rw [HV.out]
    exact ⟨rfl, hb⟩
theorem withinP_cases {p top : List UInt8} {a b : List (List UInt8)} (h : partsOf p = some a) (h' : partsOf top = some b) : withinP p top = b.isPrefixOf a := by
  unfold withinP; rw [h, h']
set_option maxHeartbeats 3200000 in
theorem refWithin_any (s t : ByteArray) (w : World) (hs : s.size ≤ maxLen) (ht : t.size ≤ maxLen) : Calls Tryd.prog 17 #[.string s, .string t] w (Ans (.bool (withinP s.data.toList t.data.toList)) w) := by
  have HP := Lib.hid (refParts_any s w hs)
  have HQ := Lib.hid (fun W => refParts_any t W ht)
  cases hp : partsOf s.data.toList with
  | none =>
    have HV := Lib.hid (within_none (top := t.data.toList) (.inl hp))
    rw [hp] at HP
    cases hq : partsOf t.data.toList <;>
    (rw [hq] at HQ
     clear hp hq hs ht
     go_enter Tryd.func17, Tryd.ntmps17
     go_wp2_with fail
     refine (HP.out).mono ?_
     rintro e w1 ⟨hb, rfl⟩
     go_wp2_with fail
     refine (HQ.out _).mono ?_
     first | rintro e w2 ⟨hb2, A, n, c, rfl, ho⟩ | rintro e w2 ⟨hb2, rfl⟩
     go_wp2_with fail
     go_ret
     exact ⟨ret_bool HV.out.symm, hb.trans (hb2.mono hb.size)⟩)
  | some a =>
    rw [hp] at HP
    cases hq : partsOf t.data.toList with
    | none =>
      have HV := Lib.hid (within_none (p := s.data.toList) (.inr hq))
      rw [hq] at HQ
      clear hp hq hs ht
      go_enter Tryd.func17, Tryd.ntmps17
      go_wp2_with fail
      refine (HP.out).mono ?_
      rintro e w1 ⟨hb, A, n, c, rfl, ho⟩
      go_wp2_with fail
      refine (HQ.out _).mono ?_
      rintro e w2 ⟨hb2, rfl⟩
      go_wp2_with fail
      go_ret
      exact ⟨ret_bool HV.out.symm, hb.trans (hb2.mono hb.size)⟩
    | some b =>
      have HV := Lib.hid (withinP_cases hp hq)
      rw [hq] at HQ
      have hma := (most_parts hp).1
      have hmb := (most_parts hq).1
      clear hp hq hs ht
      go_enter Tryd.func17, Tryd.ntmps17
      go_wp2_with fail
      refine (HP.out).mono ?_
      rintro e w1 ⟨hb, A, n, c, rfl, ho⟩
      go_wp2_with fail
      refine (HQ.out _).mono ?_
      rintro e w2 ⟨hb2, B, m, d, rfl, ho2⟩
      have hn := ho.len
      have hm := ho2.len
      have hbb : Below w.heap.size w w2 := hb.trans (hb2.mono hb.size)
      have hra : RdT w2 A n a := ho.rd.below hb2
      have hrb : RdT w2 B m b := ho2.rd
      clear hb hb2 ho ho2 HP HQ
      by_cases hlt : n < m
      · have HF := Lib.hid (show b.isPrefixOf a = false by
          rw [Bool.eq_false_iff]
          intro e
          have := (List.isPrefixOf_iff_prefix.1 e).length_le
          omega)
        go_wp2_with fail
        go_ret
        exact ⟨ret_bool (by rw [HV.out, HF.out]), hbb⟩
      · have hge : m ≤ n := by omega
        have hge' : ¬ (n : Int) < (m : Int) := by omega
        go_wp2_with fail
        go_loopw [9] (fun i wr => ∃ k q : Nat, k ≤ m ∧ i = .int .i64 k ∧ wr = w2.drewN q ∧ b.take k = a.take k) (fun i _ => m - (intOf i).toNat)
        case atStart => exact ⟨0, 0, by omega, rfl, rfl, by simp⟩
        case round =>
          obtain ⟨k, q, hk, rfl, rfl, hpre⟩ := hrel
          by_cases hkm : k < m
          · obtain ⟨x, rfl, hxb, hxc⟩ := hra.at_ (show k < n by omega)
            obtain ⟨y, rfl, hyb, hyc⟩ := hrb.at_ hkm
            have ta := take_snocD a [] k (by omega)
            have tb := take_snocD b [] k (by omega)
            have HN := Lib.hid (show a.getD k [] ≠ b.getD k [] → b.isPrefixOf a = false from fun hne => by
              rw [Bool.eq_false_iff]
              intro e
              obtain ⟨r, hr⟩ := List.isPrefixOf_iff_prefix.1 e
              apply hne
              rw [← hr]
              simp only [List.getD]
              rw [List.getElem?_append_left (show k < b.length by omega)])
            have e1 : (0 : Int) ≤ (k : Int) := by omega
            have e2 : (k : Int) < (n : Int) := by omega
            have e3 : (k : Int) < (m : Int) := by omega
            clear hra hrb
            generalize a.getD k [] = u at *
            generalize b.getD k [] = v at *
            by_cases huv : u = v
            · have T := Lib.hid (show b.take (k + 1) = a.take (k + 1) by rw [ta, tb, hpre, huv])
              subst huv
              clear ta tb hpre HN
              go_wp2_with fail
              go_quiet (fail)
              go_wp2_with fail
              go_roundw
              case rel => exact ⟨k + 1, _, by omega, by go_num, rfl, T.out⟩
              case measure => simp [intOf]; omega
            · have HF := Lib.hid (HN.out huv)
              have hb1 : (u == v) = false := by simpa using huv
              have hb2 : (u != v) = true := by simpa using huv
              clear ta tb hpre HN huv
              go_wp2_with fail
              go_quiet (fail)
              go_wp2_with fail
              go_ret
              exact ⟨ret_bool (by rw [HV.out, HF.out]), below_drewN (below_drewN hbb _) _⟩
          · obtain rfl : k = m := by omega
            have HF := Lib.hid (show b.isPrefixOf a = true by
              rw [List.isPrefixOf_iff_prefix, ← List.take_of_length_le (show b.length ≤ k by omega), hpre]
              exact List.take_prefix _ _)
            clear hpre hra hrb
            go_wp2_with fail
            go_ret
            exact ⟨ret_bool (by rw [HV.out, HF.out]), below_drewN hbb _⟩
end Go.Proofs.YtclnbggehefbeaaDoor
