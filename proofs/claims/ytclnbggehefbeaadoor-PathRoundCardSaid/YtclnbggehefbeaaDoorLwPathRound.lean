/-
  The law PathRound, walked. No statement.
-/
import Derived.Test.YtclnbggehefbeaaDoorLwPathWithin
import Derived.Test.YtclnbggehefbeaaDoorPathTab
namespace Go.Proofs.YtclnbggehefbeaaDoor
set_option maxRecDepth 100000
open Go.RowKit
set_option linter.unusedVariables false

theorem round_joins {l : List UInt8} {ls : List (List UInt8)} (h : partsOf l = some ls) : joinsP [47] ls = some l := by
  obtain ⟨h1, h2, h3⟩ := whole_parts h
  unfold joinsP
  show (if ls.all isPart = true ∧ (wholeP ([] ++ ls)).length ≤ 64 then some (wholeP ([] ++ ls)) else none) = some l
  rw [List.nil_append, h1, if_pos ⟨List.all_eq_true.2 h2, h3⟩]
theorem round_root {l : List UInt8} {ls : List (List UInt8)} (h : partsOf l = some ls) : withinP l [47] = true ∧ withinP l l = true := by
  unfold withinP
  rw [h]
  exact ⟨rfl, List.isPrefixOf_iff_prefix.2 (List.prefix_refl _)⟩
theorem round_parent {l : List UInt8} {ps : List (List UInt8)} {q : List UInt8} (h : partsOf l = some (ps ++ [q])) :
    joinsP (wholeP ps) [q] = some l ∧ withinP l (wholeP ps) = true ∧ withinP (wholeP ps) l = false := by
  obtain ⟨h1, h2, h3⟩ := whole_parts h
  have hw : l = joinP ps ++ 47 :: q := by rw [← h1]; unfold wholeP; rw [if_neg (by simp), joinP_last]
  have hl : (wholeP ps).length ≤ 64 := by
    unfold wholeP
    split
    · simp
    · rw [hw] at h3; simp at h3; omega
  have hp := parts_whole (fun p hm => h2 p (by simp [hm])) hl
  have hq : isPart q = true := h2 q (by simp)
  refine ⟨?_, ?_, ?_⟩
  · unfold joinsP
    rw [hp]
    show (if [q].all isPart = true ∧ (wholeP (ps ++ [q])).length ≤ 64 then some (wholeP (ps ++ [q])) else none) = some l
    rw [h1, if_pos ⟨by simp [hq], h3⟩]
  · unfold withinP
    rw [h, hp]
    exact List.isPrefixOf_iff_prefix.2 ⟨[q], rfl⟩
  · unfold withinP
    rw [h, hp]
    show (ps ++ [q]).isPrefixOf ps = false
    rw [Bool.eq_false_iff]
    intro e
    have := (List.isPrefixOf_iff_prefix.1 e).length_le
    simp at this
    omega
theorem round_join {l j : List UInt8} {ls parts : List (List UInt8)} (h : partsOf l = some ls) (k : joinsP l parts = some j) : partsOf j = some (ls ++ parts) ∧ withinP j l = true := by
  obtain ⟨h1, h2, h3⟩ := whole_parts h
  unfold joinsP at k
  rw [h] at k
  have k' : (if parts.all isPart = true ∧ (wholeP (ls ++ parts)).length ≤ 64 then some (wholeP (ls ++ parts)) else none) = some j := k
  split at k'
  · rename_i hc
    obtain rfl := Option.some.inj k'
    have hp := parts_whole (fun p hm => (List.mem_append.1 hm).elim (h2 p) (List.all_eq_true.1 hc.1 p)) hc.2
    refine ⟨hp, ?_⟩
    unfold withinP
    rw [hp, h]
    exact List.isPrefixOf_iff_prefix.2 ⟨parts, rfl⟩
  · cases k'
theorem back_texts {w : World} {A : Option Addr} {n m c : Nat} {x y : List (List UInt8)} (h : RdT w A n (x ++ y)) (hm : m = x.length) (hc : n ≤ c) : RdT w (if c = m then A else A.map (·.add m)) (n - m) y := by
  have hl := h.len
  rw [List.length_append] at hl
  have := Rd.cut h (k := m) (cap := c) (by omega) hc
  rw [← List.map_drop, hm, List.drop_left] at this
  rw [hm]
  exact this
set_option maxHeartbeats 6400000 in
theorem pathRound_walk (w : World) (hE : Env w) (sa : ByteArray) (ha : sa.size ≤ maxLen) (v : Value) (ps : List (List UInt8)) (hv : InT w v ps) : Calls Tryd.prog 5 #[.string sa, v] w (Tr w) := by
  obtain ⟨a, rfl⟩ : ∃ l : List UInt8, sa = ⟨l.toArray⟩ := ⟨sa.data.toList, (sv_of sa).symm⟩
  obtain ⟨A, n, c, rfl, hr, hn, hsz⟩ := hv
  have HL := Lib.hid (alive_ok w hE)
  have HE := Lib.hid hE
  clear hE ha hsz
  by_cases hbig : (5000 : Int) < (a.length : Int)
  · clear hr
    go_enter Tryd.func5, Tryd.ntmps5
    go_wp2_with fail
    refine (HL.out).mono ?_
    rintro e w1 ⟨rfl, hb1⟩
    go_wp2_with fail
    go_ret
    exact ⟨rfl, hb1⟩
  · by_cases hbig2 : (200 : Int) < (n : Int)
    · clear hr
      go_enter Tryd.func5, Tryd.ntmps5
      go_wp2_with fail
      refine (HL.out).mono ?_
      rintro e w1 ⟨rfl, hb1⟩
      go_wp2_with fail
      go_ret
      exact ⟨rfl, hb1⟩
    · have hn2 : n ≤ 200 := by omega
      have HCP := Lib.hid (fun W (h : RdT W A n ps) => copyTexts_any A n c ps W h (by omega))
      have H0 := Lib.hid hr
      have HS := Lib.hid (fun W (h : Env W) => show Calls _ _ _ W (PartsP (partsOf a) W) from parts_any ⟨a.toArray⟩ W h)
      have HC := Lib.hid (fun W (h : Env W) => show Calls _ _ _ W (Ans (.int .i64 (errB (partsOf a).isSome)) W) from check_any ⟨a.toArray⟩ W h)
      have HW0 := Lib.hid (fun W (h : Env W) => show Calls Tryd.prog 16 #[.string ⟨a.toArray⟩, .string ⟨#[47]⟩] W (Ans (.bool (withinP a [47])) W) from within_any ⟨a.toArray⟩ ⟨#[47]⟩ W h)
      have HWP := Lib.hid (fun W (h : Env W) => show Calls _ _ _ W (Ans (.bool (withinP a a)) W) from within_any ⟨a.toArray⟩ ⟨a.toArray⟩ W h)
      have HJ := Lib.hid (fun (x : List UInt8) (y : List (List UInt8)) W (h : Env W) B m d (hb : RdT W B m y) (hm : m ≤ maxLen) => show Calls _ _ _ W (Ans (optV (joinsP x y)) W) from join_any ⟨x.toArray⟩ B m d y W h hb hm)
      have HJP := Lib.hid (fun W h B m d hb hm => HJ.out a ps W h B m d hb hm)
      clear hn hr
      cases hpa : partsOf a with
      | none =>
        rw [hpa] at HS HC
        rw [within_none (top := [47]) (.inl hpa)] at HW0
        replace HC := Lib.hid (fun W (h : Env W) => show Calls _ _ _ W (Ans (.int .i64 90) W) from HC.out W h)
        have HJX := Lib.hid (fun W h B m d hb hm => show Calls _ _ _ W (Ans (.tuple #[.string ⟨#[]⟩, .int .i64 90]) W) by
          have := HJ.out a [[120]] W h B m d hb hm
          rw [show joinsP a [[120]] = none by unfold joinsP; rw [hpa]] at this
          exact this)
        clear hpa HJ HJP
        go_enter Tryd.func5, Tryd.ntmps5
        go_wp2_with fail
        refine (HL.out).mono ?_
        rintro e w1 ⟨rfl, hb1⟩
        go_wp2_with fail
        refine (HS.out _ (HE.out.below hb1)).mono ?_
        rintro e w2 ⟨hp2, rfl⟩
        have hb2 := hb1.trans (hp2.mono hb1.size)
        go_wp2_with fail
        have hba := hb2.alloc hb2.size (.cells #[.string ⟨#[120]⟩] 9)
        refine (HJX.out _ (HE.out.below hba) _ _ _ (Rd.new _ [sv [120]] 9) (by simp [maxLen])).mono ?_
        rintro e w8 ⟨rfl, q8⟩
        have hb8 := hba.trans (q8.mono hba.size)
        go_wp2_with fail
        refine (HC.out _ (HE.out.below hb8)).mono ?_
        rintro e w9 ⟨rfl, q9⟩
        have hb9 := hb8.trans (q9.mono hb8.size)
        go_wp2_with fail
        refine (HW0.out _ (HE.out.below hb9)).mono ?_
        rintro e w10 ⟨rfl, q10⟩
        have hb10 := hb9.trans (q10.mono hb9.size)
        go_wp2_with fail
        go_ret
        exact ⟨rfl, hb10⟩
      | some ls =>
        rw [hpa] at HS
        rw [(round_root hpa).1] at HW0
        rw [(round_root hpa).2] at HWP
        have HJ0 := Lib.hid (fun W h B m d hb hm => show Calls Tryd.prog 24 #[.string ⟨#[47]⟩, .slice B m d] W (Ans (.tuple #[.string ⟨a.toArray⟩, .int .i64 0]) W) by
          have := HJ.out [47] ls W h B m d hb hm
          rw [round_joins hpa] at this
          exact this)
        have HML := Lib.hid (most_len hpa)
        have HRJ := Lib.hid (fun j hj => round_join (j := j) (parts := ps) hpa hj)
        have hcase : (a = [47]) ∨ ∃ qs q, ls = qs ++ [q] := by
          rcases path_cases a with h | ⟨h, _⟩ | ⟨qs, q, h, _⟩
          · rw [hpa] at h; cases h
          · exact .inl h
          · exact .inr ⟨qs, q, Option.some.inj (hpa.symm.trans h)⟩
        have hjo := opt_cases (joinsP a ps)
        rcases hcase with hroot | ⟨qs, q, rfl⟩
        · have hre : (a == [47]) = true := by rw [hroot]; rfl
          clear hroot HJ HC
          rcases hjo with ⟨hj, hv⟩ | ⟨j, hj, hv⟩ <;> rw [hv] at HJP <;> clear hv
          · clear hj hpa HRJ
            go_enter Tryd.func5, Tryd.ntmps5
            go_wp2_with fail
            refine (HL.out).mono ?_
            rintro e w1 ⟨rfl, hb1⟩
            go_wp2_with fail
            refine (HS.out _ (HE.out.below hb1)).mono ?_
            rintro e w2 ⟨hp2, A2, n2, c2, rfl, ho2⟩
            have hb2 := hb1.trans (hp2.mono hb1.size)
            have HK := Lib.hid ho2.len
            have hki : n2 ≤ maxLen := by have h1 := HK.out; have h2 := HML.out; unfold maxLen; omega
            have HO := Lib.hid ho2.rd
            clear ho2
            have K0 : Below w2.heap.size w2 w2 := Below.refl _ _
            go_wp2_with fail
            refine (HJ0.out _ (HE.out.below hb2) _ _ _ HO.out hki).mono ?_
            rintro e w3 ⟨rfl, q3⟩
            have hb3 := hb2.trans (q3.mono hb2.size)
            go_wp2_with fail
            have K1 := K0.trans (q3.mono K0.size)
            refine (HW0.out _ (HE.out.below hb3)).mono ?_
            rintro e w4 ⟨rfl, q4⟩
            have hb4 := hb3.trans (q4.mono hb3.size)
            go_wp2_with fail
            have K2 := K1.trans (q4.mono K1.size)
            refine (HWP.out _ (HE.out.below hb4)).mono ?_
            rintro e w5 ⟨rfl, q5⟩
            have hb5 := hb4.trans (q5.mono hb4.size)
            go_wp2_with fail
            have K3 := K2.trans (q5.mono K2.size)
            skip
            refine (HCP.out _ (H0.out.below hb5)).mono ?_
            rintro e w20 ⟨B, m, d, rfl, ho20, q20⟩
            have hb20 := hb5.trans (q20.mono hb5.size)
            have hmm : m ≤ maxLen := by have h1 := ho20.len; have h2 := H0.out.len; unfold maxLen; omega
            have HO20 := Lib.hid ho20.rd
            clear ho20
            go_wp2_with fail
            refine (HJP.out _ (HE.out.below hb20) _ _ _ HO20.out hmm).mono ?_
            rintro e w21 ⟨rfl, q21⟩
            have hb21 := hb20.trans (q21.mono hb20.size)
            go_wp2_with fail
            have K4 := K3.trans (q20.mono K3.size)
            have K5 := K4.trans (q21.mono K4.size)
            go_ret
            exact ⟨rfl, hb21⟩
          · have HT := Lib.hid (fun W (h : Env W) => show Calls Tryd.prog 18 #[.string ⟨j.toArray⟩] W (PartsP (some (ls ++ ps)) W) by
              have : Calls _ _ _ W (PartsP (partsOf j) W) := parts_any ⟨j.toArray⟩ W h
              rw [(HRJ.out j hj).1] at this; exact this)
            have HW3 := Lib.hid (fun W (h : Env W) => show Calls Tryd.prog 16 #[.string ⟨j.toArray⟩, .string ⟨a.toArray⟩] W (Ans (.bool true) W) by
              have : Calls _ _ _ W (Ans (.bool (withinP j a)) W) := within_any ⟨j.toArray⟩ ⟨a.toArray⟩ W h
              rw [(HRJ.out j hj).2] at this; exact this)
            clear hj hpa HRJ
            go_enter Tryd.func5, Tryd.ntmps5
            go_wp2_with fail
            refine (HL.out).mono ?_
            rintro e w1 ⟨rfl, hb1⟩
            go_wp2_with fail
            refine (HS.out _ (HE.out.below hb1)).mono ?_
            rintro e w2 ⟨hp2, A2, n2, c2, rfl, ho2⟩
            have hb2 := hb1.trans (hp2.mono hb1.size)
            have HK := Lib.hid ho2.len
            have hki : n2 ≤ maxLen := by have h1 := HK.out; have h2 := HML.out; unfold maxLen; omega
            have HO := Lib.hid ho2.rd
            clear ho2
            have K0 : Below w2.heap.size w2 w2 := Below.refl _ _
            go_wp2_with fail
            refine (HJ0.out _ (HE.out.below hb2) _ _ _ HO.out hki).mono ?_
            rintro e w3 ⟨rfl, q3⟩
            have hb3 := hb2.trans (q3.mono hb2.size)
            go_wp2_with fail
            have K1 := K0.trans (q3.mono K0.size)
            refine (HW0.out _ (HE.out.below hb3)).mono ?_
            rintro e w4 ⟨rfl, q4⟩
            have hb4 := hb3.trans (q4.mono hb3.size)
            go_wp2_with fail
            have K2 := K1.trans (q4.mono K1.size)
            refine (HWP.out _ (HE.out.below hb4)).mono ?_
            rintro e w5 ⟨rfl, q5⟩
            have hb5 := hb4.trans (q5.mono hb4.size)
            go_wp2_with fail
            have K3 := K2.trans (q5.mono K2.size)
            skip
            refine (HCP.out _ (H0.out.below hb5)).mono ?_
            rintro e w20 ⟨B, m, d, rfl, ho20, q20⟩
            have hb20 := hb5.trans (q20.mono hb5.size)
            have hmm : m ≤ maxLen := by have h1 := ho20.len; have h2 := H0.out.len; unfold maxLen; omega
            have HO20 := Lib.hid ho20.rd
            clear ho20
            go_wp2_with fail
            refine (HJP.out _ (HE.out.below hb20) _ _ _ HO20.out hmm).mono ?_
            rintro e w21 ⟨rfl, q21⟩
            have hb21 := hb20.trans (q21.mono hb20.size)
            go_wp2_with fail
            have K4 := K3.trans (q20.mono K3.size)
            have K5 := K4.trans (q21.mono K4.size)
            refine (HT.out _ (HE.out.below hb21)).mono ?_
            rintro e w22 ⟨q22, D, t, f, rfl, ho22⟩
            have hb22 := hb21.trans (q22.mono hb21.size)
            have K6 := K5.trans (q22.mono K5.size)
            have ht := ho22.len
            have hcap := ho22.cap
            have hnl := H0.out.len
            have hk := HK.out
            have hml := HML.out
            rw [List.length_append] at ht
            have HF := Lib.hid (front_texts ho22.rd ⟨ps, rfl⟩ hk.symm)
            have HB := Lib.hid (back_texts ho22.rd hk.symm hcap)
            have hsum : (t : Int) = (n2 : Int) + (n : Int) := by omega
            have e1 : (0 : Int) ≤ (n2 : Int) := by omega
            have e2 : (n2 : Int) ≤ (t : Int) := by omega
            have e3 : (t : Int) ≤ (f : Int) := by omega
            have e4 : (n2 : Int) ≤ (f : Int) := by omega
            have hk64 : n2 ≤ maxLen := by unfold maxLen; omega
            have ht64 : t - n2 ≤ maxLen := by unfold maxLen; omega
            have hnb : n2 ≤ 64 := by omega
            clear ho22 hcap ht hk hml hnl
            by_cases hck : f = n2
            · rw [if_pos hck] at HB
              subst hck
              go_wp2_with fail
              refine (sameTexts_any _ _ _ _ _ _ _ ls ls HF.out (HO.out.below K6) hk64).mono ?_
              rintro e w30 ⟨rfl, q30, rfl⟩
              rw [decide_eq_true rfl]
              go_wp2_with fail
              refine (sameTexts_any _ _ _ _ _ _ _ ps ps (HB.out.drewN _) ((H0.out.below hb22).drewN _) ht64).mono ?_
              rintro e w31 ⟨rfl, q31, rfl⟩
              rw [decide_eq_true rfl]
              go_wp2_with fail
              refine (HW3.out _ (HE.out.below (below_drewN hb22 (q30 + q31)))).mono ?_
              rintro e w32 ⟨rfl, q32⟩
              go_wp2_with fail
              go_ret
              exact ⟨rfl, (below_drewN hb22 (q30 + q31)).trans (q32.mono (below_drewN hb22 (q30 + q31)).size)⟩
            · rw [if_neg hck] at HB
              go_wp2_with fail
              refine (sameTexts_any _ _ _ _ _ _ _ ls ls HF.out (HO.out.below K6) hk64).mono ?_
              rintro e w30 ⟨rfl, q30, rfl⟩
              rw [decide_eq_true rfl]
              go_wp2_with fail
              refine (sameTexts_any _ _ _ _ _ _ _ ps ps (HB.out.drewN _) ((H0.out.below hb22).drewN _) ht64).mono ?_
              rintro e w31 ⟨rfl, q31, rfl⟩
              rw [decide_eq_true rfl]
              go_wp2_with fail
              refine (HW3.out _ (HE.out.below (below_drewN hb22 (q30 + q31)))).mono ?_
              rintro e w32 ⟨rfl, q32⟩
              go_wp2_with fail
              go_ret
              exact ⟨rfl, (below_drewN hb22 (q30 + q31)).trans (q32.mono (below_drewN hb22 (q30 + q31)).size)⟩
        · have hre : (a == [47]) = false := by
            rw [beq_eq_false_iff_ne]
            rintro rfl
            have e := Option.some.inj (hpa.symm.trans (show partsOf [47] = some [] from rfl))
            simp at e
          obtain ⟨r1, r2, r3⟩ := round_parent hpa
          have hpn := parentP_eq hpa
          have HPA := Lib.hid (fun W (h : Env W) => show Calls Tryd.prog 10 #[.string ⟨a.toArray⟩] W (Ans (.tuple #[.string ⟨(wholeP qs).toArray⟩, .int .i64 0]) W) by
            have : Calls _ _ _ W (Ans (optV (parentP a)) W) := parent_any ⟨a.toArray⟩ W h
            rw [hpn.1] at this; exact this)
          have HNA := Lib.hid (fun W (h : Env W) => show Calls Tryd.prog 12 #[.string ⟨a.toArray⟩] W (Ans (.tuple #[.string ⟨q.toArray⟩, .int .i64 0]) W) by
            have : Calls _ _ _ W (Ans (optV (nameP a)) W) := name_any ⟨a.toArray⟩ W h
            rw [hpn.2] at this; exact this)
          have HJ1 := Lib.hid (fun W h B m d hb hm => show Calls Tryd.prog 24 #[.string ⟨(wholeP qs).toArray⟩, .slice B m d] W (Ans (.tuple #[.string ⟨a.toArray⟩, .int .i64 0]) W) by
            have := HJ.out (wholeP qs) [q] W h B m d hb hm
            rw [r1] at this
            exact this)
          have HW1 := Lib.hid (fun W (h : Env W) => show Calls _ _ _ W (Ans (.bool true) W) by
            have : Calls _ _ _ W (Ans (.bool (withinP a (wholeP qs))) W) := within_any ⟨a.toArray⟩ ⟨(wholeP qs).toArray⟩ W h
            rw [r2] at this; exact this)
          have HW2 := Lib.hid (fun W (h : Env W) => show Calls _ _ _ W (Ans (.bool false) W) by
            have : Calls _ _ _ W (Ans (.bool (withinP (wholeP qs) a)) W) := within_any ⟨(wholeP qs).toArray⟩ ⟨a.toArray⟩ W h
            rw [r3] at this; exact this)
          clear r1 r2 r3 hpn HJ HC
          generalize wholeP qs = pa at *
          generalize qs ++ [q] = ls at *
          rcases hjo with ⟨hj, hv⟩ | ⟨j, hj, hv⟩ <;> rw [hv] at HJP <;> clear hv
          · clear hj hpa HRJ
            go_enter Tryd.func5, Tryd.ntmps5
            go_wp2_with fail
            refine (HL.out).mono ?_
            rintro e w1 ⟨rfl, hb1⟩
            go_wp2_with fail
            refine (HS.out _ (HE.out.below hb1)).mono ?_
            rintro e w2 ⟨hp2, A2, n2, c2, rfl, ho2⟩
            have hb2 := hb1.trans (hp2.mono hb1.size)
            have HK := Lib.hid ho2.len
            have hki : n2 ≤ maxLen := by have h1 := HK.out; have h2 := HML.out; unfold maxLen; omega
            have HO := Lib.hid ho2.rd
            clear ho2
            have K0 : Below w2.heap.size w2 w2 := Below.refl _ _
            go_wp2_with fail
            refine (HJ0.out _ (HE.out.below hb2) _ _ _ HO.out hki).mono ?_
            rintro e w3 ⟨rfl, q3⟩
            have hb3 := hb2.trans (q3.mono hb2.size)
            go_wp2_with fail
            have K1 := K0.trans (q3.mono K0.size)
            refine (HW0.out _ (HE.out.below hb3)).mono ?_
            rintro e w4 ⟨rfl, q4⟩
            have hb4 := hb3.trans (q4.mono hb3.size)
            go_wp2_with fail
            have K2 := K1.trans (q4.mono K1.size)
            refine (HWP.out _ (HE.out.below hb4)).mono ?_
            rintro e w5 ⟨rfl, q5⟩
            have hb5 := hb4.trans (q5.mono hb4.size)
            go_wp2_with fail
            have K3 := K2.trans (q5.mono K2.size)
            refine (HPA.out _ (HE.out.below hb5)).mono ?_
            rintro e w6 ⟨rfl, q6⟩
            have hb6 := hb5.trans (q6.mono hb5.size)
            go_wp2_with fail
            have K4 := K3.trans (q6.mono K3.size)
            refine (HNA.out _ (HE.out.below hb6)).mono ?_
            rintro e w7 ⟨rfl, q7⟩
            have hb7 := hb6.trans (q7.mono hb6.size)
            go_wp2_with fail
            have K5 := K4.trans (q7.mono K4.size)
            have K6 := K5.alloc K5.size (.cells #[.string ⟨q.toArray⟩] 9)
            have hba := hb7.alloc hb7.size (.cells #[.string ⟨q.toArray⟩] 9)
            refine (HJ1.out _ (HE.out.below hba) _ _ _ (Rd.new _ [sv q] 9) (by simp [maxLen])).mono ?_
            rintro e w8 ⟨rfl, q8⟩
            have hb8 := hba.trans (q8.mono hba.size)
            go_wp2_with fail
            have K7 := K6.trans (q8.mono K6.size)
            refine (HW1.out _ (HE.out.below hb8)).mono ?_
            rintro e w9 ⟨rfl, q9⟩
            have hb9 := hb8.trans (q9.mono hb8.size)
            go_wp2_with fail
            have K8 := K7.trans (q9.mono K7.size)
            refine (HW2.out _ (HE.out.below hb9)).mono ?_
            rintro e w10 ⟨rfl, q10⟩
            have hb10 := hb9.trans (q10.mono hb9.size)
            go_wp2_with fail
            have K9 := K8.trans (q10.mono K8.size)
            skip
            refine (HCP.out _ (H0.out.below hb10)).mono ?_
            rintro e w20 ⟨B, m, d, rfl, ho20, q20⟩
            have hb20 := hb10.trans (q20.mono hb10.size)
            have hmm : m ≤ maxLen := by have h1 := ho20.len; have h2 := H0.out.len; unfold maxLen; omega
            have HO20 := Lib.hid ho20.rd
            clear ho20
            go_wp2_with fail
            refine (HJP.out _ (HE.out.below hb20) _ _ _ HO20.out hmm).mono ?_
            rintro e w21 ⟨rfl, q21⟩
            have hb21 := hb20.trans (q21.mono hb20.size)
            go_wp2_with fail
            have K10 := K9.trans (q20.mono K9.size)
            have K11 := K10.trans (q21.mono K10.size)
            go_ret
            exact ⟨rfl, hb21⟩
          · have HT := Lib.hid (fun W (h : Env W) => show Calls Tryd.prog 18 #[.string ⟨j.toArray⟩] W (PartsP (some (ls ++ ps)) W) by
              have : Calls _ _ _ W (PartsP (partsOf j) W) := parts_any ⟨j.toArray⟩ W h
              rw [(HRJ.out j hj).1] at this; exact this)
            have HW3 := Lib.hid (fun W (h : Env W) => show Calls Tryd.prog 16 #[.string ⟨j.toArray⟩, .string ⟨a.toArray⟩] W (Ans (.bool true) W) by
              have : Calls _ _ _ W (Ans (.bool (withinP j a)) W) := within_any ⟨j.toArray⟩ ⟨a.toArray⟩ W h
              rw [(HRJ.out j hj).2] at this; exact this)
            clear hj hpa HRJ
            go_enter Tryd.func5, Tryd.ntmps5
            go_wp2_with fail
            refine (HL.out).mono ?_
            rintro e w1 ⟨rfl, hb1⟩
            go_wp2_with fail
            refine (HS.out _ (HE.out.below hb1)).mono ?_
            rintro e w2 ⟨hp2, A2, n2, c2, rfl, ho2⟩
            have hb2 := hb1.trans (hp2.mono hb1.size)
            have HK := Lib.hid ho2.len
            have hki : n2 ≤ maxLen := by have h1 := HK.out; have h2 := HML.out; unfold maxLen; omega
            have HO := Lib.hid ho2.rd
            clear ho2
            have K0 : Below w2.heap.size w2 w2 := Below.refl _ _
            go_wp2_with fail
            refine (HJ0.out _ (HE.out.below hb2) _ _ _ HO.out hki).mono ?_
            rintro e w3 ⟨rfl, q3⟩
            have hb3 := hb2.trans (q3.mono hb2.size)
            go_wp2_with fail
            have K1 := K0.trans (q3.mono K0.size)
            refine (HW0.out _ (HE.out.below hb3)).mono ?_
            rintro e w4 ⟨rfl, q4⟩
            have hb4 := hb3.trans (q4.mono hb3.size)
            go_wp2_with fail
            have K2 := K1.trans (q4.mono K1.size)
            refine (HWP.out _ (HE.out.below hb4)).mono ?_
            rintro e w5 ⟨rfl, q5⟩
            have hb5 := hb4.trans (q5.mono hb4.size)
            go_wp2_with fail
            have K3 := K2.trans (q5.mono K2.size)
            refine (HPA.out _ (HE.out.below hb5)).mono ?_
            rintro e w6 ⟨rfl, q6⟩
            have hb6 := hb5.trans (q6.mono hb5.size)
            go_wp2_with fail
            have K4 := K3.trans (q6.mono K3.size)
            refine (HNA.out _ (HE.out.below hb6)).mono ?_
            rintro e w7 ⟨rfl, q7⟩
            have hb7 := hb6.trans (q7.mono hb6.size)
            go_wp2_with fail
            have K5 := K4.trans (q7.mono K4.size)
            have K6 := K5.alloc K5.size (.cells #[.string ⟨q.toArray⟩] 9)
            have hba := hb7.alloc hb7.size (.cells #[.string ⟨q.toArray⟩] 9)
            refine (HJ1.out _ (HE.out.below hba) _ _ _ (Rd.new _ [sv q] 9) (by simp [maxLen])).mono ?_
            rintro e w8 ⟨rfl, q8⟩
            have hb8 := hba.trans (q8.mono hba.size)
            go_wp2_with fail
            have K7 := K6.trans (q8.mono K6.size)
            refine (HW1.out _ (HE.out.below hb8)).mono ?_
            rintro e w9 ⟨rfl, q9⟩
            have hb9 := hb8.trans (q9.mono hb8.size)
            go_wp2_with fail
            have K8 := K7.trans (q9.mono K7.size)
            refine (HW2.out _ (HE.out.below hb9)).mono ?_
            rintro e w10 ⟨rfl, q10⟩
            have hb10 := hb9.trans (q10.mono hb9.size)
            go_wp2_with fail
            have K9 := K8.trans (q10.mono K8.size)
            skip
            refine (HCP.out _ (H0.out.below hb10)).mono ?_
            rintro e w20 ⟨B, m, d, rfl, ho20, q20⟩
            have hb20 := hb10.trans (q20.mono hb10.size)
            have hmm : m ≤ maxLen := by have h1 := ho20.len; have h2 := H0.out.len; unfold maxLen; omega
            have HO20 := Lib.hid ho20.rd
            clear ho20
            go_wp2_with fail
            refine (HJP.out _ (HE.out.below hb20) _ _ _ HO20.out hmm).mono ?_
            rintro e w21 ⟨rfl, q21⟩
            have hb21 := hb20.trans (q21.mono hb20.size)
            go_wp2_with fail
            have K10 := K9.trans (q20.mono K9.size)
            have K11 := K10.trans (q21.mono K10.size)
            refine (HT.out _ (HE.out.below hb21)).mono ?_
            rintro e w22 ⟨q22, D, t, f, rfl, ho22⟩
            have hb22 := hb21.trans (q22.mono hb21.size)
            have K12 := K11.trans (q22.mono K11.size)
            have ht := ho22.len
            have hcap := ho22.cap
            have hnl := H0.out.len
            have hk := HK.out
            have hml := HML.out
            rw [List.length_append] at ht
            have HF := Lib.hid (front_texts ho22.rd ⟨ps, rfl⟩ hk.symm)
            have HB := Lib.hid (back_texts ho22.rd hk.symm hcap)
            have hsum : (t : Int) = (n2 : Int) + (n : Int) := by omega
            have e1 : (0 : Int) ≤ (n2 : Int) := by omega
            have e2 : (n2 : Int) ≤ (t : Int) := by omega
            have e3 : (t : Int) ≤ (f : Int) := by omega
            have e4 : (n2 : Int) ≤ (f : Int) := by omega
            have hk64 : n2 ≤ maxLen := by unfold maxLen; omega
            have ht64 : t - n2 ≤ maxLen := by unfold maxLen; omega
            have hnb : n2 ≤ 64 := by omega
            clear ho22 hcap ht hk hml hnl
            by_cases hck : f = n2
            · rw [if_pos hck] at HB
              subst hck
              go_wp2_with fail
              refine (sameTexts_any _ _ _ _ _ _ _ ls ls HF.out (HO.out.below K12) hk64).mono ?_
              rintro e w30 ⟨rfl, q30, rfl⟩
              rw [decide_eq_true rfl]
              go_wp2_with fail
              refine (sameTexts_any _ _ _ _ _ _ _ ps ps (HB.out.drewN _) ((H0.out.below hb22).drewN _) ht64).mono ?_
              rintro e w31 ⟨rfl, q31, rfl⟩
              rw [decide_eq_true rfl]
              go_wp2_with fail
              refine (HW3.out _ (HE.out.below (below_drewN hb22 (q30 + q31)))).mono ?_
              rintro e w32 ⟨rfl, q32⟩
              go_wp2_with fail
              go_ret
              exact ⟨rfl, (below_drewN hb22 (q30 + q31)).trans (q32.mono (below_drewN hb22 (q30 + q31)).size)⟩
            · rw [if_neg hck] at HB
              go_wp2_with fail
              refine (sameTexts_any _ _ _ _ _ _ _ ls ls HF.out (HO.out.below K12) hk64).mono ?_
              rintro e w30 ⟨rfl, q30, rfl⟩
              rw [decide_eq_true rfl]
              go_wp2_with fail
              refine (sameTexts_any _ _ _ _ _ _ _ ps ps (HB.out.drewN _) ((H0.out.below hb22).drewN _) ht64).mono ?_
              rintro e w31 ⟨rfl, q31, rfl⟩
              rw [decide_eq_true rfl]
              go_wp2_with fail
              refine (HW3.out _ (HE.out.below (below_drewN hb22 (q30 + q31)))).mono ?_
              rintro e w32 ⟨rfl, q32⟩
              go_wp2_with fail
              go_ret
              exact ⟨rfl, (below_drewN hb22 (q30 + q31)).trans (q32.mono (below_drewN hb22 (q30 + q31)).size)⟩
end Go.Proofs.YtclnbggehefbeaaDoor
