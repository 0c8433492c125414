/-
  The law PathAnswers, walked. No statement.
-/
import Derived.Test.YtclnbggehefbeaaDoorPathLaw
import Derived.Test.YtclnbggehefbeaaDoorPathRef4
import Derived.Test.YtclnbggehefbeaaDoorPathRef5
namespace Go.Proofs.YtclnbggehefbeaaDoor
set_option maxRecDepth 100000
open Go.RowKit
set_option linter.unusedVariables false

set_option maxHeartbeats 6400000 in
theorem pathAnswers_walk (w : World) (hE : Env w) (sa : ByteArray) (ha : sa.size ≤ maxLen) (sb : ByteArray) (hb : sb.size ≤ maxLen) (z : Int) (hz : (Lit.int .i64 z).wf = true) :
    Calls Tryd.prog 3 #[.string sa, .string sb, .int .i64 z] w (Tr w) := by
  obtain ⟨a, rfl⟩ : ∃ l : List UInt8, sa = ⟨l.toArray⟩ := ⟨sa.data.toList, (sv_of sa).symm⟩
  obtain ⟨b, rfl⟩ : ∃ l : List UInt8, sb = ⟨l.toArray⟩ := ⟨sb.data.toList, (sv_of sb).symm⟩
  have HL := Lib.hid (alive_ok w hE)
  have HE := Lib.hid hE
  have P1 := Lib.hid (fun W (h : Env W) => show Calls _ _ _ W (Ans (optV (parentP a)) W) from parent_any ⟨a.toArray⟩ W h)
  have P2 := Lib.hid (fun W => show Calls _ _ _ W (Ans (optV (parentP a)) W) from refParent_any ⟨a.toArray⟩ W ha)
  have N1 := Lib.hid (fun W (h : Env W) => show Calls _ _ _ W (Ans (optV (nameP a)) W) from name_any ⟨a.toArray⟩ W h)
  have N2 := Lib.hid (fun W => show Calls _ _ _ W (Ans (optV (nameP a)) W) from refName_any ⟨a.toArray⟩ W ha)
  have C1 := Lib.hid (fun W (h : Env W) => show Calls _ _ _ W (Ans (.int .i64 (errB (partsOf a).isSome)) W) from check_any ⟨a.toArray⟩ W h)
  have C2 := Lib.hid (fun W => show Calls _ _ _ W (Ans (.int .i64 (errB (partsOf a).isSome)) W) from refCheck_any ⟨a.toArray⟩ W ha)
  have W1 := Lib.hid (fun W (h : Env W) => show Calls _ _ _ W (Ans (.bool (withinP a b)) W) from within_any ⟨a.toArray⟩ ⟨b.toArray⟩ W h)
  have W2 := Lib.hid (fun W => show Calls _ _ _ W (Ans (.bool (withinP a b)) W) from refWithin_any ⟨a.toArray⟩ ⟨b.toArray⟩ W ha hb)
  have S1 := Lib.hid (fun W (h : Env W) => show Calls _ _ _ W (PartsP (partsOf a) W) from parts_any ⟨a.toArray⟩ W h)
  have S2 := Lib.hid (fun W => show Calls _ _ _ W (PartsP (partsOf a) W) from refParts_any ⟨a.toArray⟩ W ha)
  have M1 := Lib.hid (fun W (h : Env W) => show Calls _ _ _ W (Ans (optV (numberedP a z)) W) from numbered_any ⟨a.toArray⟩ z W h hz)
  have M2 := Lib.hid (fun W => show Calls _ _ _ W (Ans (optV (numberedP a z)) W) from refNumbered_any ⟨a.toArray⟩ z W ha)
  obtain ⟨s1, hw1⟩ : ∃ s1, IntKind.i64.wrap ((a.length : Int) + (b.length : Int)) = s1 := ⟨_, rfl⟩
  have hla : a.length ≤ 9223372036854775807 := ha
  have hlb : b.length ≤ 9223372036854775807 := hb
  have hcs : (parentP a = none ∧ nameP a = none) ∨ ∃ x y, parentP a = some x ∧ nameP a = some y := by
    rcases cut_cases a with ⟨h1, h2, _⟩ | ⟨x, y, h1, h2, _⟩
    · exact .inl ⟨h1, h2⟩
    · exact .inr ⟨x, y, h1, h2⟩
  have hps : ∀ ls, partsOf a = some ls → ls.length ≤ 64 := fun ls h => (most_parts h).1
  clear hE ha hb hz
  generalize withinP a b = V at *
  by_cases hbig : 5000 < s1
  · clear hcs hps
    go_enter Tryd.func3, Tryd.ntmps3
    go_wp2_with fail
    refine (HL.out).mono ?_
    rintro e w1 ⟨rfl, hb1⟩
    go_wp2_with fail
    go_ret
    exact ⟨rfl, hb1⟩
  · rcases hcs with ⟨h1, h2⟩ | ⟨x, y, h1, h2⟩ <;> rw [h1] at P1 P2 <;> rw [h2] at N1 N2 <;> clear h1 h2 <;>
    rcases opt_cases (numberedP a z) with ⟨h3, h4⟩ | ⟨u, h3, h4⟩ <;> rw [h4] at M1 M2 <;> clear h3 h4
    all_goals
      cases hpa : partsOf a with
      | none =>
        rw [hpa] at S1 S2 C1 C2
        clear hps hpa
        try simp only [optV] at P1 P2 N1 N2
        go_enter Tryd.func3, Tryd.ntmps3
        go_wp2_with fail
        refine (HL.out).mono ?_
        rintro e w1 ⟨rfl, hb1⟩
        go_wp2_with fail
        refine (P1.out _ (HE.out.below hb1)).mono ?_
        rintro e w2 ⟨rfl, q2⟩
        have hb2 := hb1.trans (q2.mono hb1.size)
        go_wp2_with fail
        refine (P2.out _).mono ?_
        rintro e w3 ⟨rfl, q3⟩
        have hb3 := hb2.trans (q3.mono hb2.size)
        go_wp2_with fail
        refine (N1.out _ (HE.out.below hb3)).mono ?_
        rintro e w4 ⟨rfl, q4⟩
        have hb4 := hb3.trans (q4.mono hb3.size)
        go_wp2_with fail
        refine (N2.out _).mono ?_
        rintro e w5 ⟨rfl, q5⟩
        have hb5 := hb4.trans (q5.mono hb4.size)
        go_wp2_with fail
        refine (C1.out _ (HE.out.below hb5)).mono ?_
        rintro e w6 ⟨rfl, q6⟩
        have hb6 := hb5.trans (q6.mono hb5.size)
        go_wp2_with fail
        refine (C2.out _).mono ?_
        rintro e w7 ⟨rfl, q7⟩
        have hb7 := hb6.trans (q7.mono hb6.size)
        go_wp2_with fail
        refine (W1.out _ (HE.out.below hb7)).mono ?_
        rintro e w8 ⟨rfl, q8⟩
        have hb8 := hb7.trans (q8.mono hb7.size)
        go_wp2_with fail
        refine (W2.out _).mono ?_
        rintro e w9 ⟨rfl, q9⟩
        have hb9 := hb8.trans (q9.mono hb8.size)
        go_wp2_with fail
        refine (S1.out _ (HE.out.below hb9)).mono ?_
        rintro e w10 ⟨hp10, rfl⟩
        have hb10 := hb9.trans (hp10.mono hb9.size)
        go_wp2_with fail
        refine (S2.out _ ).mono ?_
        rintro e w11 ⟨hp11, rfl⟩
        have hb11 := hb10.trans (hp11.mono hb10.size)
        go_wp2_with fail
        refine (M1.out _ (HE.out.below hb11)).mono ?_
        rintro e w12 ⟨rfl, q12⟩
        have hb12 := hb11.trans (q12.mono hb11.size)
        go_wp2_with fail
        refine (M2.out _).mono ?_
        rintro e w13 ⟨rfl, q13⟩
        have hb13 := hb12.trans (q13.mono hb12.size)
        go_wp2_with fail
        refine (sameTexts_any _ _ _ _ _ _ _ [] [] (RdT.nil_ _ _) (RdT.nil_ _ _) (by simp [maxLen])).mono ?_
        rintro e w0 ⟨rfl, q0, rfl⟩
        rw [decide_eq_true rfl]
        go_wp2_with fail
        go_ret
        exact ⟨rfl, below_drewN hb13 _⟩
      | some ls =>
        rw [hpa] at S1 S2 C1 C2
        try simp only [optV] at P1 P2 N1 N2
        go_enter Tryd.func3, Tryd.ntmps3
        go_wp2_with fail
        refine (HL.out).mono ?_
        rintro e w1 ⟨rfl, hb1⟩
        go_wp2_with fail
        refine (P1.out _ (HE.out.below hb1)).mono ?_
        rintro e w2 ⟨rfl, q2⟩
        have hb2 := hb1.trans (q2.mono hb1.size)
        go_wp2_with fail
        refine (P2.out _).mono ?_
        rintro e w3 ⟨rfl, q3⟩
        have hb3 := hb2.trans (q3.mono hb2.size)
        go_wp2_with fail
        refine (N1.out _ (HE.out.below hb3)).mono ?_
        rintro e w4 ⟨rfl, q4⟩
        have hb4 := hb3.trans (q4.mono hb3.size)
        go_wp2_with fail
        refine (N2.out _).mono ?_
        rintro e w5 ⟨rfl, q5⟩
        have hb5 := hb4.trans (q5.mono hb4.size)
        go_wp2_with fail
        refine (C1.out _ (HE.out.below hb5)).mono ?_
        rintro e w6 ⟨rfl, q6⟩
        have hb6 := hb5.trans (q6.mono hb5.size)
        go_wp2_with fail
        refine (C2.out _).mono ?_
        rintro e w7 ⟨rfl, q7⟩
        have hb7 := hb6.trans (q7.mono hb6.size)
        go_wp2_with fail
        refine (W1.out _ (HE.out.below hb7)).mono ?_
        rintro e w8 ⟨rfl, q8⟩
        have hb8 := hb7.trans (q8.mono hb7.size)
        go_wp2_with fail
        refine (W2.out _).mono ?_
        rintro e w9 ⟨rfl, q9⟩
        have hb9 := hb8.trans (q9.mono hb8.size)
        go_wp2_with fail
        refine (S1.out _ (HE.out.below hb9)).mono ?_
        rintro e w10 ⟨hp10, A10, n10, c10, rfl, ho10⟩
        have hb10 := hb9.trans (hp10.mono hb9.size)
        go_wp2_with fail
        refine (S2.out _ ).mono ?_
        rintro e w11 ⟨hp11, B11, n11, c11, rfl, ho11⟩
        have hb11 := hb10.trans (hp11.mono hb10.size)
        go_wp2_with fail
        refine (M1.out _ (HE.out.below hb11)).mono ?_
        rintro e w12 ⟨rfl, q12⟩
        have hb12 := hb11.trans (q12.mono hb11.size)
        go_wp2_with fail
        refine (M2.out _).mono ?_
        rintro e w13 ⟨rfl, q13⟩
        have hb13 := hb12.trans (q13.mono hb12.size)
        go_wp2_with fail
        have hn := ho10.len
        have hm := hps _ hpa
        have hle : n10 ≤ maxLen := by unfold maxLen; omega
        refine (sameTexts_any _ _ _ _ _ _ _ ls ls (((ho10.rd.below hp11).below q12).below q13) ((ho11.rd.below q12).below q13) hle).mono ?_
        rintro e w0 ⟨rfl, q0, rfl⟩
        rw [decide_eq_true rfl]
        go_wp2_with fail
        go_ret
        exact ⟨rfl, below_drewN hb13 _⟩
end Go.Proofs.YtclnbggehefbeaaDoor
