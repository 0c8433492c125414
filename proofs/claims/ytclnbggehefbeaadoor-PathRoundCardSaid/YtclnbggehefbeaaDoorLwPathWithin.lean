/-
  The law PathWithin, walked. No statement.
-/
import Derived.Test.YtclnbggehefbeaaDoorPathLaw
import Derived.Test.YtclnbggehefbeaaDoorPathUse
namespace Go.Proofs.YtclnbggehefbeaaDoor
set_option maxRecDepth 100000
open Go.RowKit
set_option linter.unusedVariables false

theorem within_some {p top : List UInt8} (h : withinP p top = true) : ∃ a b, partsOf p = some a ∧ partsOf top = some b ∧ b <+: a := by
  unfold withinP at h
  cases hp : partsOf p with
  | none => rw [hp] at h; cases h
  | some a =>
    cases hq : partsOf top with
    | none => rw [hp, hq] at h; cases h
    | some b =>
      rw [hp, hq] at h
      exact ⟨a, b, rfl, rfl, List.isPrefixOf_iff_prefix.1 h⟩
theorem within_trans {a b c : List UInt8} (h : withinP a b = true) (k : withinP b c = true) : withinP a c = true := by
  obtain ⟨x, y, hx, hy, hxy⟩ := within_some h
  obtain ⟨y', z, hy', hz, hyz⟩ := within_some k
  obtain rfl : y = y' := Option.some.inj (hy.symm.trans hy')
  unfold withinP
  rw [hx, hz]
  exact List.isPrefixOf_iff_prefix.2 (hyz.trans hxy)
theorem within_same {a b : List UInt8} (h : withinP a b = true) (k : withinP b a = true) : a = b := by
  obtain ⟨x, y, hx, hy, hxy⟩ := within_some h
  obtain ⟨y', x', hy', hx', hyx⟩ := within_some k
  obtain rfl : y = y' := Option.some.inj (hy.symm.trans hy')
  obtain rfl : x = x' := Option.some.inj (hx.symm.trans hx')
  have e : y = x := hxy.eq_of_length_le hyx.length_le
  rw [← (whole_parts hx).1, ← (whole_parts hy).1, e]
theorem most_len {l : List UInt8} {ls : List (List UInt8)} (h : partsOf l = some ls) : ls.length ≤ 64 := by
  obtain ⟨h1, h2, h3⟩ := whole_parts h
  have h4 := wholeP_long ls
  rw [h1] at h4
  omega
theorem front_texts {w : World} {A : Option Addr} {n m : Nat} {x y : List (List UInt8)} (h : RdT w A n x) (hp : y <+: x) (hm : m = y.length) : RdT w A m y := by
  have hle := hp.length_le
  have hx := h.len
  have := Rd.front h (k := m) (by omega)
  obtain ⟨r, rfl⟩ := hp
  rw [← List.map_take, hm, List.take_left] at this
  rw [hm]
  exact this
set_option maxHeartbeats 6400000 in
theorem pathWithin_walk (w : World) (hE : Env w) (sa : ByteArray) (ha : sa.size ≤ maxLen) (sb : ByteArray) (hb : sb.size ≤ maxLen) (sc : ByteArray) (hc : sc.size ≤ maxLen) :
    Calls Tryd.prog 7 #[.string sa, .string sb, .string sc] w (Tr w) := by
  obtain ⟨a, rfl⟩ : ∃ l : List UInt8, sa = ⟨l.toArray⟩ := ⟨sa.data.toList, (sv_of sa).symm⟩
  obtain ⟨b, rfl⟩ : ∃ l : List UInt8, sb = ⟨l.toArray⟩ := ⟨sb.data.toList, (sv_of sb).symm⟩
  obtain ⟨c, rfl⟩ : ∃ l : List UInt8, sc = ⟨l.toArray⟩ := ⟨sc.data.toList, (sv_of sc).symm⟩
  have HL := Lib.hid (alive_ok w hE)
  have HE := Lib.hid hE
  have HAB := Lib.hid (fun W (h : Env W) => show Calls _ _ _ W (Ans (.bool (withinP a b)) W) from within_any ⟨a.toArray⟩ ⟨b.toArray⟩ W h)
  have HBC := Lib.hid (fun W (h : Env W) => show Calls _ _ _ W (Ans (.bool (withinP b c)) W) from within_any ⟨b.toArray⟩ ⟨c.toArray⟩ W h)
  have HAC := Lib.hid (fun W (h : Env W) => show Calls _ _ _ W (Ans (.bool (withinP a c)) W) from within_any ⟨a.toArray⟩ ⟨c.toArray⟩ W h)
  have HBA := Lib.hid (fun W (h : Env W) => show Calls _ _ _ W (Ans (.bool (withinP b a)) W) from within_any ⟨b.toArray⟩ ⟨a.toArray⟩ W h)
  have HPA := Lib.hid (fun W (h : Env W) => show Calls _ _ _ W (PartsP (partsOf a) W) from parts_any ⟨a.toArray⟩ W h)
  have HPB := Lib.hid (fun W (h : Env W) => show Calls _ _ _ W (PartsP (partsOf b) W) from parts_any ⟨b.toArray⟩ W h)
  have hla : a.length ≤ 9223372036854775807 := ha
  have hlb : b.length ≤ 9223372036854775807 := hb
  have hlc : c.length ≤ 9223372036854775807 := hc
  clear hE ha hb hc
  obtain ⟨s1, hw1⟩ : ∃ s1, IntKind.i64.wrap ((a.length : Int) + (b.length : Int)) = s1 := ⟨_, rfl⟩
  obtain ⟨s2, hw2⟩ : ∃ s2, IntKind.i64.wrap (s1 + (c.length : Int)) = s2 := ⟨_, rfl⟩
  by_cases hbig : 5000 < s2
  · go_enter Tryd.func7, Tryd.ntmps7
    go_wp2_with fail
    refine (HL.out).mono ?_
    rintro e w1 ⟨rfl, hb1⟩
    go_wp2_with fail
    go_ret
    exact ⟨rfl, hb1⟩
  · cases hab : withinP a b with
    | false =>
      rw [hab] at HAB
      have hba : (partsOf a = none ∨ partsOf b = none) → withinP b a = false := fun h => within_none h.symm
      clear hab
      cases hpa : partsOf a with
      | none =>
        rw [hba (.inl hpa)] at HBA
        rw [hpa] at HPA
        cases hpb : partsOf b with
        | none =>
          rw [hpb] at HPB
          clear hpa hpb hba
          go_enter Tryd.func7, Tryd.ntmps7
          go_wp2_with fail
          refine (HL.out).mono ?_
          rintro e w1 ⟨rfl, hb1⟩
          go_wp2_with fail
          refine (HAB.out _ (HE.out.below hb1)).mono ?_
          rintro e w2 h2
          obtain ⟨rfl, hb2⟩ := ans_next hb1 h2
          clear h2
          go_wp2_with fail
          refine (HAB.out _ (HE.out.below hb2)).mono ?_
          rintro e w3 h3
          obtain ⟨rfl, hb3⟩ := ans_next hb2 h3
          clear h3
          go_wp2_with fail
          refine (HPA.out _ (HE.out.below hb3)).mono ?_
          rintro e w4 ⟨hp4, rfl⟩
          have hb4 := hb3.trans (hp4.mono hb3.size)
          go_wp2_with fail
          refine (HPB.out _ (HE.out.below hb4)).mono ?_
          rintro e w5 ⟨hp5, rfl⟩
          have hb5 := hb4.trans (hp5.mono hb4.size)
          go_wp2_with fail
          refine (HAB.out _ (HE.out.below hb5)).mono ?_
          rintro e w6 h6
          obtain ⟨rfl, hb6⟩ := ans_next hb5 h6
          clear h6
          go_wp2_with fail
          refine (HBA.out _ (HE.out.below hb6)).mono ?_
          rintro e w7 h7
          obtain ⟨rfl, hb7⟩ := ans_next hb6 h7
          clear h7
          go_wp2_with fail
          go_ret
          exact ⟨rfl, hb7⟩
        | some y =>
          rw [hpb] at HPB
          clear hpa hpb hba
          go_enter Tryd.func7, Tryd.ntmps7
          go_wp2_with fail
          refine (HL.out).mono ?_
          rintro e w1 ⟨rfl, hb1⟩
          go_wp2_with fail
          refine (HAB.out _ (HE.out.below hb1)).mono ?_
          rintro e w2 h2
          obtain ⟨rfl, hb2⟩ := ans_next hb1 h2
          clear h2
          go_wp2_with fail
          refine (HAB.out _ (HE.out.below hb2)).mono ?_
          rintro e w3 h3
          obtain ⟨rfl, hb3⟩ := ans_next hb2 h3
          clear h3
          go_wp2_with fail
          refine (HPA.out _ (HE.out.below hb3)).mono ?_
          rintro e w4 ⟨hp4, rfl⟩
          have hb4 := hb3.trans (hp4.mono hb3.size)
          go_wp2_with fail
          refine (HPB.out _ (HE.out.below hb4)).mono ?_
          rintro e w5 ⟨hp5, A5, n5, c5, rfl, ho5⟩
          have hb5 := hb4.trans (hp5.mono hb4.size)
          go_wp2_with fail
          refine (HAB.out _ (HE.out.below hb5)).mono ?_
          rintro e w6 h6
          obtain ⟨rfl, hb6⟩ := ans_next hb5 h6
          clear h6
          go_wp2_with fail
          refine (HBA.out _ (HE.out.below hb6)).mono ?_
          rintro e w7 h7
          obtain ⟨rfl, hb7⟩ := ans_next hb6 h7
          clear h7
          go_wp2_with fail
          go_ret
          exact ⟨rfl, hb7⟩
      | some x =>
        rw [hpa] at HPA
        cases hpb : partsOf b with
        | none =>
          rw [hba (.inr hpb)] at HBA
          rw [hpb] at HPB
          clear hpa hpb hba
          go_enter Tryd.func7, Tryd.ntmps7
          go_wp2_with fail
          refine (HL.out).mono ?_
          rintro e w1 ⟨rfl, hb1⟩
          go_wp2_with fail
          refine (HAB.out _ (HE.out.below hb1)).mono ?_
          rintro e w2 h2
          obtain ⟨rfl, hb2⟩ := ans_next hb1 h2
          clear h2
          go_wp2_with fail
          refine (HAB.out _ (HE.out.below hb2)).mono ?_
          rintro e w3 h3
          obtain ⟨rfl, hb3⟩ := ans_next hb2 h3
          clear h3
          go_wp2_with fail
          refine (HPA.out _ (HE.out.below hb3)).mono ?_
          rintro e w4 ⟨hp4, A4, n4, c4, rfl, ho4⟩
          have hb4 := hb3.trans (hp4.mono hb3.size)
          go_wp2_with fail
          refine (HPB.out _ (HE.out.below hb4)).mono ?_
          rintro e w5 ⟨hp5, rfl⟩
          have hb5 := hb4.trans (hp5.mono hb4.size)
          go_wp2_with fail
          refine (HAB.out _ (HE.out.below hb5)).mono ?_
          rintro e w6 h6
          obtain ⟨rfl, hb6⟩ := ans_next hb5 h6
          clear h6
          go_wp2_with fail
          refine (HBA.out _ (HE.out.below hb6)).mono ?_
          rintro e w7 h7
          obtain ⟨rfl, hb7⟩ := ans_next hb6 h7
          clear h7
          go_wp2_with fail
          go_ret
          exact ⟨rfl, hb7⟩
        | some y =>
          rw [hpb] at HPB
          clear hpa hpb hba
          go_enter Tryd.func7, Tryd.ntmps7
          go_wp2_with fail
          refine (HL.out).mono ?_
          rintro e w1 ⟨rfl, hb1⟩
          go_wp2_with fail
          refine (HAB.out _ (HE.out.below hb1)).mono ?_
          rintro e w2 h2
          obtain ⟨rfl, hb2⟩ := ans_next hb1 h2
          clear h2
          go_wp2_with fail
          refine (HAB.out _ (HE.out.below hb2)).mono ?_
          rintro e w3 h3
          obtain ⟨rfl, hb3⟩ := ans_next hb2 h3
          clear h3
          go_wp2_with fail
          refine (HPA.out _ (HE.out.below hb3)).mono ?_
          rintro e w4 ⟨hp4, A4, n4, c4, rfl, ho4⟩
          have hb4 := hb3.trans (hp4.mono hb3.size)
          go_wp2_with fail
          refine (HPB.out _ (HE.out.below hb4)).mono ?_
          rintro e w5 ⟨hp5, A5, n5, c5, rfl, ho5⟩
          have hb5 := hb4.trans (hp5.mono hb4.size)
          go_wp2_with fail
          refine (HAB.out _ (HE.out.below hb5)).mono ?_
          rintro e w6 h6
          obtain ⟨rfl, hb6⟩ := ans_next hb5 h6
          clear h6
          go_wp2_with fail
          go_ret
          exact ⟨rfl, hb6⟩
    | true =>
      rw [hab] at HAB
      obtain ⟨x, y, hpa, hpb, hyx⟩ := within_some hab
      rw [hpa] at HPA
      rw [hpb] at HPB
      have hac : withinP b c = true → withinP a c = true := fun h => within_trans hab h
      have hsame : withinP b a = true → (a == b) = true := fun h => by rw [within_same hab h]; simp
      have HY := Lib.hid hyx
      have HMX := Lib.hid (most_len hpa)
      have HMY := Lib.hid (most_len hpb)
      clear hab hpa hpb hyx
      cases hbc : withinP b c with
      | false =>
        rw [hbc] at HBC
        clear hbc hac
        cases hba : withinP b a with
        | false =>
          rw [hba] at HBA
          clear hba hsame
          go_enter Tryd.func7, Tryd.ntmps7
          go_wp2_with fail
          refine (HL.out).mono ?_
          rintro e w1 ⟨rfl, hb1⟩
          go_wp2_with fail
          refine (HAB.out _ (HE.out.below hb1)).mono ?_
          rintro e w2 h2
          obtain ⟨rfl, hb2⟩ := ans_next hb1 h2
          clear h2
          go_wp2_with fail
          refine (HBC.out _ (HE.out.below hb2)).mono ?_
          rintro e w3 h3
          obtain ⟨rfl, hb3⟩ := ans_next hb2 h3
          clear h3
          go_wp2_with fail
          refine (HAB.out _ (HE.out.below hb3)).mono ?_
          rintro e w4 h4
          obtain ⟨rfl, hb4⟩ := ans_next hb3 h4
          clear h4
          go_wp2_with fail
          refine (HBA.out _ (HE.out.below hb4)).mono ?_
          rintro e w5 h5
          obtain ⟨rfl, hb5⟩ := ans_next hb4 h5
          clear h5
          go_wp2_with fail
          refine (HPA.out _ (HE.out.below hb5)).mono ?_
          rintro e w6 ⟨hp6, A6, n6, c6, rfl, ho6⟩
          have hb6 := hb5.trans (hp6.mono hb5.size)
          go_wp2_with fail
          refine (HPB.out _ (HE.out.below hb6)).mono ?_
          rintro e w7 ⟨hp7, B7, n7, c7, rfl, ho7⟩
          have hb7 := hb6.trans (hp7.mono hb6.size)
          have hx := ho6.len
          have hy := ho7.len
          have hle := HY.out.length_le
          have hmx := HMX.out
          have hmy := HMY.out
          have hcx := ho6.cap
          have hge : (n7 : Int) ≤ (n6 : Int) := by omega
          have hge2 : (n7 : Int) ≤ (c6 : Int) := by omega
          have h00 : (0 : Int) ≤ (n7 : Int) := by omega
          have hrx := front_texts (ho6.rd.below hp7) HY.out hy.symm
          have hry := ho7.rd
          have hny : n7 ≤ maxLen := by unfold maxLen; omega
          have HRX := Lib.hid hrx
          have HRY := Lib.hid hry
          clear hx hy hle hmx hmy hcx hrx hry ho6 ho7
          go_wp2_with fail
          refine (HAB.out _ (HE.out.below hb7)).mono ?_
          rintro e w8 ⟨rfl, hq8⟩
          have hb8 := hb7.trans (hq8.mono hb7.size)
          go_wp2_with fail
          refine (sameTexts_any _ _ _ _ _ _ _ y y (HRX.out.below hq8) (HRY.out.below hq8) hny).mono ?_
          rintro e w0 ⟨rfl, q0, rfl⟩
          rw [decide_eq_true rfl]
          go_wp2_with fail
          go_ret
          exact ⟨rfl, below_drewN hb8 _⟩
        | true =>
          rw [hba] at HBA
          have hs := hsame hba
          clear hba hsame
          go_enter Tryd.func7, Tryd.ntmps7
          go_wp2_with fail
          refine (HL.out).mono ?_
          rintro e w1 ⟨rfl, hb1⟩
          go_wp2_with fail
          refine (HAB.out _ (HE.out.below hb1)).mono ?_
          rintro e w2 h2
          obtain ⟨rfl, hb2⟩ := ans_next hb1 h2
          clear h2
          go_wp2_with fail
          refine (HBC.out _ (HE.out.below hb2)).mono ?_
          rintro e w3 h3
          obtain ⟨rfl, hb3⟩ := ans_next hb2 h3
          clear h3
          go_wp2_with fail
          refine (HAB.out _ (HE.out.below hb3)).mono ?_
          rintro e w4 h4
          obtain ⟨rfl, hb4⟩ := ans_next hb3 h4
          clear h4
          go_wp2_with fail
          refine (HBA.out _ (HE.out.below hb4)).mono ?_
          rintro e w5 h5
          obtain ⟨rfl, hb5⟩ := ans_next hb4 h5
          clear h5
          go_wp2_with fail
          refine (HPA.out _ (HE.out.below hb5)).mono ?_
          rintro e w6 ⟨hp6, A6, n6, c6, rfl, ho6⟩
          have hb6 := hb5.trans (hp6.mono hb5.size)
          go_wp2_with fail
          refine (HPB.out _ (HE.out.below hb6)).mono ?_
          rintro e w7 ⟨hp7, B7, n7, c7, rfl, ho7⟩
          have hb7 := hb6.trans (hp7.mono hb6.size)
          have hx := ho6.len
          have hy := ho7.len
          have hle := HY.out.length_le
          have hmx := HMX.out
          have hmy := HMY.out
          have hcx := ho6.cap
          have hge : (n7 : Int) ≤ (n6 : Int) := by omega
          have hge2 : (n7 : Int) ≤ (c6 : Int) := by omega
          have h00 : (0 : Int) ≤ (n7 : Int) := by omega
          have hrx := front_texts (ho6.rd.below hp7) HY.out hy.symm
          have hry := ho7.rd
          have hny : n7 ≤ maxLen := by unfold maxLen; omega
          have HRX := Lib.hid hrx
          have HRY := Lib.hid hry
          clear hx hy hle hmx hmy hcx hrx hry ho6 ho7
          go_wp2_with fail
          refine (HAB.out _ (HE.out.below hb7)).mono ?_
          rintro e w8 ⟨rfl, hq8⟩
          have hb8 := hb7.trans (hq8.mono hb7.size)
          go_wp2_with fail
          refine (sameTexts_any _ _ _ _ _ _ _ y y (HRX.out.below hq8) (HRY.out.below hq8) hny).mono ?_
          rintro e w0 ⟨rfl, q0, rfl⟩
          rw [decide_eq_true rfl]
          go_wp2_with fail
          go_ret
          exact ⟨rfl, below_drewN hb8 _⟩
      | true =>
        rw [hbc] at HBC
        rw [hac hbc] at HAC
        clear hbc hac
        cases hba : withinP b a with
        | false =>
          rw [hba] at HBA
          clear hba hsame
          go_enter Tryd.func7, Tryd.ntmps7
          go_wp2_with fail
          refine (HL.out).mono ?_
          rintro e w1 ⟨rfl, hb1⟩
          go_wp2_with fail
          refine (HAB.out _ (HE.out.below hb1)).mono ?_
          rintro e w2 h2
          obtain ⟨rfl, hb2⟩ := ans_next hb1 h2
          clear h2
          go_wp2_with fail
          refine (HBC.out _ (HE.out.below hb2)).mono ?_
          rintro e w3 h3
          obtain ⟨rfl, hb3⟩ := ans_next hb2 h3
          clear h3
          go_wp2_with fail
          refine (HAC.out _ (HE.out.below hb3)).mono ?_
          rintro e w4 h4
          obtain ⟨rfl, hb4⟩ := ans_next hb3 h4
          clear h4
          go_wp2_with fail
          refine (HAB.out _ (HE.out.below hb4)).mono ?_
          rintro e w5 h5
          obtain ⟨rfl, hb5⟩ := ans_next hb4 h5
          clear h5
          go_wp2_with fail
          refine (HBA.out _ (HE.out.below hb5)).mono ?_
          rintro e w6 h6
          obtain ⟨rfl, hb6⟩ := ans_next hb5 h6
          clear h6
          go_wp2_with fail
          refine (HPA.out _ (HE.out.below hb6)).mono ?_
          rintro e w7 ⟨hp7, A7, n7, c7, rfl, ho7⟩
          have hb7 := hb6.trans (hp7.mono hb6.size)
          go_wp2_with fail
          refine (HPB.out _ (HE.out.below hb7)).mono ?_
          rintro e w8 ⟨hp8, B8, n8, c8, rfl, ho8⟩
          have hb8 := hb7.trans (hp8.mono hb7.size)
          have hx := ho7.len
          have hy := ho8.len
          have hle := HY.out.length_le
          have hmx := HMX.out
          have hmy := HMY.out
          have hcx := ho7.cap
          have hge : (n8 : Int) ≤ (n7 : Int) := by omega
          have hge2 : (n8 : Int) ≤ (c7 : Int) := by omega
          have h00 : (0 : Int) ≤ (n8 : Int) := by omega
          have hrx := front_texts (ho7.rd.below hp8) HY.out hy.symm
          have hry := ho8.rd
          have hny : n8 ≤ maxLen := by unfold maxLen; omega
          have HRX := Lib.hid hrx
          have HRY := Lib.hid hry
          clear hx hy hle hmx hmy hcx hrx hry ho7 ho8
          go_wp2_with fail
          refine (HAB.out _ (HE.out.below hb8)).mono ?_
          rintro e w9 ⟨rfl, hq9⟩
          have hb9 := hb8.trans (hq9.mono hb8.size)
          go_wp2_with fail
          refine (sameTexts_any _ _ _ _ _ _ _ y y (HRX.out.below hq9) (HRY.out.below hq9) hny).mono ?_
          rintro e w0 ⟨rfl, q0, rfl⟩
          rw [decide_eq_true rfl]
          go_wp2_with fail
          go_ret
          exact ⟨rfl, below_drewN hb9 _⟩
        | true =>
          rw [hba] at HBA
          have hs := hsame hba
          clear hba hsame
          go_enter Tryd.func7, Tryd.ntmps7
          go_wp2_with fail
          refine (HL.out).mono ?_
          rintro e w1 ⟨rfl, hb1⟩
          go_wp2_with fail
          refine (HAB.out _ (HE.out.below hb1)).mono ?_
          rintro e w2 h2
          obtain ⟨rfl, hb2⟩ := ans_next hb1 h2
          clear h2
          go_wp2_with fail
          refine (HBC.out _ (HE.out.below hb2)).mono ?_
          rintro e w3 h3
          obtain ⟨rfl, hb3⟩ := ans_next hb2 h3
          clear h3
          go_wp2_with fail
          refine (HAC.out _ (HE.out.below hb3)).mono ?_
          rintro e w4 h4
          obtain ⟨rfl, hb4⟩ := ans_next hb3 h4
          clear h4
          go_wp2_with fail
          refine (HAB.out _ (HE.out.below hb4)).mono ?_
          rintro e w5 h5
          obtain ⟨rfl, hb5⟩ := ans_next hb4 h5
          clear h5
          go_wp2_with fail
          refine (HBA.out _ (HE.out.below hb5)).mono ?_
          rintro e w6 h6
          obtain ⟨rfl, hb6⟩ := ans_next hb5 h6
          clear h6
          go_wp2_with fail
          refine (HPA.out _ (HE.out.below hb6)).mono ?_
          rintro e w7 ⟨hp7, A7, n7, c7, rfl, ho7⟩
          have hb7 := hb6.trans (hp7.mono hb6.size)
          go_wp2_with fail
          refine (HPB.out _ (HE.out.below hb7)).mono ?_
          rintro e w8 ⟨hp8, B8, n8, c8, rfl, ho8⟩
          have hb8 := hb7.trans (hp8.mono hb7.size)
          have hx := ho7.len
          have hy := ho8.len
          have hle := HY.out.length_le
          have hmx := HMX.out
          have hmy := HMY.out
          have hcx := ho7.cap
          have hge : (n8 : Int) ≤ (n7 : Int) := by omega
          have hge2 : (n8 : Int) ≤ (c7 : Int) := by omega
          have h00 : (0 : Int) ≤ (n8 : Int) := by omega
          have hrx := front_texts (ho7.rd.below hp8) HY.out hy.symm
          have hry := ho8.rd
          have hny : n8 ≤ maxLen := by unfold maxLen; omega
          have HRX := Lib.hid hrx
          have HRY := Lib.hid hry
          clear hx hy hle hmx hmy hcx hrx hry ho7 ho8
          go_wp2_with fail
          refine (HAB.out _ (HE.out.below hb8)).mono ?_
          rintro e w9 ⟨rfl, hq9⟩
          have hb9 := hb8.trans (hq9.mono hb8.size)
          go_wp2_with fail
          refine (sameTexts_any _ _ _ _ _ _ _ y y (HRX.out.below hq9) (HRY.out.below hq9) hny).mono ?_
          rintro e w0 ⟨rfl, q0, rfl⟩
          rw [decide_eq_true rfl]
          go_wp2_with fail
          go_ret
          exact ⟨rfl, below_drewN hb9 _⟩
end Go.Proofs.YtclnbggehefbeaaDoor
