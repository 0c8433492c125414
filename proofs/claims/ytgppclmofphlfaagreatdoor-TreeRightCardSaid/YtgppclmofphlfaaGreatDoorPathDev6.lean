/-
  Numbered; Join. Walks; no statement.
-/
import Derived.Test.YtgppclmofphlfaaGreatDoorPathDev5
namespace Go.Proofs.YtgppclmofphlfaaGreatDoor
set_option maxRecDepth 100000
open Go.RowKit
set_option linter.unusedVariables false

set_option maxHeartbeats 1600000 in
theorem numbered_any (s : ByteArray) (z : Int) (w : World) (hE : Env w) (hz : (Lit.int .i64 z).wf = true) : Calls Tryz.prog 41 #[.string s, .int .i64 z] w (Ans (optV (numberedP s.data.toList z)) w) := by
  obtain ⟨l, rfl⟩ : ∃ l : List UInt8, s = ⟨l.toArray⟩ := ⟨s.data.toList, (sv_of s).symm⟩
  show Calls _ _ _ _ (Ans (optV (numberedP l z)) w)
  have HC := Lib.hid (show Calls _ _ _ _ (Ans (.int .i64 (errB (belowP l))) w) from checkBelow_any ⟨l.toArray⟩ w hE)
  clear hz
  cases hp : belowP l with
  | false =>
    have HV := Lib.hid (show numberedP l z = none by unfold numberedP; rw [if_neg]; intro e; unfold belowP at hp; rw [hp] at e; exact absurd e.1 (by simp))
    rw [hp] at HC
    clear hp
    go_enter Tryz.func41, Tryz.ntmps41
    go_wp2_with fail
    refine (HC.out).mono ?_
    rintro e w1 ⟨rfl, hb1⟩
    go_wp2_with fail
    go_ret2
    rw [HV.out]
    exact ⟨rfl, hb1⟩
  | true =>
    rw [hp] at HC
    by_cases hn : 0 ≤ z ∧ z ≤ 99999
    · obtain ⟨hn1, hn2⟩ := hn
      obtain ⟨u, hzu⟩ : ∃ u : Nat, z = u := ⟨z.toNat, by omega⟩
      have hd := digits_five u (by omega)
      have h64 : l.length ≤ 64 := by
        rcases path_cases l with h | ⟨rfl, _⟩ | ⟨ps, q, _, _, _, _, h⟩
        · rw [(belowP_none h).1] at hp; cases hp
        · simp
        · exact h
      have HV := Lib.hid (show numberedP l z = if (partsOf (l ++ digits5 u)).isSome = true then some (l ++ digits5 u) else none by
        unfold numberedP
        rw [hzu, Int.toNat_natCast]
        by_cases h : (partsOf (l ++ digits5 u)).isSome = true
        · rw [if_pos h, if_pos ⟨hp, by omega, by omega, h⟩]
        · rw [if_neg h, if_neg (fun e => h e.2.2.2)])
      have hil : (Lib.decDigits u).length ≤ 5 := hd.1
      have HI := Lib.hid (fun W (h : Env W) => show Calls Tryz.prog 61 #[.int .i64 z] W (Ans (.string ⟨(Lib.decDigits u).toArray⟩) W) by
        rw [hzu]
        refine (Tryz.strconv_Itoa (u : Int) (by omega) (by omega) W h.2).mono ?_
        rintro e w' ⟨rfl, k, os, rfl⟩
        rw [Lib.itoa_nonneg]
        exact ⟨rfl, below_grew W k os⟩)
      obtain ⟨d, hdd⟩ : ∃ d, d = Lib.decDigits u := ⟨_, rfl⟩
      rw [← hdd] at hd HI hil
      have HR := Lib.hid (fun (c : Int) (hc : c = (5 : Int) - d.length) W => show Calls Tryz.prog 63 #[.string ⟨#[48]⟩, .int .i64 c] W (Ans (.string ⟨(Lib.repeatL [48] (5 - d.length)).toArray⟩) W) by
        rw [show c = ((5 - d.length : Nat) : Int) by omega]
        exact Tryz.strings_Repeat ⟨#[48]⟩ (5 - d.length) W (by omega) (by show 1 * _ ≤ _; omega))
      have HK := Lib.hid (fun (x : ByteArray) W (h : Env W) (hx : x.data.toList = l ++ (Lib.repeatL [48] (5 - d.length) ++ d)) => show Calls Tryz.prog 62 #[.string x] W (Ans (optV (numberedP l z)) W) by
        rw [HV.out]
        have := checked_any x W h
        rw [hx, hd.2] at this
        exact this)
      have HRL := Lib.hid (show (Lib.repeatL [48] (5 - d.length)).length ≤ 5 by
        rw [Lib.repeatL_length]; simp)
      have HE := Lib.hid hE
      generalize Lib.repeatL [48] (5 - d.length) = r at *
      have hrl := HRL.out
      have hwr : IntKind.i64.wrap ((5 : Int) - (d.length : Int)) = (5 : Int) - (d.length : Int) := by simp only [IntKind.wrap, IntKind.bits, IntKind.signed]; simp; omega
      have hu0 : decide (z < 0) = false := by simp; omega
      have hu1 : decide (z ≥ 100000) = false := by simp; omega
      clear hn1 hn2 hzu
      clear hp hd hdd hE HRL HV
      have hop := opt_cases (numberedP l z)
      generalize numberedP l z = o at *
      rcases hop with ⟨rfl, hO⟩ | ⟨x, rfl, hO⟩ <;>
      (rw [hO] at HK
       have HO := Lib.hid hO
       clear hO
       go_enter Tryz.func41, Tryz.ntmps41
       go_wp2_with fail
       refine (HC.out).mono ?_
       rintro e w1 ⟨rfl, hb1⟩
       go_wp2_with fail
       refine (HI.out _ (HE.out.below hb1)).mono ?_
       rintro e w2 ⟨rfl, hb2⟩
       go_wp2_with fail
       refine (HR.out _ ?_ _).mono ?_
       focus first | rfl | (go_num; done) | (simp only [wrap64]; omega)
       rintro e w3 ⟨rfl, hb3⟩
       have s1 := hb1.size
       have s2 := hb2.size
       have hb23 := hb1.trans ((hb2.trans (hb3.mono s2)).mono s1)
       go_wp2_with fail
       refine (HK.out _ _ (HE.out.below hb23) (by simp)).mono ?_
       rintro e w4 ⟨rfl, hb4⟩
       go_wp2_with fail
       go_ret2
       rw [HO.out]
       exact ⟨rfl, hb23.trans (hb4.mono hb23.size)⟩)
    · have HV := Lib.hid (show numberedP l z = none by unfold numberedP; rw [if_neg]; intro e; exact hn ⟨e.2.1, e.2.2.1⟩)
      have h2 : z < 0 ∨ (¬ z < 0 ∧ 100000 ≤ z) := by omega
      clear hn hp
      rcases h2 with h2 | ⟨h2, h3⟩ <;>
      (go_enter Tryz.func41, Tryz.ntmps41
       go_wp2_with fail
       refine (HC.out).mono ?_
       rintro e w1 ⟨rfl, hb1⟩
       go_wp2_with fail
       go_ret2
       rw [HV.out]
       exact ⟨rfl, hb1⟩)
end Go.Proofs.YtgppclmofphlfaaGreatDoor
