/-
  Numbered; Join. Walks; no statement.
-/
import Derived.Test.YtclnbggehefbeaaDoorPathDev5
namespace Go.Proofs.YtclnbggehefbeaaDoor
set_option maxRecDepth 100000
open Go.RowKit
set_option linter.unusedVariables false

theorem opt_cases (o : Option (List UInt8)) : (o = none ∧ optV o = .tuple #[.string ⟨#[]⟩, .int .i64 90]) ∨ ∃ x, o = some x ∧ optV o = .tuple #[.string ⟨x.toArray⟩, .int .i64 0] := by
  cases o with
  | none => exact .inl ⟨rfl, rfl⟩
  | some x => exact .inr ⟨x, rfl, rfl⟩
theorem at_add0 (g l : Nat) : (⟨g, 0, none⟩ : Addr).add l = ⟨g, l, none⟩ := by
  unfold Addr.add
  by_cases h : l = 0
  · subst h; rfl
  · simp [h]
theorem digits_len (n : Nat) : (digits5 n).length = 5 := rfl
set_option maxHeartbeats 1600000 in
theorem numbered_any (s : ByteArray) (z : Int) (w : World) (hE : Env w) (hz : (Lit.int .i64 z).wf = true) : Calls Tryd.prog 20 #[.string s, .int .i64 z] w (Ans (optV (numberedP s.data.toList z)) w) := by
  obtain ⟨l, rfl⟩ : ∃ l : List UInt8, s = ⟨l.toArray⟩ := ⟨s.data.toList, (sv_of s).symm⟩
  show Calls _ _ _ _ (Ans (optV (numberedP l z)) w)
  have HC := Lib.hid (show Calls _ _ _ _ (Ans (.int .i64 (errB (belowP l))) w) from checkBelow_any ⟨l.toArray⟩ w hE)
  clear hz
  cases hp : belowP l with
  | false =>
    have HV := Lib.hid (show numberedP l z = none by unfold numberedP; rw [if_neg]; intro e; unfold belowP at hp; rw [hp] at e; exact absurd e.1 (by simp))
    rw [hp] at HC
    clear hp
    go_enter Tryd.func20, Tryd.ntmps20
    go_wp2_with fail
    refine (HC.out).mono ?_
    rintro e w1 ⟨rfl, hb1⟩
    go_wp2_with fail
    go_ret2
    rw [HV.out]
    exact ⟨rfl, hb1⟩
  | true =>
    rw [hp] at HC
    by_cases hn : 0 ≤ z ∧ z ≤ 99999
    · obtain ⟨hn1, hn2⟩ := hn
      obtain ⟨u, hzu⟩ : ∃ u : Nat, z = u := ⟨z.toNat, by omega⟩
      have hd := digits_five u (by omega)
      have h64 : l.length ≤ 64 := by
        rcases path_cases l with h | ⟨rfl, _⟩ | ⟨ps, q, _, _, _, _, h⟩
        · rw [(belowP_none h).1] at hp; cases hp
        · simp
        · exact h
      have HV := Lib.hid (show numberedP l z = if (partsOf (l ++ digits5 u)).isSome = true then some (l ++ digits5 u) else none by
        unfold numberedP
        rw [hzu, Int.toNat_natCast]
        by_cases h : (partsOf (l ++ digits5 u)).isSome = true
        · rw [if_pos h, if_pos ⟨hp, by omega, by omega, h⟩]
        · rw [if_neg h, if_neg (fun e => h e.2.2.2)])
      have hil : (Lib.decDigits u).length ≤ 5 := hd.1
      have HI := Lib.hid (fun W (h : Env W) => show Calls Tryd.prog 34 #[.int .i64 z] W (Ans (.string ⟨(Lib.decDigits u).toArray⟩) W) by
        rw [hzu]
        refine (Tryd.strconv_Itoa (u : Int) (by omega) (by omega) W h.2).mono ?_
        rintro e w' ⟨rfl, k, os, rfl⟩
        rw [Lib.itoa_nonneg]
        exact ⟨rfl, below_grew W k os⟩)
      obtain ⟨d, hdd⟩ : ∃ d, d = Lib.decDigits u := ⟨_, rfl⟩
      rw [← hdd] at hd HI hil
      have HR := Lib.hid (fun (c : Int) (hc : c = (5 : Int) - d.length) W => show Calls Tryd.prog 36 #[.string ⟨#[48]⟩, .int .i64 c] W (Ans (.string ⟨(Lib.repeatL [48] (5 - d.length)).toArray⟩) W) by
        rw [show c = ((5 - d.length : Nat) : Int) by omega]
        exact Tryd.strings_Repeat ⟨#[48]⟩ (5 - d.length) W (by omega) (by show 1 * _ ≤ _; omega))
      have HK := Lib.hid (fun (x : ByteArray) W (h : Env W) (hx : x.data.toList = l ++ (Lib.repeatL [48] (5 - d.length) ++ d)) => show Calls Tryd.prog 35 #[.string x] W (Ans (optV (numberedP l z)) W) by
        rw [HV.out]
        have := checked_any x W h
        rw [hx, hd.2] at this
        exact this)
      have HRL := Lib.hid (show (Lib.repeatL [48] (5 - d.length)).length ≤ 5 by
        rw [Lib.repeatL_length]; simp)
      have HE := Lib.hid hE
      generalize Lib.repeatL [48] (5 - d.length) = r at *
      have hrl := HRL.out
      have hwr : IntKind.i64.wrap ((5 : Int) - (d.length : Int)) = (5 : Int) - (d.length : Int) := by simp only [IntKind.wrap, IntKind.bits, IntKind.signed]; simp; omega
      have hu0 : decide (z < 0) = false := by simp; omega
      have hu1 : decide (z ≥ 100000) = false := by simp; omega
      clear hn1 hn2 hzu
      clear hp hd hdd hE HRL HV
      have hop := opt_cases (numberedP l z)
      generalize numberedP l z = o at *
      rcases hop with ⟨rfl, hO⟩ | ⟨x, rfl, hO⟩ <;>
      (rw [hO] at HK
       have HO := Lib.hid hO
       clear hO
       go_enter Tryd.func20, Tryd.ntmps20
       go_wp2_with fail
       refine (HC.out).mono ?_
       rintro e w1 ⟨rfl, hb1⟩
       go_wp2_with fail
       refine (HI.out _ (HE.out.below hb1)).mono ?_
       rintro e w2 ⟨rfl, hb2⟩
       go_wp2_with fail
       refine (HR.out _ ?_ _).mono ?_
       focus first | rfl | (go_num; done) | (simp only [wrap64]; omega)
       rintro e w3 ⟨rfl, hb3⟩
       have s1 := hb1.size
       have s2 := hb2.size
       have hb23 := hb1.trans ((hb2.trans (hb3.mono s2)).mono s1)
       go_wp2_with fail
       refine (HK.out _ _ (HE.out.below hb23) (by simp)).mono ?_
       rintro e w4 ⟨rfl, hb4⟩
       go_wp2_with fail
       go_ret2
       rw [HO.out]
       exact ⟨rfl, hb23.trans (hb4.mono hb23.size)⟩)
    · have HV := Lib.hid (show numberedP l z = none by unfold numberedP; rw [if_neg]; intro e; exact hn ⟨e.2.1, e.2.2.1⟩)
      have h2 : z < 0 ∨ (¬ z < 0 ∧ 100000 ≤ z) := by omega
      clear hn hp
      rcases h2 with h2 | ⟨h2, h3⟩ <;>
      (go_enter Tryd.func20, Tryd.ntmps20
       go_wp2_with fail
       refine (HC.out).mono ?_
       rintro e w1 ⟨rfl, hb1⟩
       go_wp2_with fail
       go_ret2
       rw [HV.out]
       exact ⟨rfl, hb1⟩)
theorem joinP_most : ∀ qs : List (List UInt8), (∀ l ∈ qs, l.length ≤ 16) → (joinP qs).length ≤ 17 * qs.length
  | [], _ => by simp [joinP]
  | q :: qs, h => by
    have h3 := joinP_most qs (fun l hl => h l (List.mem_cons_of_mem _ hl))
    have h4 := h q (List.mem_cons_self ..)
    simp only [joinP, List.length_cons, List.length_append]
    omega
theorem join_len (qs : List (List UInt8)) (h : ∀ l ∈ qs, l.length ≤ 16) : (Lib.join qs [47]).length ≤ 17 * qs.length := by
  cases qs with
  | nil => simp [Lib.join_nil]
  | cons q qs =>
    have h5 := congrArg List.length (join_slash q qs)
    have h6 := joinP_most _ h
    simp only [List.length_cons] at h5 h6 ⊢
    omega
/-- texts joined by slashes -/
theorem joins_any (base : Nat) (A : Option Addr) (n c : Nat) (ls : List (List UInt8)) (w : World) (ho : OwnT w base A n c ls) (hl : ∀ l ∈ ls, l.length ≤ 16) (hn : n ≤ 200) :
    Calls Tryd.prog 37 #[.slice A n c, .string ⟨#[47]⟩] w (Ans (.string ⟨(Lib.join ls [47]).toArray⟩) w) := by
  have hlen := ho.len
  have hcap := ho.cap
  have hrd := ho.rd
  rcases ho.2 with ⟨e1, e2⟩ | ⟨g, cap, cur, e1, hg, hh, _⟩
  · injection e1 with e3 e4 e5
    subst e3 e4 e5
    obtain rfl : ls = [] := List.eq_nil_of_length_eq_zero hlen
    refine (Tryd.strings_Join_none none 0 ⟨#[47]⟩ w).mono ?_
    rintro e w' ⟨rfl, rfl⟩
    exact ⟨rfl, Below.refl _ _⟩
  · injection e1 with e3 e4 e5
    subst e3
    have hlt : g < w.heap.size := by
      rcases Nat.lt_or_ge g w.heap.size with h | h
      · exact h
      · rw [Array.getElem?_eq_none h] at hh; cases hh
    have hm : ((ls.map fun l => (⟨l.toArray⟩ : ByteArray)).map (·.data.toList)) = ls := by
      rw [List.map_map]
      exact (List.map_congr_left (fun l _ => rfl)).trans (List.map_id _)
    have hj := Tryd.strings_Join g 0 c (ls.map fun l => (⟨l.toArray⟩ : ByteArray)) ⟨#[47]⟩ w
      (fun j x hx => by
        rw [List.getElem?_map, Option.map_eq_some_iff] at hx
        obtain ⟨l, hl', rfl⟩ := hx
        obtain ⟨a, ea, _, hc⟩ := hrd.2 j (sv l) (by rw [List.getElem?_map, hl']; rfl)
        injection ea with ea
        rw [← ea, at_add0] at hc
        rw [Nat.zero_add]
        exact hc)
      hlt (by rw [List.length_map, hlen]; omega) (by rw [List.length_map, hlen]; exact hcap)
      (by rw [hm]; have := join_len ls hl; show (Lib.join ls [47]).length ≤ _; omega)
    rw [hm, List.length_map, hlen] at hj
    exact hj
end Go.Proofs.YtclnbggehefbeaaDoor
