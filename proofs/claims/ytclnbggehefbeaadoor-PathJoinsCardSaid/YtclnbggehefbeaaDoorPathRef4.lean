/-
  The reference's Join. Walks; no statement.
-/
import Derived.Test.YtclnbggehefbeaaDoorPathRef3
namespace Go.Proofs.YtclnbggehefbeaaDoor
set_option maxRecDepth 100000
open Go.RowKit
set_option linter.unusedVariables false

set_option maxHeartbeats 6400000 in
theorem refJoin_any (s : ByteArray) (A : Option Addr) (n c : Nat) (ps : List (List UInt8)) (w : World) (hs : s.size ≤ maxLen) (h : RdT w A n ps) (hn : n ≤ maxLen) (hsz : ∀ x ∈ ps, x.length ≤ maxLen) :
    Calls Tryd.prog 25 #[.string s, .slice A n c] w (Ans (optV (joinsP s.data.toList ps)) w) := by
  have hlen := h.len
  have HP := Lib.hid (refParts_any s w hs)
  unfold maxLen at hn
  cases hp : partsOf s.data.toList with
  | none =>
    have HV := Lib.hid (show joinsP s.data.toList ps = none by unfold joinsP; rw [hp])
    rw [hp] at HP
    clear hp hs
    go_enter Tryd.func25, Tryd.ntmps25
    go_wp2_with fail
    refine (HP.out).mono ?_
    rintro e w1 ⟨hb, rfl⟩
    go_wp2_with fail
    go_ret2
    rw [HV.out]
    exact ⟨rfl, hb⟩
  | some ls =>
    rw [hp] at HP
    have hVV : joinsP s.data.toList ps = if ps.all isPart = true ∧ (wholeP (ls ++ ps)).length ≤ 64 then some (wholeP (ls ++ ps)) else none := by unfold joinsP; rw [hp]
    have hm := most_parts hp
    generalize joinsP s.data.toList ps = o at *
    have HVV := Lib.hid hVV
    have HMM := Lib.hid hm
    clear hVV hm
    by_cases h64 : 64 < n
    · have HV := Lib.hid (show o = none by
        rw [HVV.out, if_neg]
        intro e
        have := wholeP_long (ls ++ ps)
        simp only [List.length_append] at this
        omega)
      have h65 : (64 : Int) < n := by omega
      clear hp hs h64 h hsz
      go_enter Tryd.func25, Tryd.ntmps25
      go_wp2_with fail
      refine (HP.out).mono ?_
      rintro e w1 ⟨hb, B, m, d, rfl, ho⟩
      go_wp2_with fail
      go_ret2
      rw [HV.out]
      exact ⟨rfl, hb⟩
    · have h64' : n ≤ 64 := by omega
      have h65 : ¬ (64 : Int) < n := by omega
      clear h64 hn hs hp
      go_enter Tryd.func25, Tryd.ntmps25
      go_wp2_with fail
      refine (HP.out).mono ?_
      rintro e w1 ⟨hb, B, m, d, rfl, ho⟩
      have h1 : RdT w1 A n ps := h.below hb
      have HO := Lib.hid ho
      have hmm := ho.len
      clear h HP ho
      go_wp2_with fail
      go_loop [8] (fun i => ∃ k : Nat, k ≤ n ∧ i = .int .i64 k ∧ (ps.take k).all isPart = true) (fun i => n - (intOf i).toNat)
      case atStart => exact ⟨0, by omega, rfl, by simp⟩
      case round =>
        obtain ⟨k, hk, rfl, hall⟩ := hrel
        have HA := Lib.hid hall
        clear hall
        by_cases hlt : k < n
        · obtain ⟨a, rfl, hab, hac⟩ := h1.at_ hlt
          have HS := Lib.hid (show ps.take (k + 1) = ps.take k ++ [ps.getD k []] from take_snocD ps [] k (by omega))
          have HM := Lib.hid (show ps.getD k [] ∈ ps from getD_mem (by omega))
          have hxl := hsz _ HM.out
          generalize ps.getD k [] = x at *
          have HC := Lib.hid (fun W => refPart_any ⟨x.toArray⟩ W hxl)
          have e1 : (0 : Int) ≤ (k : Int) := by omega
          have e2 : (k : Int) < (n : Int) := by omega
          clear hxl hsz h1
          cases hpx : isPart x with
          | true =>
            have HPC := Lib.hid hpx
            replace HC := Lib.hid (fun W => show Calls _ _ _ W fun e w' => e = .returned (.bool true) ∧ w' = W by rw [← HPC.out]; exact HC.out W)
            clear hpx
            go_wp2_with fail
            refine (HC.out _).mono ?_
            rintro e w2 ⟨rfl, rfl⟩
            go_wp2_with fail
            refine ⟨⟨k + 1, by omega, by go_num, ?_⟩, by simp [intOf]; omega⟩
            rw [HS.out, List.all_append, HA.out]
            simp [HPC.out]
          | false =>
            have HPC := Lib.hid hpx
            replace HC := Lib.hid (fun W => show Calls _ _ _ W fun e w' => e = .returned (.bool false) ∧ w' = W by rw [← HPC.out]; exact HC.out W)
            have HV := Lib.hid (show o = none by
              rw [HVV.out, if_neg]
              rintro ⟨e, _⟩
              have := List.all_eq_true.1 e x HM.out
              rw [hpx] at this
              cases this)
            clear hpx
            go_wp2_with fail
            refine (HC.out _).mono ?_
            rintro e w2 ⟨rfl, rfl⟩
            go_wp2_with fail
            go_ret2
            rw [HV.out]
            exact ⟨rfl, hb⟩
        · obtain rfl : k = n := by omega
          have hVV := HVV.out
          have hm := HMM.out
          have hall : ps.all isPart = true := by have := HA.out; rw [List.take_of_length_le (by omega)] at this; exact this
          have hpar : ∀ p ∈ ps, isPart p = true := List.all_eq_true.1 hall
          have hall2 : ∀ p ∈ ls ++ ps, isPart p = true := fun p hq => (List.mem_append.1 hq).elim (fun h => (hm.2 p h).1) (hpar p)
          have hV : o = if (wholeP (ls ++ ps)).length ≤ 64 then some (wholeP (ls ++ ps)) else none := by rw [hVV, hall]; simp
          have hV2 : (if (partsOf (wholeP (ls ++ ps))).isSome = true then some (wholeP (ls ++ ps)) else none) = o := by rw [whole_some hall2, hV]
          have hwl : (wholeP (ls ++ ps)).length ≤ 5000 := by
            have h2 := joinP_most (ls ++ ps) (fun q hq => (part_len (hall2 q hq)).2)
            simp only [List.length_append] at h2
            unfold wholeP
            split
            · simp
            · omega
          have HW := Lib.hid (fun B2 m2 d2 W (hr : RdT W B2 m2 (ls ++ ps)) (hm2 : m2 ≤ 200) => refWhole_any B2 m2 d2 (ls ++ ps) W hr hm2 (fun q hq => (part_len (hall2 q hq)).2))
          have HK := Lib.hid (fun W => show Calls _ _ _ _ (Ans (.int .i64 (errB (partsOf (wholeP (ls ++ ps))).isSome)) W) from refCheck_any ⟨(wholeP (ls ++ ps)).toArray⟩ W (by show (wholeP (ls ++ ps)).length ≤ _; unfold maxLen; omega))
          have HL := Lib.hid (show ls.length + k ≤ 130 by omega)
          obtain ⟨i0, hi, hz0, hz1, hz2⟩ := info_parts info_str
          have H1 := Lib.hid h1
          have hml : m ≤ 64 := by omega
          have HE := Lib.hid (ownT_empty w1)
          clear hVV hV hwl hall hpar hall2 hm h1 hsz hmm hlen
          generalize wholeP (ls ++ ps) = wl at *
          cases hsm : (partsOf wl).isSome with
          | true =>
            rw [hsm] at HK
            have HV := Lib.hid (show o = some wl by rw [← hV2, hsm]; rfl)
            clear hsm hV2
            go_wp2_with (first
              | (at_builtin
                 refine wpList_append_rd _ rfl (.tmp 35) (.tmp 36) 28 rfl w1.heap.size 9 i0 _ 16 Tryd.underlying28 hi hz0 hz1 hz2 rfl (some ⟨w1.heap.size, 0, none⟩) 0 0 [] rfl HE.out B m d (ls.map sv) rfl
                   (Rd.alloc HO.out.rd _) (oneCell_texts _) (by simp only [maxLen]; omega) (by omega) (by simp) ?_
                 intro A3 c3 w3 hown3 hg3 hrow3
                 have hb3 : Below w1.heap.size w1 w3 := ((Below.refl _ _).alloc (Nat.le_refl _) _).grown hg3 (by simp) (fun g e => (World.ownsRow.lt HE.out g e).1)
                 have hs3 := hb3.size
                 rw [Nat.zero_add] at hown3 ⊢)
              | (at_builtin
                 refine wpList_append_rd _ rfl (.tmp 38) (.tmp 39) 28 rfl w1.heap.size 9 i0 _ 16 Tryd.underlying28 hi hz0 hz1 hz2 rfl A3 m c3 (ls.map sv) rfl hown3 A k c (ps.map sv) rfl
                   (H1.out.below hb3) (oneCell_texts _) (by simp only [maxLen]; omega) (by omega) hs3 ?_
                 intro A4 c4 w4 hown4 hg4 hrow4
                 have hb4 : Below w1.heap.size w1 w4 := hb3.grown hg4 hs3 (fun g e => (World.ownsRow.lt hown3 g e).1)))
            have hown5 : OwnT w4 w1.heap.size A4 (m + k) c4 (ls ++ ps) := by
              unfold OwnT
              rw [List.map_append]
              exact hown4
            refine (HW.out _ _ _ _ hown5.rd (by omega)).mono ?_
            rintro e w5 ⟨rfl, rfl⟩
            go_wp2_with fail
            refine (HK.out _).mono ?_
            rintro e w6 ⟨rfl, hb6⟩
            go_wp2_with fail
            go_ret2
            rw [HV.out]
            exact ⟨rfl, hb.trans ((hb4.trans (hb6.mono hb4.size)).mono hb.size)⟩
          | false =>
            rw [hsm] at HK
            have HV := Lib.hid (show o = none by rw [← hV2, hsm]; rfl)
            clear hsm hV2
            go_wp2_with (first
              | (at_builtin
                 refine wpList_append_rd _ rfl (.tmp 35) (.tmp 36) 28 rfl w1.heap.size 9 i0 _ 16 Tryd.underlying28 hi hz0 hz1 hz2 rfl (some ⟨w1.heap.size, 0, none⟩) 0 0 [] rfl HE.out B m d (ls.map sv) rfl
                   (Rd.alloc HO.out.rd _) (oneCell_texts _) (by simp only [maxLen]; omega) (by omega) (by simp) ?_
                 intro A3 c3 w3 hown3 hg3 hrow3
                 have hb3 : Below w1.heap.size w1 w3 := ((Below.refl _ _).alloc (Nat.le_refl _) _).grown hg3 (by simp) (fun g e => (World.ownsRow.lt HE.out g e).1)
                 have hs3 := hb3.size
                 rw [Nat.zero_add] at hown3 ⊢)
              | (at_builtin
                 refine wpList_append_rd _ rfl (.tmp 38) (.tmp 39) 28 rfl w1.heap.size 9 i0 _ 16 Tryd.underlying28 hi hz0 hz1 hz2 rfl A3 m c3 (ls.map sv) rfl hown3 A k c (ps.map sv) rfl
                   (H1.out.below hb3) (oneCell_texts _) (by simp only [maxLen]; omega) (by omega) hs3 ?_
                 intro A4 c4 w4 hown4 hg4 hrow4
                 have hb4 : Below w1.heap.size w1 w4 := hb3.grown hg4 hs3 (fun g e => (World.ownsRow.lt hown3 g e).1)))
            have hown5 : OwnT w4 w1.heap.size A4 (m + k) c4 (ls ++ ps) := by
              unfold OwnT
              rw [List.map_append]
              exact hown4
            refine (HW.out _ _ _ _ hown5.rd (by omega)).mono ?_
            rintro e w5 ⟨rfl, rfl⟩
            go_wp2_with fail
            refine (HK.out _).mono ?_
            rintro e w6 ⟨rfl, hb6⟩
            go_wp2_with fail
            go_ret2
            rw [HV.out]
            exact ⟨rfl, hb.trans ((hb4.trans (hb6.mono hb4.size)).mono hb.size)⟩
end Go.Proofs.YtclnbggehefbeaaDoor
