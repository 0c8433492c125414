/-
  Join. Walks; no statement.
-/
import Derived.Test.YtclnbggehefbeaaDoorPathDev6
namespace Go.Proofs.YtclnbggehefbeaaDoor
set_option maxRecDepth 100000
open Go.RowKit
set_option linter.unusedVariables false

theorem joinP_long : ∀ ps : List (List UInt8), ps.length ≤ (joinP ps).length
  | [] => Nat.zero_le _
  | p :: ps => by
    have := joinP_long ps
    simp only [joinP, List.length_cons, List.length_append]
    omega
theorem wholeP_long (ps : List (List UInt8)) : ps.length ≤ (wholeP ps).length := by
  unfold wholeP
  split
  · rename_i h; rw [h]; simp
  · exact joinP_long ps
theorem whole_some {ps : List (List UInt8)} (h : ∀ p ∈ ps, isPart p = true) : (if (partsOf (wholeP ps)).isSome = true then some (wholeP ps) else none) = if (wholeP ps).length ≤ 64 then some (wholeP ps) else none := by
  by_cases hl : (wholeP ps).length ≤ 64
  · rw [parts_whole h hl, if_pos hl]; rfl
  · rw [if_neg hl, if_neg]
    intro hs
    obtain ⟨ls, hls⟩ := Option.isSome_iff_exists.1 hs
    exact hl (whole_parts hls).2.2
set_option maxHeartbeats 3200000 in
theorem join_any (s : ByteArray) (A : Option Addr) (n c : Nat) (ps : List (List UInt8)) (w : World) (hE : Env w) (h : RdT w A n ps) (hn : n ≤ maxLen) :
    Calls Tryd.prog 24 #[.string s, .slice A n c] w (Ans (optV (joinsP s.data.toList ps)) w) := by
  obtain ⟨l, rfl⟩ : ∃ l : List UInt8, s = ⟨l.toArray⟩ := ⟨s.data.toList, (sv_of s).symm⟩
  show Calls _ _ _ _ (Ans (optV (joinsP l ps)) w)
  have hlen := h.len
  by_cases h64 : 64 < n
  · have HV := Lib.hid (show joinsP l ps = none by
      unfold joinsP
      split
      · rw [if_neg]
        intro e
        have := wholeP_long (‹List (List UInt8)› ++ ps)
        simp only [List.length_append] at this
        omega
      · rfl)
    clear hE h hn
    have h65 : (64 : Int) < n := by omega
    go_enter Tryd.func24, Tryd.ntmps24
    go_wp2_with fail
    go_ret2
    rw [HV.out]
    exact ⟨rfl, Below.refl _ _⟩
  · have h64' : n ≤ 64 := by omega
    have HA := Lib.hid (areParts_any A n c ps w h hn)
    have h65 : ¬ (64 : Int) < n := by omega
    clear h64 hn
    cases hall : ps.all isPart with
    | false =>
      have HV := Lib.hid (show joinsP l ps = none by
        unfold joinsP
        split
        · rw [if_neg]
          intro e
          rw [hall] at e
          exact absurd e.1 (by simp)
        · rfl)
      rw [hall] at HA
      clear hE h hall
      go_enter Tryd.func24, Tryd.ntmps24
      go_wp2_with fail
      refine (HA.out).mono ?_
      rintro e w1 ⟨rfl, rfl⟩
      go_wp2_with fail
      go_ret2
      rw [HV.out]
      exact ⟨rfl, Below.refl _ _⟩
    | true =>
      rw [hall] at HA
      have HP := Lib.hid (show Calls _ _ _ _ (PartsP (partsOf l) w) from parts_any ⟨l.toArray⟩ w hE)
      cases hp : partsOf l with
      | none =>
        have HV := Lib.hid (show joinsP l ps = none by unfold joinsP; rw [hp])
        rw [hp] at HP
        clear hE h hall hp
        go_enter Tryd.func24, Tryd.ntmps24
        go_wp2_with fail
        refine (HA.out).mono ?_
        rintro e w1 ⟨rfl, rfl⟩
        go_wp2_with fail
        refine (HP.out).mono ?_
        rintro e w2 ⟨hb, rfl⟩
        go_wp2_with fail
        go_ret2
        rw [HV.out]
        exact ⟨rfl, hb⟩
      | some ls =>
        rw [hp] at HP
        obtain ⟨hw1, hw2, hw3⟩ := whole_parts hp
        have hpar : ∀ p ∈ ps, isPart p = true := List.all_eq_true.1 hall
        have hall2 : ∀ p ∈ ls ++ ps, isPart p = true := fun p hm => (List.mem_append.1 hm).elim (hw2 p) (hpar p)
        have hll : ls.length ≤ 64 := by have := wholeP_long ls; rw [hw1] at this; omega
        have HV := Lib.hid (show joinsP l ps = if (partsOf (wholeP (ls ++ ps))).isSome = true then some (wholeP (ls ++ ps)) else none by
          rw [whole_some hall2]
          unfold joinsP
          rw [hp]
          show (if ps.all isPart = true ∧ (wholeP (ls ++ ps)).length ≤ 64 then some (wholeP (ls ++ ps)) else none) = _
          rw [hall]
          simp)
        have HJ := Lib.hid (fun base A2 n2 c2 W (ho : OwnT W base A2 n2 c2 (ls ++ ps)) (hn2 : n2 ≤ 200) => joins_any base A2 n2 c2 (ls ++ ps) W ho (fun q hq => (part_len (hall2 q hq)).2) hn2)
        have HK := Lib.hid (fun (x : ByteArray) W (h : Env W) (hx : x.data.toList = wholeP (ls ++ ps)) => show Calls Tryd.prog 35 #[.string x] W (Ans (optV (joinsP l ps)) W) by
          rw [HV.out]
          have := checked_any x W h
          rw [hx] at this
          exact this)
        have HW := Lib.hid (join_whole (ls ++ ps))
        have HJL := Lib.hid (show (Lib.join (ls ++ ps) [47]).length ≤ 5000 by
          have h1 := join_len (ls ++ ps) (fun q hq => (part_len (hall2 q hq)).2)
          simp only [List.length_append] at h1
          omega)
        have HE := Lib.hid hE
        have HH := Lib.hid h
        have HLL := Lib.hid hll
        obtain ⟨i0, hi, hz0, hz1, hz2⟩ := info_parts info_str
        clear hE h hall hp hw1 hw2 hw3 hpar hall2 HV hll hlen
        have hop := opt_cases (joinsP l ps)
        generalize joinsP l ps = o at *
        rcases hop with ⟨rfl, hO⟩ | ⟨x, rfl, hO⟩ <;>
        (rw [hO] at HK
         have HO := Lib.hid hO
         clear hO
         go_enter Tryd.func24, Tryd.ntmps24
         go_wp2_with fail
         refine (HA.out).mono ?_
         rintro e w1 ⟨rfl, rfl⟩
         go_wp2_with fail
         refine (HP.out).mono ?_
         rintro e w2 ⟨hb, A1, n1, c1, rfl, ho⟩
         have hn1 : n1 ≤ 64 := by have := ho.len; have := HLL.out; omega
         have hs := hb.size
         go_wp2_with (first
           | (at_builtin
              refine wpList_append_rd _ rfl (.tmp 24) (.tmp 25) 28 rfl w1.heap.size 9 i0 _ 16 Tryd.underlying28 hi hz0 hz1 hz2 rfl A1 n1 c1 (ls.map sv) rfl ho A n c (ps.map sv) rfl
                (HH.out.below hb) (oneCell_texts _) (by simp only [maxLen]; omega) (by omega) hs ?_
              intro A3 c3 w3 hown3 hg3 hrow3
              have hb3 : Below w1.heap.size w1 w3 := hb.grown hg3 hs (OwnT.block ho)))
         have hown4 : OwnT w3 w1.heap.size A3 (n1 + n) c3 (ls ++ ps) := by
           unfold OwnT
           rw [List.map_append]
           exact hown3
         refine (HJ.out _ _ _ _ _ hown4 (by omega)).mono ?_
         rintro e w4 ⟨rfl, hb4⟩
         have hb34 := hb3.trans (hb4.mono hb3.size)
         have HX := HW.out
         have hjl := HJL.out
         generalize Lib.join (ls ++ ps) [47] = j at *
         go_wp2_with fail
         refine (HK.out ((⟨#[47]⟩ : ByteArray) ++ (⟨j.toArray⟩ : ByteArray)) _ (HE.out.below hb34) (by rw [← HX]; simp)).mono ?_
         rintro e w5 ⟨rfl, hb5⟩
         go_wp2_with fail
         go_ret2
         rw [HO.out]
         exact ⟨rfl, hb34.trans (hb5.mono hb34.size)⟩)
end Go.Proofs.YtclnbggehefbeaaDoor
