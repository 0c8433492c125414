/-
  The reference's own checks of numbers, entries and letters. Walks; no statement.
-/
import Derived.Test.YtmgmmbgjmnklkaaMsgHeavy
namespace Go.Proofs.Ytmgmmbgjmnklkaa
set_option maxRecDepth 100000
open Go.RowKit
open Pk
set_option linter.unusedVariables false

theorem refWide_any (v : Int) (w : World) : Calls Try.prog 77 #[.int .i64 v] w fun e w' => e = .returned (.bool (wideB v)) ∧ w' = w := by
  by_cases h0 : 0 ≤ v
  · by_cases h1 : v < 1099511627776
    · have HD := Lib.hid (show wideB v = true by unfold wideB; simp; omega)
      go_enter Try.func77, Try.ntmps77
      go_wp2_with fail
      go_ret
      exact ⟨ret_bool HD.out.symm, rfl⟩
    · have HD := Lib.hid (show wideB v = false by unfold wideB; simp; omega)
      go_enter Try.func77, Try.ntmps77
      go_wp2_with fail
      go_ret
      exact ⟨ret_bool HD.out.symm, rfl⟩
  · have HD := Lib.hid (show wideB v = false by unfold wideB; simp; omega)
    go_enter Try.func77, Try.ntmps77
    go_wp2_with fail
    go_ret
    exact ⟨ret_bool HD.out.symm, rfl⟩
theorem refPeer_any (v : Int) (w : World) : Calls Try.prog 78 #[.int .i64 v] w fun e w' => e = .returned (.bool (peerB v)) ∧ w' = w := by
  by_cases h0 : 0 ≤ v
  · by_cases h1 : v < 8
    · have HD := Lib.hid (show peerB v = true by unfold peerB; simp; omega)
      go_enter Try.func78, Try.ntmps78
      go_wp2_with fail
      go_ret
      exact ⟨ret_bool HD.out.symm, rfl⟩
    · have HD := Lib.hid (show peerB v = false by unfold peerB; simp; omega)
      go_enter Try.func78, Try.ntmps78
      go_wp2_with fail
      go_ret
      exact ⟨ret_bool HD.out.symm, rfl⟩
  · have HD := Lib.hid (show peerB v = false by unfold peerB; simp; omega)
    go_enter Try.func78, Try.ntmps78
    go_wp2_with fail
    go_ret
    exact ⟨ret_bool HD.out.symm, rfl⟩
theorem refEntry_any (x : En) (A : Option Addr) (c : Nat) (w : World) : Calls Try.prog 61 #[.agg #[.int .i64 x.c, .int .i64 x.s, .int .i64 x.t, .slice A x.dig.length c]] w (Tells (.bool x.ok) w) := by
  have HB := Lib.hid ((Below.refl w.heap.size w).alloc (Nat.le_refl _) (.cells #[.int .i64 x.c, .int .i64 x.s, .int .i64 x.t, .slice A x.dig.length c] 24))
  have HOK := Lib.hid (show x.ok = (wideB x.t && (if x.c = -1 then decide (x.s = 0) && decide (x.dig.length = 0) else peerB x.c && (wideB x.s && decide (x.dig.length = 32)))) from rfl)
  generalize hT : wideB x.t = T at HOK
  generalize hS : wideB x.s = S at HOK
  generalize hP : peerB x.c = P at HOK
  have HT := Lib.hid hT
  have HS := Lib.hid hS
  have HP := Lib.hid hP
  clear hT hS hP
  by_cases hc : x.c = -1
  · have b0 : (x.c == -1) = true := by simpa using hc
    by_cases hs : x.s = 0
    · have b1 : (x.s == 0) = true := by simpa using hs
      by_cases hl : x.dig.length = 0
      · have HV := Lib.hid (show x.ok = T by rw [HOK.out]; simp [hc, hs, hl])
        have b2 : ((x.dig.length : Int) == 0) = true := by simp [hl]
        clear hc hs hl
        go_enter Try.func61, Try.ntmps61
        go_wp2_with fail
        refine (refWide_any x.t _).mono ?_
        rintro e w1 ⟨rfl, rfl⟩
        rw [HT.out]
        go_wp2_with fail
        go_ret
        exact ⟨ret_bool HV.out.symm, HB.out⟩
      · have HV := Lib.hid (show x.ok = false by rw [HOK.out]; simp [hc, hs, hl])
        have b2 : ((x.dig.length : Int) == 0) = false := by rw [beq_eq_false_iff_ne]; omega
        clear hc hs hl
        go_enter Try.func61, Try.ntmps61
        go_wp2_with fail
        go_ret
        exact ⟨ret_bool HV.out.symm, HB.out⟩
    · have HV := Lib.hid (show x.ok = false by rw [HOK.out]; simp [hc, hs])
      have b1 : (x.s == 0) = false := by simpa using hs
      clear hc hs
      go_enter Try.func61, Try.ntmps61
      go_wp2_with fail
      go_ret
      exact ⟨ret_bool HV.out.symm, HB.out⟩
  · have b0 : (x.c == -1) = false := by simpa using hc
    have HV := Lib.hid (show x.ok = (T && (P && (S && decide (x.dig.length = 32)))) by rw [HOK.out]; simp [hc])
    clear hc
    go_enter Try.func61, Try.ntmps61
    go_wp2_with fail
    refine (refPeer_any x.c _).mono ?_
    rintro e w1 ⟨rfl, rfl⟩
    rw [HP.out]
    cases P
    · go_wp2_with fail
      go_ret
      exact ⟨ret_bool (by rw [HV.out]; simp), HB.out⟩
    go_wp2_with fail
    refine (refWide_any x.s _).mono ?_
    rintro e w1 ⟨rfl, rfl⟩
    rw [HS.out]
    cases S
    · go_wp2_with fail
      go_ret
      exact ⟨ret_bool (by rw [HV.out]; simp), HB.out⟩
    go_wp2_with fail
    refine (refWide_any x.t _).mono ?_
    rintro e w1 ⟨rfl, rfl⟩
    rw [HT.out]
    cases T
    · go_wp2_with fail
      go_ret
      exact ⟨ret_bool (by rw [HV.out]; simp), HB.out⟩
    go_wp2_with fail
    go_ret
    exact ⟨ret_bool (by
      rw [HV.out]
      by_cases h : x.dig.length = 32
      · simp [h]
      · have h2 : ((x.dig.length : Int) == 32) = false := by rw [beq_eq_false_iff_ne]; omega
        simp [h, h2]), HB.out⟩
theorem tags_bad {ts : List (List UInt8)} {t : List UInt8} (h : t ∈ ts) (ht : 16 < t.length) : tagsOk ts = false := by
  unfold tagsOk
  rw [Bool.and_eq_false_iff]
  right
  rw [List.all_eq_false]
  exact ⟨t, h, by simp; omega⟩
set_option maxHeartbeats 1600000 in
theorem refLetter_any (l : Lt) (A : Option Addr) (c : Nat) (B : Option Addr) (d : Nat) (F : Nat → Prop) (w : World) (h : LtR F w l A c B d) : Calls Try.prog 57 #[.agg #[.int .i64 l.f1, .int .i64 l.f2, .int .i64 l.r, .slice A l.body.length c, .slice B l.tags.length d]] w (Tells (.bool l.ok) w) := by
  have hB := (Below.refl w.heap.size w).alloc (Nat.le_refl _) (.cells #[.int .i64 l.f1, .int .i64 l.f2, .int .i64 l.r, .slice A l.body.length c, .slice B l.tags.length d] 46)
  have HB := Lib.hid hB
  have HK := Lib.hid (Bk.new w 46 [.int .i64 l.f1, .int .i64 l.f2, .int .i64 l.r, .slice A l.body.length c, .slice B l.tags.length d])
  have HR := Lib.hid (h.2.below hB)
  have HOK := Lib.hid (show l.ok = (roleB l.f1 && (roleB l.r && (decide (0 ≤ l.f2 ∧ l.f2 < 64) && (decide (l.body.length ≤ 65536) && tagsOk l.tags)))) from rfl)
  clear h hB
  by_cases g0 : l.f1 < 1
  · have HV := Lib.hid (show l.ok = false by
      cases ho : l.ok with
      | false => rfl
      | true =>
        exfalso
        rw [HOK.out] at ho
        simp only [Bool.and_eq_true, roleB, tagsOk, decide_eq_true_eq] at ho
        omega)
    go_enter Try.func57, Try.ntmps57
    go_wp2_with fail
    go_ret
    exact ⟨ret_bool HV.out.symm, HB.out⟩
  by_cases g1 : 4 < l.f1
  · have HV := Lib.hid (show l.ok = false by
      cases ho : l.ok with
      | false => rfl
      | true =>
        exfalso
        rw [HOK.out] at ho
        simp only [Bool.and_eq_true, roleB, tagsOk, decide_eq_true_eq] at ho
        omega)
    go_enter Try.func57, Try.ntmps57
    go_wp2_with fail
    go_ret
    exact ⟨ret_bool HV.out.symm, HB.out⟩
  by_cases g2 : l.r < 1
  · have HV := Lib.hid (show l.ok = false by
      cases ho : l.ok with
      | false => rfl
      | true =>
        exfalso
        rw [HOK.out] at ho
        simp only [Bool.and_eq_true, roleB, tagsOk, decide_eq_true_eq] at ho
        omega)
    go_enter Try.func57, Try.ntmps57
    go_wp2_with fail
    go_ret
    exact ⟨ret_bool HV.out.symm, HB.out⟩
  by_cases g3 : 4 < l.r
  · have HV := Lib.hid (show l.ok = false by
      cases ho : l.ok with
      | false => rfl
      | true =>
        exfalso
        rw [HOK.out] at ho
        simp only [Bool.and_eq_true, roleB, tagsOk, decide_eq_true_eq] at ho
        omega)
    go_enter Try.func57, Try.ntmps57
    go_wp2_with fail
    go_ret
    exact ⟨ret_bool HV.out.symm, HB.out⟩
  by_cases g4 : l.f2 < 0
  · have HV := Lib.hid (show l.ok = false by
      cases ho : l.ok with
      | false => rfl
      | true =>
        exfalso
        rw [HOK.out] at ho
        simp only [Bool.and_eq_true, roleB, tagsOk, decide_eq_true_eq] at ho
        omega)
    go_enter Try.func57, Try.ntmps57
    go_wp2_with fail
    go_ret
    exact ⟨ret_bool HV.out.symm, HB.out⟩
  by_cases g5 : 63 < l.f2
  · have HV := Lib.hid (show l.ok = false by
      cases ho : l.ok with
      | false => rfl
      | true =>
        exfalso
        rw [HOK.out] at ho
        simp only [Bool.and_eq_true, roleB, tagsOk, decide_eq_true_eq] at ho
        omega)
    go_enter Try.func57, Try.ntmps57
    go_wp2_with fail
    go_ret
    exact ⟨ret_bool HV.out.symm, HB.out⟩
  by_cases g6 : (65536 : Int) < (l.body.length : Int)
  · have HV := Lib.hid (show l.ok = false by
      cases ho : l.ok with
      | false => rfl
      | true =>
        exfalso
        rw [HOK.out] at ho
        simp only [Bool.and_eq_true, roleB, tagsOk, decide_eq_true_eq] at ho
        omega)
    go_enter Try.func57, Try.ntmps57
    go_wp2_with fail
    go_ret
    exact ⟨ret_bool HV.out.symm, HB.out⟩
  by_cases g7 : (64 : Int) < (l.tags.length : Int)
  · have HV := Lib.hid (show l.ok = false by
      cases ho : l.ok with
      | false => rfl
      | true =>
        exfalso
        rw [HOK.out] at ho
        simp only [Bool.and_eq_true, roleB, tagsOk, decide_eq_true_eq] at ho
        omega)
    go_enter Try.func57, Try.ntmps57
    go_wp2_with fail
    go_ret
    exact ⟨ret_bool HV.out.symm, HB.out⟩
  have HV := Lib.hid (show l.ok = l.tags.all fun t => decide (t.length ≤ 16) by
    rw [HOK.out]
    have e1 : roleB l.f1 = true := by unfold roleB; simp; omega
    have e2 : roleB l.r = true := by unfold roleB; simp; omega
    have e3 : decide (0 ≤ l.f2 ∧ l.f2 < 64) = true := by simp; omega
    have e4 : decide (l.body.length ≤ 65536) = true := by simp; omega
    have e5 : decide (l.tags.length ≤ 64) = true := by simp; omega
    rw [e1, e2, e3, e4]
    unfold tagsOk
    rw [e5]
    simp only [Bool.true_and])
  go_enter Try.func57, Try.ntmps57
  go_wp2_with fail
  have hml : l.tags.length ≤ 64 := by omega
  clear g0 g1 g2 g3 g4 g5 g6 g7
  obtain ⟨X, hX⟩ : ∃ X, X = w.alloc (.cells #[.int .i64 l.f1, .int .i64 l.f2, .int .i64 l.r, .slice A l.body.length c, .slice B l.tags.length d] 46) := ⟨_, rfl⟩
  rw [← hX] at HB HK HR ⊢
  clear hX
  have k4 := HK.out.at_ (i := 4) rfl
  go_loop [3] (fun i => ∃ k : Nat, k ≤ l.tags.length ∧ i = .int .i64 k ∧ (l.tags.take k).all (fun t => decide (t.length ≤ 16)) = true) (fun i => l.tags.length - (intOf i).toNat)
  case atStart => exact ⟨0, by omega, rfl, rfl⟩
  case round =>
    obtain ⟨k, hk, rfl, hall⟩ := hrel
    have HALL := Lib.hid hall
    clear hall
    by_cases hlt : k < l.tags.length
    · obtain ⟨t, ht⟩ : ∃ t, l.tags[k]? = some t := ⟨_, List.getElem?_eq_getElem hlt⟩
      obtain ⟨x, E, f, rfl, hxb, c0, hb0⟩ := HR.out.b1 ht
      have y1 : (0 : Int) ≤ (k : Int) := by omega
      have y2 : (k : Int) < (l.tags.length : Int) := by omega
      have HTK := Lib.hid ht
      clear ht hb0 hxb
      by_cases h16 : (16 : Int) < (t.length : Int)
      · have HF := Lib.hid (show l.ok = false by
          rw [HV.out, List.all_eq_false]
          exact ⟨t, List.mem_of_getElem? HTK.out, by simp; omega⟩)
        go_wp2_with fail
        go_ret
        exact ⟨ret_bool HF.out.symm, HB.out⟩
      · have HN := Lib.hid (show (l.tags.take (k + 1)).all (fun t => decide (t.length ≤ 16)) = true by
          obtain ⟨hh, he⟩ := List.getElem?_eq_some_iff.1 HTK.out
          rw [List.take_succ_eq_append_getElem hh, List.all_append, HALL.out, he]
          simp; omega)
        go_wp2_with fail
        go_round
        case rel => exact ⟨k + 1, by omega, by go_num, HN.out⟩
        case measure => simp [intOf]; omega
    · obtain rfl : k = l.tags.length := by omega
      have HF := Lib.hid (show l.ok = true by rw [HV.out]; have := HALL.out; rwa [List.take_length] at this)
      go_wp2_with fail
      go_ret
      exact ⟨ret_bool HF.out.symm, HB.out⟩
theorem refLetters_any (A : Option Addr) (c : Nat) (ls : List Lt) (F : Nat → Prop) (w : World) (h : RdS RLt F w A c ls) : Calls Try.prog 79 #[.slice A ls.length c] w (Tells (.bool (ltsOk ls)) w) := by
  have HR := Lib.hid h
  have hml : ls.length ≤ maxLen := Nat.le_trans h.1 h.2.1
  simp only [maxLen] at hml
  have HOK := Lib.hid (show ltsOk ls = (decide (ls.length ≤ 64) && ls.all Lt.ok) from rfl)
  clear h
  go_enter Try.func79, Try.ntmps79
  go_wp2_with fail
  go_loopw [3] (fun i wr => ∃ k : Nat, k ≤ ls.length ∧ i = .int .i64 k ∧ (ls.take k).all Lt.ok = true ∧ Below w.heap.size w wr) (fun i _ => ls.length - (intOf i).toNat)
  case atStart => exact ⟨0, by omega, rfl, rfl, Below.refl _ _⟩
  case round =>
    obtain ⟨k, hk, rfl, hall, hb⟩ := hrel
    have HALL := Lib.hid hall
    have HB := Lib.hid hb
    clear hall
    by_cases hlt : k < ls.length
    · obtain ⟨l, hl⟩ : ∃ l, ls[k]? = some l := ⟨_, List.getElem?_eq_getElem hlt⟩
      obtain ⟨x, B, d, C, q, rfl, hxb, c0, c1, c2, c3, c4, hr⟩ := (HR.out.below hb).lt5 hl
      have HL := Lib.hid hr
      have HTK := Lib.hid hl
      have y1 : (0 : Int) ≤ (k : Int) := by omega
      have y2 : (k : Int) < (ls.length : Int) := by omega
      clear hl hb hr hxb
      go_wp2_with fail
      refine (refLetter_any l B d C q _ _ HL.out).mono ?_
      rintro e w2 ⟨rfl, hb2⟩
      have HB2 := Lib.hid (below_next HB.out hb2 HB.out.size)
      clear hb2 c0 c1 c2 c3 c4
      cases ho : l.ok
      · have HF := Lib.hid (show ltsOk ls = false by
          rw [HOK.out, Bool.and_eq_false_iff]
          right
          rw [List.all_eq_false]
          exact ⟨l, List.mem_of_getElem? HTK.out, by rw [ho]; decide⟩)
        clear ho
        go_wp2_with fail
        go_ret
        exact ⟨ret_bool HF.out.symm, HB2.out⟩
      · have HN := Lib.hid (show (ls.take (k + 1)).all Lt.ok = true by
          obtain ⟨hh, he⟩ := List.getElem?_eq_some_iff.1 HTK.out
          rw [List.take_succ_eq_append_getElem hh, List.all_append, HALL.out, he]
          simp [ho])
        clear ho
        go_wp2_with fail
        go_roundw
        case rel => exact ⟨k + 1, by omega, by go_num, HN.out, HB2.out⟩
        case measure => simp [intOf]; omega
    · obtain rfl : k = ls.length := by omega
      have HF := Lib.hid (show ltsOk ls = decide (ls.length ≤ 64) by rw [HOK.out]; have := HALL.out; rw [List.take_length] at this; rw [this, Bool.and_true])
      clear hb
      go_wp2_with fail
      go_ret
      exact ⟨ret_bool (by rw [HF.out]; simp; try omega), HB.out⟩
end Go.Proofs.Ytmgmmbgjmnklkaa
