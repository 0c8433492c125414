/-
  The program's Count, Quorum, Proof and Primary: walks over the plain words. No statement.
-/
import Derived.Test.YtmeojepffnoceaaConfDev1
namespace Go.Proofs.Ytmeojepffnoceaa
open Go.RowKit
set_option linter.unusedVariables false

set_option maxHeartbeats 1600000 in
theorem count_any (u r p wi ev pa : Int) (A : Option Addr) (n c : Nat) (w : World) (role : Int) :
    Calls Try.prog 12 #[.agg #[.int .i64 u, .int .i64 r, .int .i64 p, .int .i64 wi, .int .i64 ev, .int .i64 pa, .slice A n c], .int .i64 role] w (Tells (.int .i64 (Cf.count ⟨u, r, p, wi, ev, pa, n⟩ role)) w) := by
  have HB0 := Lib.hid ((Below.refl w.heap.size w).alloc (Nat.le_refl _) (.cells #[.int .i64 u, .int .i64 r, .int .i64 p, .int .i64 wi, .int .i64 ev, .int .i64 pa, .slice A n c] 24))
  have HK := Lib.hid (Bk.new w 24 [.int .i64 u, .int .i64 r, .int .i64 p, .int .i64 wi, .int .i64 ev, .int .i64 pa, .slice A n c])
  by_cases h : Cf.Ok ⟨u, r, p, wi, ev, pa, n⟩
  · have HE := Lib.hid (show Cf.err ⟨u, r, p, wi, ev, pa, n⟩ = 0 by unfold Cf.err; rw [if_pos h])
    have HC := Lib.hid (Cf.count_ok h role)
    obtain ⟨y1, y2, y3, y4, y5, y6⟩ := h
    simp only at y1 y2 y3 y4 y5
    clear y6
    by_cases h1 : role = 1
    · subst h1
      have HR := Lib.hid (show Cf.count ⟨u, r, p, wi, ev, pa, n⟩ 1 = 2 * u + r + 1 by rw [HC.out]; simp)
      go_enter Try.func12, Try.ntmps12
      go_wp2_with fail
      refine (check_any u r p wi ev pa A n c _).mono ?_
      rintro e w1 ⟨rfl, hb1⟩
      rw [HE.out]
      obtain ⟨c0, c1, c2, c3, c4, c5, c6⟩ := (HK.out.kept hb1).seven
      have HB1 := Lib.hid (below_next HB0.out hb1 HB0.out.size)
      clear hb1
      go_wp2_with fail
      go_ret
      exact ⟨ret_int HR.out.symm, HB1.out⟩
    · have e1 : (role == 1) = false := by rw [beq_eq_false_iff_ne]; exact h1
      by_cases h2 : role = 2
      · subst h2
        have HR := Lib.hid (show Cf.count ⟨u, r, p, wi, ev, pa, n⟩ 2 = 2 * u + r + 1 by rw [HC.out]; simp)
        go_enter Try.func12, Try.ntmps12
        go_wp2_with fail
        refine (check_any u r p wi ev pa A n c _).mono ?_
        rintro e w1 ⟨rfl, hb1⟩
        rw [HE.out]
        obtain ⟨c0, c1, c2, c3, c4, c5, c6⟩ := (HK.out.kept hb1).seven
        have HB1 := Lib.hid (below_next HB0.out hb1 HB0.out.size)
        clear hb1
        go_wp2_with fail
        go_ret
        exact ⟨ret_int HR.out.symm, HB1.out⟩
      · have e2 : (role == 2) = false := by rw [beq_eq_false_iff_ne]; exact h2
        by_cases h3 : role = 3
        · subst h3
          have HR := Lib.hid (show Cf.count ⟨u, r, p, wi, ev, pa, n⟩ 3 = u + r + 1 by rw [HC.out]; simp)
          go_enter Try.func12, Try.ntmps12
          go_wp2_with fail
          refine (check_any u r p wi ev pa A n c _).mono ?_
          rintro e w1 ⟨rfl, hb1⟩
          rw [HE.out]
          obtain ⟨c0, c1, c2, c3, c4, c5, c6⟩ := (HK.out.kept hb1).seven
          have HB1 := Lib.hid (below_next HB0.out hb1 HB0.out.size)
          clear hb1
          go_wp2_with fail
          go_ret
          exact ⟨ret_int HR.out.symm, HB1.out⟩
        · have e3 : (role == 3) = false := by rw [beq_eq_false_iff_ne]; exact h3
          by_cases h4 : role = 4
          · subst h4
            have HR := Lib.hid (show Cf.count ⟨u, r, p, wi, ev, pa, n⟩ 4 = p by rw [HC.out]; simp)
            go_enter Try.func12, Try.ntmps12
            go_wp2_with fail
            refine (check_any u r p wi ev pa A n c _).mono ?_
            rintro e w1 ⟨rfl, hb1⟩
            rw [HE.out]
            obtain ⟨c0, c1, c2, c3, c4, c5, c6⟩ := (HK.out.kept hb1).seven
            have HB1 := Lib.hid (below_next HB0.out hb1 HB0.out.size)
            clear hb1
            go_wp2_with fail
            go_ret
            exact ⟨ret_int HR.out.symm, HB1.out⟩
          · have e4 : (role == 4) = false := by rw [beq_eq_false_iff_ne]; exact h4
            have HR := Lib.hid (show Cf.count ⟨u, r, p, wi, ev, pa, n⟩ role = 0 by rw [HC.out]; simp [h1, h2, h3, h4])
            clear h1 h2 h3 h4
            go_enter Try.func12, Try.ntmps12
            go_wp2_with fail
            refine (check_any u r p wi ev pa A n c _).mono ?_
            rintro e w1 ⟨rfl, hb1⟩
            rw [HE.out]
            obtain ⟨c0, c1, c2, c3, c4, c5, c6⟩ := (HK.out.kept hb1).seven
            have HB1 := Lib.hid (below_next HB0.out hb1 HB0.out.size)
            clear hb1
            go_wp2_with fail
            go_ret
            exact ⟨ret_int HR.out.symm, HB1.out⟩
  · have HE := Lib.hid (show Cf.err ⟨u, r, p, wi, ev, pa, n⟩ = 60 by unfold Cf.err; rw [if_neg h])
    have HR := Lib.hid (Cf.count_no h role)
    clear h
    go_enter Try.func12, Try.ntmps12
    go_wp2_with fail
    refine (check_any u r p wi ev pa A n c _).mono ?_
    rintro e w1 ⟨rfl, hb1⟩
    rw [HE.out]
    obtain ⟨c0, c1, c2, c3, c4, c5, c6⟩ := (HK.out.kept hb1).seven
    have HB1 := Lib.hid (below_next HB0.out hb1 HB0.out.size)
    clear hb1
    go_wp2_with fail
    go_ret
    exact ⟨ret_int HR.out.symm, HB1.out⟩

set_option maxHeartbeats 1600000 in
theorem quorum_any (u r p wi ev pa : Int) (A : Option Addr) (n c : Nat) (w : World) :
    Calls Try.prog 14 #[.agg #[.int .i64 u, .int .i64 r, .int .i64 p, .int .i64 wi, .int .i64 ev, .int .i64 pa, .slice A n c]] w (Tells (.int .i64 (Cf.quorum ⟨u, r, p, wi, ev, pa, n⟩)) w) := by
  have HB0 := Lib.hid ((Below.refl w.heap.size w).alloc (Nat.le_refl _) (.cells #[.int .i64 u, .int .i64 r, .int .i64 p, .int .i64 wi, .int .i64 ev, .int .i64 pa, .slice A n c] 24))
  have HK := Lib.hid (Bk.new w 24 [.int .i64 u, .int .i64 r, .int .i64 p, .int .i64 wi, .int .i64 ev, .int .i64 pa, .slice A n c])
  by_cases h : Cf.Ok ⟨u, r, p, wi, ev, pa, n⟩
  · have HE := Lib.hid (show Cf.err ⟨u, r, p, wi, ev, pa, n⟩ = 0 by unfold Cf.err; rw [if_pos h])
    have HR := Lib.hid (show Cf.quorum ⟨u, r, p, wi, ev, pa, n⟩ = u + r + 1 by unfold Cf.quorum; rw [if_pos h])
    obtain ⟨y1, y2, y3, y4, y5, y6⟩ := h
    simp only at y1 y2 y3 y4 y5
    clear y6
    go_enter Try.func14, Try.ntmps14
    go_wp2_with fail
    refine (check_any u r p wi ev pa A n c _).mono ?_
    rintro e w1 ⟨rfl, hb1⟩
    rw [HE.out]
    obtain ⟨c0, c1, c2, c3, c4, c5, c6⟩ := (HK.out.kept hb1).seven
    have HB1 := Lib.hid (below_next HB0.out hb1 HB0.out.size)
    clear hb1
    go_wp2_with fail
    go_ret
    exact ⟨ret_int HR.out.symm, HB1.out⟩
  · have HE := Lib.hid (show Cf.err ⟨u, r, p, wi, ev, pa, n⟩ = 60 by unfold Cf.err; rw [if_neg h])
    have HR := Lib.hid (show Cf.quorum ⟨u, r, p, wi, ev, pa, n⟩ = 0 by unfold Cf.quorum; rw [if_neg h])
    clear h
    go_enter Try.func14, Try.ntmps14
    go_wp2_with fail
    refine (check_any u r p wi ev pa A n c _).mono ?_
    rintro e w1 ⟨rfl, hb1⟩
    rw [HE.out]
    obtain ⟨c0, c1, c2, c3, c4, c5, c6⟩ := (HK.out.kept hb1).seven
    have HB1 := Lib.hid (below_next HB0.out hb1 HB0.out.size)
    clear hb1
    go_wp2_with fail
    go_ret
    exact ⟨ret_int HR.out.symm, HB1.out⟩

set_option maxHeartbeats 1600000 in
theorem proof_any (u r p wi ev pa : Int) (A : Option Addr) (n c : Nat) (w : World) :
    Calls Try.prog 16 #[.agg #[.int .i64 u, .int .i64 r, .int .i64 p, .int .i64 wi, .int .i64 ev, .int .i64 pa, .slice A n c]] w (Tells (.int .i64 (Cf.proof ⟨u, r, p, wi, ev, pa, n⟩)) w) := by
  have HB0 := Lib.hid ((Below.refl w.heap.size w).alloc (Nat.le_refl _) (.cells #[.int .i64 u, .int .i64 r, .int .i64 p, .int .i64 wi, .int .i64 ev, .int .i64 pa, .slice A n c] 24))
  have HK := Lib.hid (Bk.new w 24 [.int .i64 u, .int .i64 r, .int .i64 p, .int .i64 wi, .int .i64 ev, .int .i64 pa, .slice A n c])
  by_cases h : Cf.Ok ⟨u, r, p, wi, ev, pa, n⟩
  · have HE := Lib.hid (show Cf.err ⟨u, r, p, wi, ev, pa, n⟩ = 0 by unfold Cf.err; rw [if_pos h])
    have HR := Lib.hid (show Cf.proof ⟨u, r, p, wi, ev, pa, n⟩ = r + 1 by unfold Cf.proof; rw [if_pos h])
    obtain ⟨y1, y2, y3, y4, y5, y6⟩ := h
    simp only at y1 y2 y3 y4 y5
    clear y6
    go_enter Try.func16, Try.ntmps16
    go_wp2_with fail
    refine (check_any u r p wi ev pa A n c _).mono ?_
    rintro e w1 ⟨rfl, hb1⟩
    rw [HE.out]
    obtain ⟨c0, c1, c2, c3, c4, c5, c6⟩ := (HK.out.kept hb1).seven
    have HB1 := Lib.hid (below_next HB0.out hb1 HB0.out.size)
    clear hb1
    go_wp2_with fail
    go_ret
    exact ⟨ret_int HR.out.symm, HB1.out⟩
  · have HE := Lib.hid (show Cf.err ⟨u, r, p, wi, ev, pa, n⟩ = 60 by unfold Cf.err; rw [if_neg h])
    have HR := Lib.hid (show Cf.proof ⟨u, r, p, wi, ev, pa, n⟩ = 0 by unfold Cf.proof; rw [if_neg h])
    clear h
    go_enter Try.func16, Try.ntmps16
    go_wp2_with fail
    refine (check_any u r p wi ev pa A n c _).mono ?_
    rintro e w1 ⟨rfl, hb1⟩
    rw [HE.out]
    obtain ⟨c0, c1, c2, c3, c4, c5, c6⟩ := (HK.out.kept hb1).seven
    have HB1 := Lib.hid (below_next HB0.out hb1 HB0.out.size)
    clear hb1
    go_wp2_with fail
    go_ret
    exact ⟨ret_int HR.out.symm, HB1.out⟩

set_option maxHeartbeats 1600000 in
theorem primary_any (u r p wi ev pa : Int) (A : Option Addr) (n c : Nat) (w : World) (view : Int) :
    Calls Try.prog 18 #[.agg #[.int .i64 u, .int .i64 r, .int .i64 p, .int .i64 wi, .int .i64 ev, .int .i64 pa, .slice A n c], .int .i64 view] w (Tells (.int .i64 (Cf.primary ⟨u, r, p, wi, ev, pa, n⟩ view)) w) := by
  have HB0 := Lib.hid ((Below.refl w.heap.size w).alloc (Nat.le_refl _) (.cells #[.int .i64 u, .int .i64 r, .int .i64 p, .int .i64 wi, .int .i64 ev, .int .i64 pa, .slice A n c] 24))
  have HP := Lib.hid (Cf.primary_count ⟨u, r, p, wi, ev, pa, n⟩ view)
  have HM := Lib.hid (Cf.count_room ⟨u, r, p, wi, ev, pa, n⟩ 2)
  have HC := Lib.hid (count_any u r p wi ev pa A n c (w.alloc (.cells #[.int .i64 u, .int .i64 r, .int .i64 p, .int .i64 wi, .int .i64 ev, .int .i64 pa, .slice A n c] 24)) 2)
  generalize Cf.primary ⟨u, r, p, wi, ev, pa, n⟩ view = z at *
  generalize Cf.count ⟨u, r, p, wi, ev, pa, n⟩ 2 = m at *
  obtain ⟨hm0, hm8⟩ := HM.out
  by_cases h0 : m = 0
  · subst h0
    have HR := Lib.hid (show z = 0 by rw [HP.out]; simp)
    go_enter Try.func18, Try.ntmps18
    go_wp2_with fail
    refine HC.out.mono ?_
    rintro e w1 ⟨rfl, hb1⟩
    have HB1 := Lib.hid (below_next HB0.out hb1 HB0.out.size)
    clear hb1
    go_wp2_with fail
    go_ret
    exact ⟨ret_int HR.out.symm, HB1.out⟩
  have e0 : (m == 0) = false := by rw [beq_eq_false_iff_ne]; exact h0
  by_cases h1 : view < 0
  · have HR := Lib.hid (show z = 0 by rw [HP.out]; simp [h1])
    go_enter Try.func18, Try.ntmps18
    go_wp2_with fail
    refine HC.out.mono ?_
    rintro e w1 ⟨rfl, hb1⟩
    have HB1 := Lib.hid (below_next HB0.out hb1 HB0.out.size)
    clear hb1
    go_wp2_with fail
    go_ret
    exact ⟨ret_int HR.out.symm, HB1.out⟩
  · have HR := Lib.hid (show z = view % m by rw [HP.out]; simp [h0, h1])
    go_enter Try.func18, Try.ntmps18
    go_wp2_with fail
    refine HC.out.mono ?_
    rintro e w1 ⟨rfl, hb1⟩
    have HB1 := Lib.hid (below_next HB0.out hb1 HB0.out.size)
    clear hb1
    go_wp2_with fail
    go_ret
    exact ⟨ret_int HR.out.symm, HB1.out⟩
end Go.Proofs.Ytmeojepffnoceaa
