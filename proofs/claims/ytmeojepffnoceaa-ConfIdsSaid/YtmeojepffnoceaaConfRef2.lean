/-
  The reference's Count, Quorum, Proof and Primary: walks over the plain words. No statement.
-/
import Derived.Test.YtmeojepffnoceaaConfRef1
namespace Go.Proofs.Ytmeojepffnoceaa
open Go.RowKit
set_option linter.unusedVariables false

set_option maxHeartbeats 1600000 in
theorem refCount_any (u r p wi ev pa : Int) (A : Option Addr) (n c : Nat) (w : World) (role : Int) :
    Calls Try.prog 13 #[.agg #[.int .i64 u, .int .i64 r, .int .i64 p, .int .i64 wi, .int .i64 ev, .int .i64 pa, .slice A n c], .int .i64 role] w (Tells (.int .i64 (Cf.count ⟨u, r, p, wi, ev, pa, n⟩ role)) w) := by
  have HB0 := Lib.hid ((Below.refl w.heap.size w).alloc (Nat.le_refl _) (.cells #[.int .i64 u, .int .i64 r, .int .i64 p, .int .i64 wi, .int .i64 ev, .int .i64 pa, .slice A n c] 24))
  have HK := Lib.hid (Bk.new w 24 [.int .i64 u, .int .i64 r, .int .i64 p, .int .i64 wi, .int .i64 ev, .int .i64 pa, .slice A n c])
  by_cases h : Cf.Ok ⟨u, r, p, wi, ev, pa, n⟩
  · have HE := Lib.hid (show Cf.err ⟨u, r, p, wi, ev, pa, n⟩ = 0 by unfold Cf.err; rw [if_pos h])
    have HC := Lib.hid (Cf.count_ok h role)
    obtain ⟨y1, y2, y3, y4, y5, y6⟩ := h
    simp only at y1 y2 y3 y4 y5
    clear y6
    by_cases h1 : role = 1
    · subst h1
      have HR := Lib.hid (show Cf.count ⟨u, r, p, wi, ev, pa, n⟩ 1 = 2 * u + r + 1 by rw [HC.out]; simp)
      go_enter Try.func13, Try.ntmps13
      go_wp2_with fail
      refine (refCheck_any u r p wi ev pa A n c _).mono ?_
      rintro e w1 ⟨rfl, hb1⟩
      rw [HE.out]
      obtain ⟨c0, c1, c2, c3, c4, c5, c6⟩ := (HK.out.kept hb1).seven
      have HB1 := Lib.hid (below_next HB0.out hb1 HB0.out.size)
      clear hb1
      go_wp2_with fail
      go_ret
      exact ⟨ret_int HR.out.symm, HB1.out⟩
    · have e1 : (role == 1) = false := by rw [beq_eq_false_iff_ne]; exact h1
      by_cases h2 : role = 2
      · subst h2
        have HR := Lib.hid (show Cf.count ⟨u, r, p, wi, ev, pa, n⟩ 2 = 2 * u + r + 1 by rw [HC.out]; simp)
        go_enter Try.func13, Try.ntmps13
        go_wp2_with fail
        refine (refCheck_any u r p wi ev pa A n c _).mono ?_
        rintro e w1 ⟨rfl, hb1⟩
        rw [HE.out]
        obtain ⟨c0, c1, c2, c3, c4, c5, c6⟩ := (HK.out.kept hb1).seven
        have HB1 := Lib.hid (below_next HB0.out hb1 HB0.out.size)
        clear hb1
        go_wp2_with fail
        go_ret
        exact ⟨ret_int HR.out.symm, HB1.out⟩
      · have e2 : (role == 2) = false := by rw [beq_eq_false_iff_ne]; exact h2
        by_cases h3 : role = 3
        · subst h3
          have HR := Lib.hid (show Cf.count ⟨u, r, p, wi, ev, pa, n⟩ 3 = u + r + 1 by rw [HC.out]; simp)
          go_enter Try.func13, Try.ntmps13
          go_wp2_with fail
          refine (refCheck_any u r p wi ev pa A n c _).mono ?_
          rintro e w1 ⟨rfl, hb1⟩
          rw [HE.out]
          obtain ⟨c0, c1, c2, c3, c4, c5, c6⟩ := (HK.out.kept hb1).seven
          have HB1 := Lib.hid (below_next HB0.out hb1 HB0.out.size)
          clear hb1
          go_wp2_with fail
          go_ret
          exact ⟨ret_int HR.out.symm, HB1.out⟩
        · have e3 : (role == 3) = false := by rw [beq_eq_false_iff_ne]; exact h3
          by_cases h4 : role = 4
          · subst h4
            have HR := Lib.hid (show Cf.count ⟨u, r, p, wi, ev, pa, n⟩ 4 = p by rw [HC.out]; simp)
            go_enter Try.func13, Try.ntmps13
            go_wp2_with fail
            refine (refCheck_any u r p wi ev pa A n c _).mono ?_
            rintro e w1 ⟨rfl, hb1⟩
            rw [HE.out]
            obtain ⟨c0, c1, c2, c3, c4, c5, c6⟩ := (HK.out.kept hb1).seven
            have HB1 := Lib.hid (below_next HB0.out hb1 HB0.out.size)
            clear hb1
            go_wp2_with fail
            go_ret
            exact ⟨ret_int HR.out.symm, HB1.out⟩
          · have e4 : (role == 4) = false := by rw [beq_eq_false_iff_ne]; exact h4
            have HR := Lib.hid (show Cf.count ⟨u, r, p, wi, ev, pa, n⟩ role = 0 by rw [HC.out]; simp [h1, h2, h3, h4])
            clear h1 h2 h3 h4
            go_enter Try.func13, Try.ntmps13
            go_wp2_with fail
            refine (refCheck_any u r p wi ev pa A n c _).mono ?_
            rintro e w1 ⟨rfl, hb1⟩
            rw [HE.out]
            obtain ⟨c0, c1, c2, c3, c4, c5, c6⟩ := (HK.out.kept hb1).seven
            have HB1 := Lib.hid (below_next HB0.out hb1 HB0.out.size)
            clear hb1
            go_wp2_with fail
            go_ret
            exact ⟨ret_int HR.out.symm, HB1.out⟩
  · have HE := Lib.hid (show Cf.err ⟨u, r, p, wi, ev, pa, n⟩ = 60 by unfold Cf.err; rw [if_neg h])
    have HR := Lib.hid (Cf.count_no h role)
    clear h
    go_enter Try.func13, Try.ntmps13
    go_wp2_with fail
    refine (refCheck_any u r p wi ev pa A n c _).mono ?_
    rintro e w1 ⟨rfl, hb1⟩
    rw [HE.out]
    obtain ⟨c0, c1, c2, c3, c4, c5, c6⟩ := (HK.out.kept hb1).seven
    have HB1 := Lib.hid (below_next HB0.out hb1 HB0.out.size)
    clear hb1
    go_wp2_with fail
    go_ret
    exact ⟨ret_int HR.out.symm, HB1.out⟩

theorem refQuorum_any (u r p wi ev pa : Int) (A : Option Addr) (n c : Nat) (w : World) :
    Calls Try.prog 15 #[.agg #[.int .i64 u, .int .i64 r, .int .i64 p, .int .i64 wi, .int .i64 ev, .int .i64 pa, .slice A n c]] w (Tells (.int .i64 (Cf.quorum ⟨u, r, p, wi, ev, pa, n⟩)) w) := by
  have HB0 := Lib.hid ((Below.refl w.heap.size w).alloc (Nat.le_refl _) (.cells #[.int .i64 u, .int .i64 r, .int .i64 p, .int .i64 wi, .int .i64 ev, .int .i64 pa, .slice A n c] 24))
  have HQ := Lib.hid (Cf.quorum_count ⟨u, r, p, wi, ev, pa, n⟩)
  go_enter Try.func15, Try.ntmps15
  go_wp2_with fail
  refine (refCount_any u r p wi ev pa A n c _ 3).mono ?_
  rintro e w1 ⟨rfl, hb1⟩
  rw [HQ.out]
  have HB1 := Lib.hid (below_next HB0.out hb1 HB0.out.size)
  clear hb1
  go_wp2_with fail
  go_ret
  exact ⟨rfl, HB1.out⟩

set_option maxHeartbeats 1600000 in
theorem refProof_any (u r p wi ev pa : Int) (A : Option Addr) (n c : Nat) (w : World) :
    Calls Try.prog 17 #[.agg #[.int .i64 u, .int .i64 r, .int .i64 p, .int .i64 wi, .int .i64 ev, .int .i64 pa, .slice A n c]] w (Tells (.int .i64 (Cf.proof ⟨u, r, p, wi, ev, pa, n⟩)) w) := by
  have HB0 := Lib.hid ((Below.refl w.heap.size w).alloc (Nat.le_refl _) (.cells #[.int .i64 u, .int .i64 r, .int .i64 p, .int .i64 wi, .int .i64 ev, .int .i64 pa, .slice A n c] 24))
  have HK := Lib.hid (Bk.new w 24 [.int .i64 u, .int .i64 r, .int .i64 p, .int .i64 wi, .int .i64 ev, .int .i64 pa, .slice A n c])
  by_cases h : Cf.Ok ⟨u, r, p, wi, ev, pa, n⟩
  · have HE := Lib.hid (show Cf.err ⟨u, r, p, wi, ev, pa, n⟩ = 0 by unfold Cf.err; rw [if_pos h])
    have HR := Lib.hid (show Cf.proof ⟨u, r, p, wi, ev, pa, n⟩ = r + 1 by unfold Cf.proof; rw [if_pos h])
    obtain ⟨y1, y2, y3, y4, y5, y6⟩ := h
    simp only at y1 y2 y3 y4 y5
    clear y6
    go_enter Try.func17, Try.ntmps17
    go_wp2_with fail
    refine (refCheck_any u r p wi ev pa A n c _).mono ?_
    rintro e w1 ⟨rfl, hb1⟩
    rw [HE.out]
    obtain ⟨c0, c1, c2, c3, c4, c5, c6⟩ := (HK.out.kept hb1).seven
    have HB1 := Lib.hid (below_next HB0.out hb1 HB0.out.size)
    clear hb1
    go_wp2_with fail
    go_ret
    exact ⟨ret_int HR.out.symm, HB1.out⟩
  · have HE := Lib.hid (show Cf.err ⟨u, r, p, wi, ev, pa, n⟩ = 60 by unfold Cf.err; rw [if_neg h])
    have HR := Lib.hid (show Cf.proof ⟨u, r, p, wi, ev, pa, n⟩ = 0 by unfold Cf.proof; rw [if_neg h])
    clear h
    go_enter Try.func17, Try.ntmps17
    go_wp2_with fail
    refine (refCheck_any u r p wi ev pa A n c _).mono ?_
    rintro e w1 ⟨rfl, hb1⟩
    rw [HE.out]
    obtain ⟨c0, c1, c2, c3, c4, c5, c6⟩ := (HK.out.kept hb1).seven
    have HB1 := Lib.hid (below_next HB0.out hb1 HB0.out.size)
    clear hb1
    go_wp2_with fail
    go_ret
    exact ⟨ret_int HR.out.symm, HB1.out⟩

set_option maxHeartbeats 1600000 in
theorem refPrimary_any (u r p wi ev pa : Int) (A : Option Addr) (n c : Nat) (w : World) (view : Int) :
    Calls Try.prog 19 #[.agg #[.int .i64 u, .int .i64 r, .int .i64 p, .int .i64 wi, .int .i64 ev, .int .i64 pa, .slice A n c], .int .i64 view] w (Tells (.int .i64 (Cf.primary ⟨u, r, p, wi, ev, pa, n⟩ view)) w) := by
  have HB0 := Lib.hid ((Below.refl w.heap.size w).alloc (Nat.le_refl _) (.cells #[.int .i64 u, .int .i64 r, .int .i64 p, .int .i64 wi, .int .i64 ev, .int .i64 pa, .slice A n c] 24))
  have HP := Lib.hid (Cf.primary_count ⟨u, r, p, wi, ev, pa, n⟩ view)
  have HM := Lib.hid (Cf.count_room ⟨u, r, p, wi, ev, pa, n⟩ 2)
  have HC := Lib.hid (refCount_any u r p wi ev pa A n c (w.alloc (.cells #[.int .i64 u, .int .i64 r, .int .i64 p, .int .i64 wi, .int .i64 ev, .int .i64 pa, .slice A n c] 24)) 2)
  generalize Cf.primary ⟨u, r, p, wi, ev, pa, n⟩ view = z at *
  generalize Cf.count ⟨u, r, p, wi, ev, pa, n⟩ 2 = m at *
  obtain ⟨hm0, hm8⟩ := HM.out
  by_cases h0 : m = 0
  · subst h0
    have HR := Lib.hid (show z = 0 by rw [HP.out]; simp)
    go_enter Try.func19, Try.ntmps19
    go_wp2_with fail
    refine HC.out.mono ?_
    rintro e w1 ⟨rfl, hb1⟩
    have HB1 := Lib.hid (below_next HB0.out hb1 HB0.out.size)
    clear hb1
    go_wp2_with fail
    go_ret
    exact ⟨ret_int HR.out.symm, HB1.out⟩
  have e0 : (m == 0) = false := by rw [beq_eq_false_iff_ne]; exact h0
  by_cases h1 : view < 0
  · have HR := Lib.hid (show z = 0 by rw [HP.out]; simp [h1])
    go_enter Try.func19, Try.ntmps19
    go_wp2_with fail
    refine HC.out.mono ?_
    rintro e w1 ⟨rfl, hb1⟩
    have HB1 := Lib.hid (below_next HB0.out hb1 HB0.out.size)
    clear hb1
    go_wp2_with fail
    go_ret
    exact ⟨ret_int HR.out.symm, HB1.out⟩
  · have HR := Lib.hid (show z = view % m by rw [HP.out]; simp [h0, h1])
    go_enter Try.func19, Try.ntmps19
    go_wp2_with fail
    refine HC.out.mono ?_
    rintro e w1 ⟨rfl, hb1⟩
    have HB1 := Lib.hid (below_next HB0.out hb1 HB0.out.size)
    clear hb1
    go_wp2_with fail
    go_ret
    exact ⟨ret_int HR.out.symm, HB1.out⟩
set_option maxHeartbeats 1600000 in
theorem refThere_any (u r p wi ev pa : Int) (A : Option Addr) (n c : Nat) (w : World) (role k : Int) :
    Calls Try.prog 21 #[.agg #[.int .i64 u, .int .i64 r, .int .i64 p, .int .i64 wi, .int .i64 ev, .int .i64 pa, .slice A n c], .agg #[.int .i64 role, .int .i64 k]] w (Tells (.bool (Cf.there ⟨u, r, p, wi, ev, pa, n⟩ role k)) w) := by
  have b0 := (Below.refl w.heap.size w).alloc (Nat.le_refl _) (.cells #[.int .i64 u, .int .i64 r, .int .i64 p, .int .i64 wi, .int .i64 ev, .int .i64 pa, .slice A n c] 24)
  have hw := b0.alloc b0.size (.cells #[.int .i64 role, .int .i64 k] 26)
  clear b0
  have kc := (Bk.new w 24 [.int .i64 u, .int .i64 r, .int .i64 p, .int .i64 wi, .int .i64 ev, .int .i64 pa, .slice A n c]).alloc (.cells #[.int .i64 role, .int .i64 k] 26)
  have ki := Bk.new (w.alloc (.cells #[.int .i64 u, .int .i64 r, .int .i64 p, .int .i64 wi, .int .i64 ev, .int .i64 pa, .slice A n c] 24)) 26 [.int .i64 role, .int .i64 k]
  rw [show (w.alloc (.cells #[.int .i64 u, .int .i64 r, .int .i64 p, .int .i64 wi, .int .i64 ev, .int .i64 pa, .slice A n c] 24)).heap.size = w.heap.size + 1 by simp] at ki
  have HT := Lib.hid (show Cf.there ⟨u, r, p, wi, ev, pa, n⟩ role k = decide (0 ≤ k ∧ k < Cf.count ⟨u, r, p, wi, ev, pa, n⟩ role) from rfl)
  have HM := Lib.hid (Cf.count_room ⟨u, r, p, wi, ev, pa, n⟩ role)
  have HC := Lib.hid (show ∀ X, Below w.heap.size w X → Calls Try.prog 13 #[.agg #[.int .i64 u, .int .i64 r, .int .i64 p, .int .i64 wi, .int .i64 ev, .int .i64 pa, .slice A n c], .int .i64 role] X (fun e w' => e = .returned (.int .i64 (Cf.count ⟨u, r, p, wi, ev, pa, n⟩ role)) ∧ Below w.heap.size w w' ∧ Below X.heap.size X w') from
    fun X hw => (refCount_any u r p wi ev pa A n c X role).mono fun e w' ⟨he, hb⟩ => ⟨he, below_next hw hb hw.size, hb⟩)
  generalize Cf.there ⟨u, r, p, wi, ev, pa, n⟩ role k = z at *
  generalize Cf.count ⟨u, r, p, wi, ev, pa, n⟩ role = m at *
  by_cases h0 : 0 ≤ k
  · have HD := Lib.hid (show z = decide (k < m) by rw [HT.out]; simp [h0])
    go_enter Try.func21, Try.ntmps21
    go_wp2_with fail
    go_region_held3 (fun w' => (w'.cell? ⟨w.heap.size, 0, none⟩ = some (.int .i64 u) ∧ w'.cell? ⟨w.heap.size, 1, none⟩ = some (.int .i64 r) ∧ w'.cell? ⟨w.heap.size, 2, none⟩ = some (.int .i64 p) ∧ w'.cell? ⟨w.heap.size, 3, none⟩ = some (.int .i64 wi) ∧ w'.cell? ⟨w.heap.size, 4, none⟩ = some (.int .i64 ev) ∧ w'.cell? ⟨w.heap.size, 5, none⟩ = some (.int .i64 pa) ∧ w'.cell? ⟨w.heap.size, 6, none⟩ = some (.slice A n c)) ∧ (w'.cell? ⟨w.heap.size + 1, 0, none⟩ = some (.int .i64 role) ∧ w'.cell? ⟨w.heap.size + 1, 1, none⟩ = some (.int .i64 k))) (first | with_reducible exact ⟨(bk_drew kc).seven, (bk_drew ki).two⟩ | with_reducible exact ⟨kc.seven, ki.two⟩ | go_keep)
      (first
      | (go_at_call 13; with_reducible refine (HC.out _ ?_).mono ?_
         focus first | with_reducible exact hw | with_reducible exact below_drew hw
         rintro e w' ⟨rfl, hw', hx⟩
         first | replace kc := kc.kept hx | replace kc := bk_keptD kc hx
         first | replace ki := ki.kept hx | replace ki := bk_keptD ki hx
         replace hw := hw'
         clear hw' hx))
    all_goals
      go_wp2_with fail
      go_ret
      exact ⟨ret_bool HD.out.symm, hw⟩
  · have HR := Lib.hid (show z = false by rw [HT.out]; simp [h0])
    have h1 : decide (k ≥ 0) = false := by simp [h0]
    go_enter Try.func21, Try.ntmps21
    go_wp2_with fail
    go_quiet (fail)
    go_wp2_with fail
    go_ret
    exact ⟨ret_bool HR.out.symm, below_drewN hw _⟩
end Go.Proofs.Ytmeojepffnoceaa
