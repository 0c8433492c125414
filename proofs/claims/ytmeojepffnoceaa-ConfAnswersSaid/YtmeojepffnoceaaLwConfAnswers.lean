/-
  ConfAnswers: the walk of the law. No statement.
-/
import Derived.Test.YtmeojepffnoceaaConfLaw
import Derived.Test.YtmeojepffnoceaaConfCopy
import Derived.Test.YtmeojepffnoceaaOpenConf
namespace Go.Proofs.Ytmeojepffnoceaa
open Go.RowKit
set_option linter.unusedVariables false

theorem tells_on {r : Value} {w X : World} {e : Ending} {w' : World} (hw : Below w.heap.size w X) (h : Tells r X e w') : e = .returned r ∧ Below w.heap.size w w' ∧ Below X.heap.size X w' := ⟨h.1, below_next hw h.2 hw.size, h.2⟩

set_option maxHeartbeats 12800000 in
/-- the comparisons: both hold the same -/
theorem confAnswers_any (u r p wi ev pa : Int) (A : Option Addr) (n c : Nat) (l : List UInt8) (w : World) (h : Rd w A n (l.map bv)) (hn : n ≤ 140737488355328) (role view i0 i1 : Int) :
    Calls Try.prog 3 #[.agg #[.int .i64 u, .int .i64 r, .int .i64 p, .int .i64 wi, .int .i64 ev, .int .i64 pa, .slice A n c], .int .i64 role, .int .i64 view, .agg #[.int .i64 i0, .int .i64 i1]] w (Tr w) := by
  have b0 := (Below.refl w.heap.size w).alloc (Nat.le_refl _) (.cells #[.int .i64 u, .int .i64 r, .int .i64 p, .int .i64 wi, .int .i64 ev, .int .i64 pa, .slice A n c] 24)
  have HB := Lib.hid (b0.alloc b0.size (.cells #[.int .i64 i0, .int .i64 i1] 26))
  have HK := Lib.hid ((Bk.new w 24 [.int .i64 u, .int .i64 r, .int .i64 p, .int .i64 wi, .int .i64 ev, .int .i64 pa, .slice A n c]).alloc (.cells #[.int .i64 i0, .int .i64 i1] 26))
  have ki := Bk.new (w.alloc (.cells #[.int .i64 u, .int .i64 r, .int .i64 p, .int .i64 wi, .int .i64 ev, .int .i64 pa, .slice A n c] 24)) 26 [.int .i64 i0, .int .i64 i1]
  rw [show (w.alloc (.cells #[.int .i64 u, .int .i64 r, .int .i64 p, .int .i64 wi, .int .i64 ev, .int .i64 pa, .slice A n c] 24)).heap.size = w.heap.size + 1 by simp] at ki
  have HI := Lib.hid ki
  have HA := Lib.hid (alive_ok ((w.alloc (.cells #[.int .i64 u, .int .i64 r, .int .i64 p, .int .i64 wi, .int .i64 ev, .int .i64 pa, .slice A n c] 24)).alloc (.cells #[.int .i64 i0, .int .i64 i1] 26)))
  have HCP := Lib.hid (fun W h => copyConf_any u r p wi ev pa A n c l W h hn)
  have H := Lib.hid h
  have HLN := Lib.hid (show l.length = n by simpa using h.1)
  clear b0 ki h
  go_enter Try.func3, Try.ntmps3
  go_wp2_with fail
  refine HA.out.mono ?_
  rintro e w1 ⟨rfl, hb1⟩
  have HK1 := Lib.hid (HK.out.kept hb1)
  have HI1 := Lib.hid (HI.out.kept hb1)
  have HB1 := Lib.hid (below_next HB.out hb1 HB.out.size)
  clear hb1
  obtain ⟨c0, c1, c2, c3, c4, c5, c6⟩ := HK1.out.seven
  go_wp2_with fail
  refine (HCP.out _ (H.out.below HB1.out)).mono ?_
  rintro e w2 ⟨B, n2, d, rfl, ho2, hb2⟩
  obtain rfl : n = n2 := by rw [← HLN.out]; exact ho2.len
  have kc := (HK1.out.kept hb2).alloc (.cells #[.int .i64 u, .int .i64 r, .int .i64 p, .int .i64 wi, .int .i64 ev, .int .i64 pa, .slice B n d] 24)
  have ki := (HI1.out.kept hb2).alloc (.cells #[.int .i64 u, .int .i64 r, .int .i64 p, .int .i64 wi, .int .i64 ev, .int .i64 pa, .slice B n d] 24)
  have ko := Bk.new w2 24 [.int .i64 u, .int .i64 r, .int .i64 p, .int .i64 wi, .int .i64 ev, .int .i64 pa, .slice B n d]
  have hw0 := below_next HB1.out hb2 HB1.out.size
  have hw := hw0.alloc hw0.size (.cells #[.int .i64 u, .int .i64 r, .int .i64 p, .int .i64 wi, .int .i64 ev, .int .i64 pa, .slice B n d] 24)
  clear hb2 ho2 hw0 c0 c1 c2 c3 c4 c5 c6
  have HDCheck := Lib.hid (show ∀ X, Below w.heap.size w X → Calls Try.prog 10 #[.agg #[.int .i64 u, .int .i64 r, .int .i64 p, .int .i64 wi, .int .i64 ev, .int .i64 pa, .slice B n d]] X (fun e w' => e = .returned (.int .i64 (Cf.err ⟨u, r, p, wi, ev, pa, n⟩)) ∧ Below w.heap.size w w' ∧ Below X.heap.size X w') from
    fun X hw => (check_any u r p wi ev pa B n d X).mono fun _ _ h => tells_on hw h)
  have HRCheck := Lib.hid (show ∀ X, Below w.heap.size w X → Calls Try.prog 11 #[.agg #[.int .i64 u, .int .i64 r, .int .i64 p, .int .i64 wi, .int .i64 ev, .int .i64 pa, .slice A n c]] X (fun e w' => e = .returned (.int .i64 (Cf.err ⟨u, r, p, wi, ev, pa, n⟩)) ∧ Below w.heap.size w w' ∧ Below X.heap.size X w') from
    fun X hw => (refCheck_any u r p wi ev pa A n c X).mono fun _ _ h => tells_on hw h)
  have HDCount := Lib.hid (show ∀ X, Below w.heap.size w X → Calls Try.prog 12 #[.agg #[.int .i64 u, .int .i64 r, .int .i64 p, .int .i64 wi, .int .i64 ev, .int .i64 pa, .slice B n d], .int .i64 role] X (fun e w' => e = .returned (.int .i64 (Cf.count ⟨u, r, p, wi, ev, pa, n⟩ role)) ∧ Below w.heap.size w w' ∧ Below X.heap.size X w') from
    fun X hw => (count_any u r p wi ev pa B n d X role).mono fun _ _ h => tells_on hw h)
  have HRCount := Lib.hid (show ∀ X, Below w.heap.size w X → Calls Try.prog 13 #[.agg #[.int .i64 u, .int .i64 r, .int .i64 p, .int .i64 wi, .int .i64 ev, .int .i64 pa, .slice A n c], .int .i64 role] X (fun e w' => e = .returned (.int .i64 (Cf.count ⟨u, r, p, wi, ev, pa, n⟩ role)) ∧ Below w.heap.size w w' ∧ Below X.heap.size X w') from
    fun X hw => (refCount_any u r p wi ev pa A n c X role).mono fun _ _ h => tells_on hw h)
  have HDQuorum := Lib.hid (show ∀ X, Below w.heap.size w X → Calls Try.prog 14 #[.agg #[.int .i64 u, .int .i64 r, .int .i64 p, .int .i64 wi, .int .i64 ev, .int .i64 pa, .slice B n d]] X (fun e w' => e = .returned (.int .i64 (Cf.quorum ⟨u, r, p, wi, ev, pa, n⟩)) ∧ Below w.heap.size w w' ∧ Below X.heap.size X w') from
    fun X hw => (quorum_any u r p wi ev pa B n d X).mono fun _ _ h => tells_on hw h)
  have HRQuorum := Lib.hid (show ∀ X, Below w.heap.size w X → Calls Try.prog 15 #[.agg #[.int .i64 u, .int .i64 r, .int .i64 p, .int .i64 wi, .int .i64 ev, .int .i64 pa, .slice A n c]] X (fun e w' => e = .returned (.int .i64 (Cf.quorum ⟨u, r, p, wi, ev, pa, n⟩)) ∧ Below w.heap.size w w' ∧ Below X.heap.size X w') from
    fun X hw => (refQuorum_any u r p wi ev pa A n c X).mono fun _ _ h => tells_on hw h)
  have HDProof := Lib.hid (show ∀ X, Below w.heap.size w X → Calls Try.prog 16 #[.agg #[.int .i64 u, .int .i64 r, .int .i64 p, .int .i64 wi, .int .i64 ev, .int .i64 pa, .slice B n d]] X (fun e w' => e = .returned (.int .i64 (Cf.proof ⟨u, r, p, wi, ev, pa, n⟩)) ∧ Below w.heap.size w w' ∧ Below X.heap.size X w') from
    fun X hw => (proof_any u r p wi ev pa B n d X).mono fun _ _ h => tells_on hw h)
  have HRProof := Lib.hid (show ∀ X, Below w.heap.size w X → Calls Try.prog 17 #[.agg #[.int .i64 u, .int .i64 r, .int .i64 p, .int .i64 wi, .int .i64 ev, .int .i64 pa, .slice A n c]] X (fun e w' => e = .returned (.int .i64 (Cf.proof ⟨u, r, p, wi, ev, pa, n⟩)) ∧ Below w.heap.size w w' ∧ Below X.heap.size X w') from
    fun X hw => (refProof_any u r p wi ev pa A n c X).mono fun _ _ h => tells_on hw h)
  have HDPrimary := Lib.hid (show ∀ X, Below w.heap.size w X → Calls Try.prog 18 #[.agg #[.int .i64 u, .int .i64 r, .int .i64 p, .int .i64 wi, .int .i64 ev, .int .i64 pa, .slice B n d], .int .i64 view] X (fun e w' => e = .returned (.int .i64 (Cf.primary ⟨u, r, p, wi, ev, pa, n⟩ view)) ∧ Below w.heap.size w w' ∧ Below X.heap.size X w') from
    fun X hw => (primary_any u r p wi ev pa B n d X view).mono fun _ _ h => tells_on hw h)
  have HRPrimary := Lib.hid (show ∀ X, Below w.heap.size w X → Calls Try.prog 19 #[.agg #[.int .i64 u, .int .i64 r, .int .i64 p, .int .i64 wi, .int .i64 ev, .int .i64 pa, .slice A n c], .int .i64 view] X (fun e w' => e = .returned (.int .i64 (Cf.primary ⟨u, r, p, wi, ev, pa, n⟩ view)) ∧ Below w.heap.size w w' ∧ Below X.heap.size X w') from
    fun X hw => (refPrimary_any u r p wi ev pa A n c X view).mono fun _ _ h => tells_on hw h)
  have HDThere := Lib.hid (show ∀ X, Below w.heap.size w X → Calls Try.prog 20 #[.agg #[.int .i64 u, .int .i64 r, .int .i64 p, .int .i64 wi, .int .i64 ev, .int .i64 pa, .slice B n d], .agg #[.int .i64 i0, .int .i64 i1]] X (fun e w' => e = .returned (.bool (Cf.there ⟨u, r, p, wi, ev, pa, n⟩ i0 i1)) ∧ Below w.heap.size w w' ∧ Below X.heap.size X w') from
    fun X hw => (there_any u r p wi ev pa B n d X i0 i1).mono fun _ _ h => tells_on hw h)
  have HRThere := Lib.hid (show ∀ X, Below w.heap.size w X → Calls Try.prog 21 #[.agg #[.int .i64 u, .int .i64 r, .int .i64 p, .int .i64 wi, .int .i64 ev, .int .i64 pa, .slice A n c], .agg #[.int .i64 i0, .int .i64 i1]] X (fun e w' => e = .returned (.bool (Cf.there ⟨u, r, p, wi, ev, pa, n⟩ i0 i1)) ∧ Below w.heap.size w w' ∧ Below X.heap.size X w') from
    fun X hw => (refThere_any u r p wi ev pa A n c X i0 i1).mono fun _ _ h => tells_on hw h)
  generalize hg : w2.heap.size = g at *
  generalize Cf.err ⟨u, r, p, wi, ev, pa, n⟩ = q1 at *
  generalize Cf.count ⟨u, r, p, wi, ev, pa, n⟩ role = q2 at *
  generalize Cf.quorum ⟨u, r, p, wi, ev, pa, n⟩ = q3 at *
  generalize Cf.proof ⟨u, r, p, wi, ev, pa, n⟩ = q4 at *
  generalize Cf.primary ⟨u, r, p, wi, ev, pa, n⟩ view = q5 at *
  generalize Cf.there ⟨u, r, p, wi, ev, pa, n⟩ i0 i1 = q6 at *
  go_wp2_with fail
  go_region_held3 (fun w' => (w'.cell? ⟨w.heap.size, 0, none⟩ = some (.int .i64 u) ∧ w'.cell? ⟨w.heap.size, 1, none⟩ = some (.int .i64 r) ∧ w'.cell? ⟨w.heap.size, 2, none⟩ = some (.int .i64 p) ∧ w'.cell? ⟨w.heap.size, 3, none⟩ = some (.int .i64 wi) ∧ w'.cell? ⟨w.heap.size, 4, none⟩ = some (.int .i64 ev) ∧ w'.cell? ⟨w.heap.size, 5, none⟩ = some (.int .i64 pa) ∧ w'.cell? ⟨w.heap.size, 6, none⟩ = some (.slice A n c)) ∧ (w'.cell? ⟨g, 0, none⟩ = some (.int .i64 u) ∧ w'.cell? ⟨g, 1, none⟩ = some (.int .i64 r) ∧ w'.cell? ⟨g, 2, none⟩ = some (.int .i64 p) ∧ w'.cell? ⟨g, 3, none⟩ = some (.int .i64 wi) ∧ w'.cell? ⟨g, 4, none⟩ = some (.int .i64 ev) ∧ w'.cell? ⟨g, 5, none⟩ = some (.int .i64 pa) ∧ w'.cell? ⟨g, 6, none⟩ = some (.slice B n d)) ∧ (w'.cell? ⟨w.heap.size + 1, 0, none⟩ = some (.int .i64 i0) ∧ w'.cell? ⟨w.heap.size + 1, 1, none⟩ = some (.int .i64 i1))) (first | with_reducible exact ⟨(bk_drew kc).seven, (bk_drew ko).seven, (bk_drew ki).two⟩ | with_reducible exact ⟨kc.seven, ko.seven, ki.two⟩ | go_keep)
        (first
        | (go_at_call 10; with_reducible refine (HDCheck.out _ ?_).mono ?_
           focus first | with_reducible exact hw | with_reducible exact below_drew hw
           rintro e w' ⟨rfl, hw', hx⟩
           first | replace kc := kc.kept hx | replace kc := bk_keptD kc hx
           first | replace ko := ko.kept hx | replace ko := bk_keptD ko hx
           first | replace ki := ki.kept hx | replace ki := bk_keptD ki hx
           replace hw := hw'
           clear hw' hx)
        | (go_at_call 11; with_reducible refine (HRCheck.out _ ?_).mono ?_
           focus first | with_reducible exact hw | with_reducible exact below_drew hw
           rintro e w' ⟨rfl, hw', hx⟩
           first | replace kc := kc.kept hx | replace kc := bk_keptD kc hx
           first | replace ko := ko.kept hx | replace ko := bk_keptD ko hx
           first | replace ki := ki.kept hx | replace ki := bk_keptD ki hx
           replace hw := hw'
           clear hw' hx)
        | (go_at_call 12; with_reducible refine (HDCount.out _ ?_).mono ?_
           focus first | with_reducible exact hw | with_reducible exact below_drew hw
           rintro e w' ⟨rfl, hw', hx⟩
           first | replace kc := kc.kept hx | replace kc := bk_keptD kc hx
           first | replace ko := ko.kept hx | replace ko := bk_keptD ko hx
           first | replace ki := ki.kept hx | replace ki := bk_keptD ki hx
           replace hw := hw'
           clear hw' hx)
        | (go_at_call 13; with_reducible refine (HRCount.out _ ?_).mono ?_
           focus first | with_reducible exact hw | with_reducible exact below_drew hw
           rintro e w' ⟨rfl, hw', hx⟩
           first | replace kc := kc.kept hx | replace kc := bk_keptD kc hx
           first | replace ko := ko.kept hx | replace ko := bk_keptD ko hx
           first | replace ki := ki.kept hx | replace ki := bk_keptD ki hx
           replace hw := hw'
           clear hw' hx)
        | (go_at_call 14; with_reducible refine (HDQuorum.out _ ?_).mono ?_
           focus first | with_reducible exact hw | with_reducible exact below_drew hw
           rintro e w' ⟨rfl, hw', hx⟩
           first | replace kc := kc.kept hx | replace kc := bk_keptD kc hx
           first | replace ko := ko.kept hx | replace ko := bk_keptD ko hx
           first | replace ki := ki.kept hx | replace ki := bk_keptD ki hx
           replace hw := hw'
           clear hw' hx)
        | (go_at_call 15; with_reducible refine (HRQuorum.out _ ?_).mono ?_
           focus first | with_reducible exact hw | with_reducible exact below_drew hw
           rintro e w' ⟨rfl, hw', hx⟩
           first | replace kc := kc.kept hx | replace kc := bk_keptD kc hx
           first | replace ko := ko.kept hx | replace ko := bk_keptD ko hx
           first | replace ki := ki.kept hx | replace ki := bk_keptD ki hx
           replace hw := hw'
           clear hw' hx)
        | (go_at_call 16; with_reducible refine (HDProof.out _ ?_).mono ?_
           focus first | with_reducible exact hw | with_reducible exact below_drew hw
           rintro e w' ⟨rfl, hw', hx⟩
           first | replace kc := kc.kept hx | replace kc := bk_keptD kc hx
           first | replace ko := ko.kept hx | replace ko := bk_keptD ko hx
           first | replace ki := ki.kept hx | replace ki := bk_keptD ki hx
           replace hw := hw'
           clear hw' hx)
        | (go_at_call 17; with_reducible refine (HRProof.out _ ?_).mono ?_
           focus first | with_reducible exact hw | with_reducible exact below_drew hw
           rintro e w' ⟨rfl, hw', hx⟩
           first | replace kc := kc.kept hx | replace kc := bk_keptD kc hx
           first | replace ko := ko.kept hx | replace ko := bk_keptD ko hx
           first | replace ki := ki.kept hx | replace ki := bk_keptD ki hx
           replace hw := hw'
           clear hw' hx)
        | (go_at_call 18; with_reducible refine (HDPrimary.out _ ?_).mono ?_
           focus first | with_reducible exact hw | with_reducible exact below_drew hw
           rintro e w' ⟨rfl, hw', hx⟩
           first | replace kc := kc.kept hx | replace kc := bk_keptD kc hx
           first | replace ko := ko.kept hx | replace ko := bk_keptD ko hx
           first | replace ki := ki.kept hx | replace ki := bk_keptD ki hx
           replace hw := hw'
           clear hw' hx)
        | (go_at_call 19; with_reducible refine (HRPrimary.out _ ?_).mono ?_
           focus first | with_reducible exact hw | with_reducible exact below_drew hw
           rintro e w' ⟨rfl, hw', hx⟩
           first | replace kc := kc.kept hx | replace kc := bk_keptD kc hx
           first | replace ko := ko.kept hx | replace ko := bk_keptD ko hx
           first | replace ki := ki.kept hx | replace ki := bk_keptD ki hx
           replace hw := hw'
           clear hw' hx)
        | (go_at_call 20; with_reducible refine (HDThere.out _ ?_).mono ?_
           focus first | with_reducible exact hw | with_reducible exact below_drew hw
           rintro e w' ⟨rfl, hw', hx⟩
           first | replace kc := kc.kept hx | replace kc := bk_keptD kc hx
           first | replace ko := ko.kept hx | replace ko := bk_keptD ko hx
           first | replace ki := ki.kept hx | replace ki := bk_keptD ki hx
           replace hw := hw'
           clear hw' hx)
        | (go_at_call 21; with_reducible refine (HRThere.out _ ?_).mono ?_
           focus first | with_reducible exact hw | with_reducible exact below_drew hw
           rintro e w' ⟨rfl, hw', hx⟩
           first | replace kc := kc.kept hx | replace kc := bk_keptD kc hx
           first | replace ko := ko.kept hx | replace ko := bk_keptD ko hx
           first | replace ki := ki.kept hx | replace ki := bk_keptD ki hx
           replace hw := hw'
           clear hw' hx))
  all_goals
    go_wp2_with fail
    go_ret
    exact ⟨rfl, hw⟩

theorem confAnswers_walk (w : World) (v : Value) (x : Cf × List UInt8) (h : InCf w v x) (a : Int) (ha : (Lit.int .i64 a).wf = true) (b : Int) (hb : (Lit.int .i64 b).wf = true) (v2 : Value) (i : Int × Int) (hi : InId w v2 i) :
    Calls Try.prog 3 #[v, .int .i64 a, .int .i64 b, v2] w (Tr w) := by
  obtain ⟨A, n, c, rfl, ⟨⟨A', n', c', e, _, _, hr, _⟩, hl⟩, _⟩ := h
  injection e with e1 e2 e3
  subst e1 e2 e3
  obtain ⟨rfl, _, _⟩ := hi
  exact confAnswers_any _ _ _ _ _ _ A n c x.2 w hr (by have := hr.1; rw [List.length_map] at this; omega) a b i.1 i.2
end Go.Proofs.Ytmeojepffnoceaa
