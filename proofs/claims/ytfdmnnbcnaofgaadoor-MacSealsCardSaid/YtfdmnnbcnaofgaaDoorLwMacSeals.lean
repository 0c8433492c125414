import Derived.Test.YtfdmnnbcnaofgaaDoorMacLaw
import Derived.Test.YtfdmnnbcnaofgaaDoorRefSeal
namespace Go.Proofs.YtfdmnnbcnaofgaaDoor
open Go.RowKit
open Pk Sh
set_option linter.unusedVariables false

/-- a letter in new memory, in the words of the statements -/
theorem freshL_new {f1 f2 r : Int} {x : List UInt8} {X : List (List UInt8)} {m N : Nat} {w Y : World} {e : Ending} {w' : World} (hw : Below w.heap.size w Y) (hx : x.length = m) (hX : X.length = N) (h : FreshL f1 f2 r x X Y e w') :
    ∃ A' c' E' d', e = .returned (.agg #[.int .i64 f1, .int .i64 f2, .int .i64 r, .slice A' m c', .slice E' N d']) ∧ Sl w' A' m c' x ∧ RdRows w' E' N X ∧ Below w.heap.size w w' ∧ Below Y.heap.size Y w' := by
  obtain ⟨A, n, c, E, k, d, he, ho, hr, hb⟩ := h
  have hn : n = m := by rw [← hx, ho.len]
  have hk : k = N := by rw [← hX, hr.1]
  subst hn hk
  exact ⟨A, c, E, d, he, Sl.own ho, hr.rd, below_next hw hb hw.size, hb⟩
theorem sameLetter_new {w : World} {m N : Nat} {x : List UInt8} {L : List (List UInt8)} (hm : m ≤ maxLen) (hN : N ≤ maxLen) (f1 f2 r : Int) (A E A' E' : Option Addr) (c d c' d' : Nat) (X : World) (hw : Below w.heap.size w X) (h : Sl X A m c x) (hr : RdRows X E N L) (h' : Sl X A' m c' x) (hr' : RdRows X E' N L) :
    Calls Tryd.prog 21 #[.agg #[.int .i64 f1, .int .i64 f2, .int .i64 r, .slice A m c, .slice E N d], .agg #[.int .i64 f1, .int .i64 f2, .int .i64 r, .slice A' m c', .slice E' N d']] X (BoolS true w X) :=
  (sameLetter_self f1 f2 r A A' E E' m c m c' N d N d' x L X h.rd h'.rd hr hr' hm hN).mono fun _ _ q => tells_bool hw q

theorem macSeals_early (w : World) (hT : Tab w) (A B D : Option Addr) (n c m d p q : Nat) (f : Int × Int) (r count : Int) (h : 1000 < n + m ∨ 100 < p) (hn : n ≤ 140737488355328) (hm : m ≤ 140737488355328) (hp : p ≤ maxLen) :
    Calls Tryd.prog 5 #[.slice A n c, .agg #[.int .i64 f.1, .int .i64 f.2], .int .i64 r, .int .i64 count, .slice B m d, .slice D p q] w (Tr w) := by
  unfold maxLen at hp
  obtain ⟨f1, f2⟩ := f
  have b0 := (Below.refl w.heap.size w).alloc (Nat.le_refl _) (.cells #[.int .i64 f1, .int .i64 f2] 28)
  have HB0 := Lib.hid b0
  have HA := Lib.hid (alive_ok _ (hT.kept b0))
  clear hT b0
  by_cases h1 : (1000 : Int) < (n : Int) + (m : Int)
  · clear h
    go_enter Tryd.func5, Tryd.ntmps5
    go_wp2_with fail
    refine HA.out.mono ?_
    rintro e w1 ⟨rfl, hb1⟩
    have HB1 := Lib.hid (below_next HB0.out hb1 HB0.out.size)
    clear hb1
    go_wp2_with fail
    go_ret
    exact ⟨rfl, HB1.out⟩
  · have h2 : (100 : Int) < (p : Int) := by omega
    clear h
    go_enter Tryd.func5, Tryd.ntmps5
    go_wp2_with fail
    refine HA.out.mono ?_
    rintro e w1 ⟨rfl, hb1⟩
    have HB1 := Lib.hid (below_next HB0.out hb1 HB0.out.size)
    clear hb1
    go_wp2_with fail
    go_ret
    exact ⟨rfl, HB1.out⟩

set_option maxHeartbeats 4000000 in
set_option maxRecDepth 100000 in
theorem macSeals_main (w : World) (hT : Tab w) (A B D : Option Addr) (n c m d p q : Nat) (s body : List UInt8) (f : Int × Int) (r count : Int) (bad : List Int) (h : Sl w A n c s) (hb : Sl w B m d body) (hi : Rd w D p (bad.map iv)) (hnm : n + m ≤ 1000) (hp : p ≤ 100) :
    Calls Tryd.prog 5 #[.slice A n c, .agg #[.int .i64 f.1, .int .i64 f.2], .int .i64 r, .int .i64 count, .slice B m d, .slice D p q] w (Tr w) := by
  obtain ⟨f1, f2⟩ := f
  have b0 := (Below.refl w.heap.size w).alloc (Nat.le_refl _) (.cells #[.int .i64 f1, .int .i64 f2] 28)
  have HB0 := Lib.hid b0
  have HA := Lib.hid (alive_ok _ (hT.kept b0))
  have h1 : ¬ (1000 : Int) < (n : Int) + (m : Int) := by omega
  have h2 : ¬ (100 : Int) < (p : Int) := by omega
  have HKF := Lib.hid (Bk.new w 28 [.int .i64 f1, .int .i64 f2])
  have hN : upTo count ≤ maxLen := by unfold upTo maxLen; omega
  have HC := Lib.hid (show ∀ X, Below w.heap.size w X → Calls Tryd.prog 14 #[.slice A n c] X (fun e w' => ∃ A' c', e = .returned (.slice A' n c') ∧ Sl w' A' n c' s ∧ Below w.heap.size w w' ∧ Below X.heap.size X w') from fun X hw => copy_new h (by omega) X hw)
  have HSE := Lib.hid (show ∀ A' c' A2 c2 A3 c3 X, Below w.heap.size w X → Sl X A' n c' s → Sl X A2 (m + 8) c2 (body ++ marks 8) → Rd X A3 p (bad.map iv) → Calls Tryd.prog 22 #[.slice A' n c', .agg #[.int .i64 f1, .int .i64 f2], .int .i64 r, .int .i64 count, .slice A2 m c2, .slice A3 p c3] X (fun e w' => ∃ A' c' E' d', e = .returned (.agg #[.int .i64 f1, .int .i64 f2, .int .i64 r, .slice A' m c', .slice E' (upTo count) d']) ∧ Sl w' A' m c' body ∧ RdRows w' E' (upTo count) (tagsN s (f1, f2) r body bad (upTo count)) ∧ Below w.heap.size w w' ∧ Below X.heap.size X w') from
    fun A' c' A2 c2 A3 c3 X hw g1 g2 g3 => (seal_any A' A2 A3 n c' m c2 p c3 s body (f1, f2) r count bad X g1 (g2.front hb.len) g3 (hT.kept hw) (by omega) (by omega) (by omega)).mono fun _ _ k => freshL_new hw hb.len (tagsN_len _ _ _ _ _ _) k)
  have HRS := Lib.hid (show ∀ X, Below w.heap.size w X → Calls Tryd.prog 23 #[.slice A n c, .agg #[.int .i64 f1, .int .i64 f2], .int .i64 r, .int .i64 count, .slice B m d, .slice D p q] X (fun e w' => ∃ A' c' E' d', e = .returned (.agg #[.int .i64 f1, .int .i64 f2, .int .i64 r, .slice A' m c', .slice E' (upTo count) d']) ∧ Sl w' A' m c' body ∧ RdRows w' E' (upTo count) (tagsN s (f1, f2) r body bad (upTo count)) ∧ Below w.heap.size w w' ∧ Below X.heap.size X w') from
    fun X hw => (refSeal_any A B D n c m d p q s body (f1, f2) r count bad X (h.below hw) (hb.below hw) (hi.below hw) (by omega) (by omega) (by omega)).mono fun _ _ k => freshL_new hw hb.len (tagsN_len _ _ _ _ _ _) k)
  have HSL := Lib.hid (show ∀ A' E' A'' E'' c' d' c'' d'' X, Below w.heap.size w X → Sl X A' m c' body → RdRows X E' (upTo count) (tagsN s (f1, f2) r body bad (upTo count)) → Sl X A'' m c'' body → RdRows X E'' (upTo count) (tagsN s (f1, f2) r body bad (upTo count)) →
      Calls Tryd.prog 21 #[.agg #[.int .i64 f1, .int .i64 f2, .int .i64 r, .slice A' m c', .slice E' (upTo count) d'], .agg #[.int .i64 f1, .int .i64 f2, .int .i64 r, .slice A'' m c'', .slice E'' (upTo count) d'']] X (fun e w' => e = .returned (.bool true) ∧ Below w.heap.size w w' ∧ Below X.heap.size X w') from
    fun A' E' A'' E'' c' d' c'' d'' X hw g1 g2 g3 g4 => sameLetter_new (by simp only [maxLen]; omega) hN f1 f2 r A' E' A'' E'' c' d' c'' d'' X hw g1 g2 g3 g4)
  have HP0 := Lib.hid (show ∀ X, Below w.heap.size w X → Calls Tryd.prog 11 #[.slice B m d] X (fun e w' => ∃ g c', e = .returned (.slice (some ⟨g, 0, none⟩) (m + 8) c') ∧ Sl w' (some ⟨g, 0, none⟩) (m + 8) c' (body ++ marks 8) ∧ Below w.heap.size w w' ∧ Below X.heap.size X w') from
    fun X hw => (spare_any B m d body X (hb.below hw).rd (by omega)).mono fun e w' k => by
      obtain ⟨A', n', c', he, ho, hbb⟩ := k
      have hn' : n' = m + 8 := by rw [← ho.len, List.length_append, hb.len, marks_len]
      subst hn'
      obtain ⟨g, rfl, _⟩ := own_at ho (by omega)
      exact ⟨g, c', he, Sl.own ho, below_next hw hbb hw.size, hbb⟩)
  have HS2 := Lib.hid (show ∀ A' c' A'' c'' X, Below w.heap.size w X → Sl X A' (m + 8) c' (body ++ marks 8) → Sl X A'' (m + 8) c'' (body ++ marks 8) → Calls Tryd.prog 12 #[.slice A' (m + 8) c', .slice A'' (m + 8) c''] X (fun e w' => e = .returned (.bool true) ∧ Below w.heap.size w w' ∧ Below X.heap.size X w') from
    fun A' c' A'' c'' X hw f1 f2 => same_new (by simp only [maxLen]; omega) A' A'' (m + 8) c' c'' X hw f1 f2)
  have HSI := Lib.hid (show ∀ A' c' X, Below w.heap.size w X → Rd X A' p (bad.map iv) → Calls Tryd.prog 24 #[.slice A' p c', .slice D p q] X (fun e w' => e = .returned (.bool true) ∧ Below w.heap.size w w' ∧ Below X.heap.size X w') from
    fun A' c' X hw g => (sameInts_self A' D p p c' q X bad g (hi.below hw) (by simp only [maxLen]; omega)).mono fun _ _ k => quiet_bool hw k)
  have HCI := Lib.hid (fun X (hw : Below w.heap.size w X) => copyInts_any D p q bad X (hi.below hw) (by omega))
  clear hT h hb hi b0 hN
  go_enter Tryd.func5, Tryd.ntmps5
  go_wp2_with fail
  refine HA.out.mono ?_
  rintro e w1 ⟨rfl, hb1⟩
  have hw1 : Below w.heap.size w w1 := below_next HB0.out hb1 HB0.out.size
  have HKF1 := Lib.hid (HKF.out.kept hb1)
  clear hb1
  go_wp2_with fail
  refine (HP0.out w1 hw1).mono ?_
  rintro e w2 ⟨g2, c2, rfl, fo2, hw2, hb2⟩
  have HKF2 := Lib.hid (HKF1.out.kept hb2)
  clear hw1 hb2
  go_wp2_with fail
  refine (HCI.out w2 hw2).mono ?_
  rintro e w3 ⟨⟨A3, c3, rfl, hoi⟩, hb3⟩
  have fo : Sl w3 (some ⟨g2, 0, none⟩) (m + 8) c2 (body ++ marks 8) := fo2.below hb3
  have fm : Rd w3 A3 p (bad.map iv) := hoi.rd
  have hw : Below w.heap.size w w3 := below_next hw2 hb3 hw2.size
  have kf : Bk w3 w.heap.size 28 [.int .i64 f1, .int .i64 f2] := HKF2.out.kept hb3
  obtain ⟨ca0, ca1⟩ := kf.two
  have hc2 := fo.1
  have hsl : ∀ wx, (Instr.slice 22 (.slice (some ⟨g2, 0, none⟩) (m + 8) c2) none (some (.int .i64 (m : Int))) none).run Tryd.prog wx = .ok (.slice (some ⟨g2, 0, none⟩) m c2) wx := by
    intro wx
    rw [run_slice_h wx _ _ _ _ (by kernel_rfl) .i64 m (by omega) (by omega)]
    have e : Tryd.prog.elem 22 = 5 := by kernel_rfl
    rw [e, size_u8]
    have e0 : (⟨g2, 0, none⟩ : Addr).add 0 = ⟨g2, 0, none⟩ := at_add g2 0 0
    simp [Result.andThen, sliced, e0]
  have hg1 : (0 : Int) ≤ (m : Int) := by omega
  have hg2 : (m : Int) ≤ (c2 : Int) := by omega
  clear hc2 hb3 hoi hw2 fo2
  go_wp2_with fail
  go_region_held3 (fun w' => w'.cell? ⟨w.heap.size, 0, none⟩ = some (.int .i64 f1) ∧ w'.cell? ⟨w.heap.size, 1, none⟩ = some (.int .i64 f2))
    (first | exact kf.two | go_keep)
    (first
      | (go_at_call 14; with_reducible refine (HC.out _ ?_).mono ?_
         focus first | with_reducible exact hw | with_reducible exact below_drew hw
         rintro e w' ⟨A4, c4, rfl, fc, hw', hx⟩
         first | replace fo := fo.below hx | replace fo := fo.belowD hx | skip
         first | replace fm := fm.below hx | replace fm := fm.belowD hx | skip
         first | replace fc := fc.below hx | replace fc := fc.belowD hx | skip
         first | replace la := la.below hx | replace la := la.belowD hx | skip
         first | replace lt := lt.below hx | replace lt := rows_belowD lt hx | skip
         first | replace ra := ra.below hx | replace ra := ra.belowD hx | skip
         first | replace rt := rt.below hx | replace rt := rows_belowD rt hx | skip
         first | replace fp := fp.below hx | replace fp := fp.belowD hx | skip
         first | replace kf := kf.kept hx | replace kf := bk_keptD kf hx | skip
         replace hw := hw'
         clear hw' hx)
      | (go_at_call 22; with_reducible refine (HSE.out _ _ _ _ _ _ _ ?_ ?_ ?_ ?_).mono ?_
         focus first | with_reducible exact hw | with_reducible exact below_drew hw
         focus first | with_reducible exact fc | with_reducible exact fc.drew
         focus first | with_reducible exact fo | with_reducible exact fo.drew
         focus first | with_reducible exact fm | with_reducible exact fm.drew
         rintro e w' ⟨A5, c5, E5, d5, rfl, la, lt, hw', hx⟩
         first | replace fo := fo.below hx | replace fo := fo.belowD hx | skip
         first | replace fm := fm.below hx | replace fm := fm.belowD hx | skip
         first | replace fc := fc.below hx | replace fc := fc.belowD hx | skip
         first | replace la := la.below hx | replace la := la.belowD hx | skip
         first | replace lt := lt.below hx | replace lt := rows_belowD lt hx | skip
         first | replace ra := ra.below hx | replace ra := ra.belowD hx | skip
         first | replace rt := rt.below hx | replace rt := rows_belowD rt hx | skip
         first | replace fp := fp.below hx | replace fp := fp.belowD hx | skip
         first | replace kf := kf.kept hx | replace kf := bk_keptD kf hx | skip
         replace hw := hw'
         clear hw' hx)
      | (go_at_call 23; with_reducible refine (HRS.out _ ?_).mono ?_
         focus first | with_reducible exact hw | with_reducible exact below_drew hw
         rintro e w' ⟨A6, c6, E6, d6, rfl, ra, rt, hw', hx⟩
         first | replace fo := fo.below hx | replace fo := fo.belowD hx | skip
         first | replace fm := fm.below hx | replace fm := fm.belowD hx | skip
         first | replace fc := fc.below hx | replace fc := fc.belowD hx | skip
         first | replace la := la.below hx | replace la := la.belowD hx | skip
         first | replace lt := lt.below hx | replace lt := rows_belowD lt hx | skip
         first | replace ra := ra.below hx | replace ra := ra.belowD hx | skip
         first | replace rt := rt.below hx | replace rt := rows_belowD rt hx | skip
         first | replace fp := fp.below hx | replace fp := fp.belowD hx | skip
         first | replace kf := kf.kept hx | replace kf := bk_keptD kf hx | skip
         replace hw := hw'
         clear hw' hx)
      | (go_at_call 21; with_reducible refine (HSL.out _ _ _ _ _ _ _ _ _ ?_ ?_ ?_ ?_ ?_).mono ?_
         focus first | with_reducible exact hw | with_reducible exact below_drew hw
         focus first | with_reducible exact la | with_reducible exact la.drew
         focus first | with_reducible exact lt | with_reducible exact rows_drew lt
         focus first | with_reducible exact ra | with_reducible exact ra.drew
         focus first | with_reducible exact rt | with_reducible exact rows_drew rt
         rintro e w' ⟨rfl, hw', hx⟩
         first | replace fo := fo.below hx | replace fo := fo.belowD hx | skip
         first | replace fm := fm.below hx | replace fm := fm.belowD hx | skip
         first | replace fc := fc.below hx | replace fc := fc.belowD hx | skip
         first | replace la := la.below hx | replace la := la.belowD hx | skip
         first | replace lt := lt.below hx | replace lt := rows_belowD lt hx | skip
         first | replace ra := ra.below hx | replace ra := ra.belowD hx | skip
         first | replace rt := rt.below hx | replace rt := rows_belowD rt hx | skip
         first | replace fp := fp.below hx | replace fp := fp.belowD hx | skip
         first | replace kf := kf.kept hx | replace kf := bk_keptD kf hx | skip
         replace hw := hw'
         clear hw' hx)
      | (go_at_call 11; with_reducible refine (HP0.out _ ?_).mono ?_
         focus first | with_reducible exact hw | with_reducible exact below_drew hw
         rintro e w' ⟨g7, c7, rfl, fp, hw', hx⟩
         first | replace fo := fo.below hx | replace fo := fo.belowD hx | skip
         first | replace fm := fm.below hx | replace fm := fm.belowD hx | skip
         first | replace fc := fc.below hx | replace fc := fc.belowD hx | skip
         first | replace la := la.below hx | replace la := la.belowD hx | skip
         first | replace lt := lt.below hx | replace lt := rows_belowD lt hx | skip
         first | replace ra := ra.below hx | replace ra := ra.belowD hx | skip
         first | replace rt := rt.below hx | replace rt := rows_belowD rt hx | skip
         first | replace fp := fp.below hx | replace fp := fp.belowD hx | skip
         first | replace kf := kf.kept hx | replace kf := bk_keptD kf hx | skip
         replace hw := hw'
         clear hw' hx)
      | (go_at_call 12; with_reducible refine (HS2.out _ _ _ _ _ ?_ ?_ ?_).mono ?_
         focus first | with_reducible exact hw | with_reducible exact below_drew hw
         focus first | with_reducible exact fo | with_reducible exact fo.drew
         focus first | with_reducible exact fp | with_reducible exact fp.drew
         rintro e w' ⟨rfl, hw', hx⟩
         first | replace fo := fo.below hx | replace fo := fo.belowD hx | skip
         first | replace fm := fm.below hx | replace fm := fm.belowD hx | skip
         first | replace fc := fc.below hx | replace fc := fc.belowD hx | skip
         first | replace la := la.below hx | replace la := la.belowD hx | skip
         first | replace lt := lt.below hx | replace lt := rows_belowD lt hx | skip
         first | replace ra := ra.below hx | replace ra := ra.belowD hx | skip
         first | replace rt := rt.below hx | replace rt := rows_belowD rt hx | skip
         first | replace fp := fp.below hx | replace fp := fp.belowD hx | skip
         first | replace kf := kf.kept hx | replace kf := bk_keptD kf hx | skip
         replace hw := hw'
         clear hw' hx)
      | (go_at_call 24; with_reducible refine (HSI.out _ _ _ ?_ ?_).mono ?_
         focus first | with_reducible exact hw | with_reducible exact below_drew hw
         focus first | with_reducible exact fm | with_reducible exact fm.drew
         rintro e w' ⟨rfl, hw', hx⟩
         first | replace fo := fo.below hx | replace fo := fo.belowD hx | skip
         first | replace fm := fm.below hx | replace fm := fm.belowD hx | skip
         first | replace fc := fc.below hx | replace fc := fc.belowD hx | skip
         first | replace la := la.below hx | replace la := la.belowD hx | skip
         first | replace lt := lt.below hx | replace lt := rows_belowD lt hx | skip
         first | replace ra := ra.below hx | replace ra := ra.belowD hx | skip
         first | replace rt := rt.below hx | replace rt := rows_belowD rt hx | skip
         first | replace fp := fp.below hx | replace fp := fp.belowD hx | skip
         first | replace kf := kf.kept hx | replace kf := bk_keptD kf hx | skip
         replace hw := hw'
         clear hw' hx))
  all_goals
    go_wp2_with fail
    go_ret
    exact ⟨rfl, hw⟩

theorem macSeals_walk (w : World) (hT : Tab w) (v0 : Value) (s : List UInt8) (h0 : InBs w v0 s) (v1 : Value) (f : Int × Int) (h1 : InId w v1 f) (r : Int) (hr : (Lit.int .i64 r).wf = true) (count : Int) (hc : (Lit.int .i64 count).wf = true) (v4 : Value) (body : List UInt8) (h4 : InBs w v4 body) (v5 : Value) (bad : List Int) (h5 : InI w v5 bad) :
    Calls Tryd.prog 5 #[v0, v1, .int .i64 r, .int .i64 count, v4, v5] w (Tr w) := by
  obtain ⟨⟨A, n, c, rfl, hs⟩, hz0⟩ := h0
  rw [Sl.len (w := w) (A := A) (c := c) hs] at hz0
  obtain ⟨rfl, _, _⟩ := h1
  obtain ⟨⟨B, m, d, rfl, hs2⟩, hz1⟩ := h4
  rw [Sl.len (w := w) (A := B) (c := d) hs2] at hz1
  obtain ⟨D, p, q, rfl, hpq, hqm, hrd, _⟩ := h5
  by_cases h : 1000 < n + m ∨ 100 < p
  · exact macSeals_early w hT A B D n c m d p q f r count h hz0 hz1 (Nat.le_trans hpq hqm)
  · exact macSeals_main w hT A B D n c m d p q s body f r count bad hs hs2 hrd (by omega) (by omega)
end Go.Proofs.YtfdmnnbcnaofgaaDoor
