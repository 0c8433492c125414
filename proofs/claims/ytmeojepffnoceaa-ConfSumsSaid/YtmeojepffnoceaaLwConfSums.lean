/-
  ConfSums: the walk of the law. No statement.
-/
import Derived.Test.YtmeojepffnoceaaLwConfIds
namespace Go.Proofs.Ytmeojepffnoceaa
open Go.RowKit
set_option linter.unusedVariables false

theorem idsK_mem {ro : Int} {k : Nat} {a : Int × Int} (h : a ∈ idsK ro k) : a.1 = ro := by
  unfold idsK at h
  obtain ⟨j, _, rfl⟩ := List.mem_map.1 h
  rfl
theorem idsK_nodup (ro : Int) (k : Nat) : (idsK ro k).Nodup := by
  unfold idsK
  rw [List.nodup_iff_pairwise_ne, List.pairwise_map]
  refine List.Pairwise.imp ?_ (List.nodup_iff_pairwise_ne.1 List.nodup_range)
  intro a b hne e
  injection e with _ e
  exact hne (by omega)
theorem Cf.ids_mem (x : Cf) : ∀ (l : List Int) (a : Int × Int), a ∈ x.ids l → a.1 ∈ l
  | [], a, h => by cases h
  | ro :: r, a, h => by
    rcases List.mem_append.1 h with h | h
    · rw [idsK_mem h]; exact List.mem_cons_self
    · exact List.mem_cons_of_mem _ (Cf.ids_mem x r a h)
theorem Cf.ids_nodup (x : Cf) : ∀ l : List Int, l.Nodup → (x.ids l).Nodup
  | [], _ => List.nodup_nil
  | ro :: r, h => by
    have h' := List.nodup_cons.1 h
    show (idsK ro (x.cn ro) ++ x.ids r).Nodup
    rw [List.nodup_append]
    refine ⟨idsK_nodup _ _, Cf.ids_nodup x r h'.2, fun a ha b hb e => ?_⟩
    subst e
    have e1 := idsK_mem ha
    have e2 := Cf.ids_mem x r a hb
    rw [e1] at e2
    exact h'.1 e2
theorem Cf.ids_four (x : Cf) : (x.ids [1, 2, 3, 4]).length = x.cn 1 + x.cn 2 + x.cn 3 + x.cn 4 := by
  simp [Cf.ids, idsK_len]; omega
theorem Cf.none_iff (x : Cf) : (x.cn 1 + x.cn 2 + x.cn 3 + x.cn 4 = 0 ∧ x.err = 60) ∨ (x.cn 1 + x.cn 2 + x.cn 3 + x.cn 4 ≠ 0 ∧ x.err = 0) := by
  by_cases h : x.Ok
  · right
    refine ⟨?_, by unfold Cf.err; rw [if_pos h]⟩
    have e := Cf.cn_eq x 4
    rw [Cf.count_ok h] at e
    simp at e
    obtain ⟨_, _, _, h4, _⟩ := h
    omega
  · left
    refine ⟨?_, by unfold Cf.err; rw [if_neg h]⟩
    have e : ∀ ro, x.cn ro = 0 := fun ro => by unfold Cf.cn; rw [Cf.count_no h]; rfl
    rw [e, e, e, e]
theorem Cf.there_behind (x : Cf) : x.there 3 (x.cn 3 : Int) = false := by
  unfold Cf.there
  rw [decide_eq_false_iff_not, Cf.cn_eq]; omega
theorem nodup_ne {l : List (Int × Int)} (h : l.Nodup) {i k : Nat} (hi : i < l.length) (hk : k < i) : l[i] ≠ l[k]'(by omega) := by
  intro e
  exact (List.pairwise_iff_getElem.1 (List.nodup_iff_pairwise_ne.1 h) k i (by omega) hi hk) e.symm

set_option maxHeartbeats 12800000 in
set_option maxRecDepth 100000 in
theorem confSums_any (u r p wi ev pa : Int) (A : Option Addr) (n c : Nat) (w : World) :
    Calls Try.prog 7 #[.agg #[.int .i64 u, .int .i64 r, .int .i64 p, .int .i64 wi, .int .i64 ev, .int .i64 pa, .slice A n c]] w (Tr w) := by
  have HK := Lib.hid (Bk.new w 24 [.int .i64 u, .int .i64 r, .int .i64 p, .int .i64 wi, .int .i64 ev, .int .i64 pa, .slice A n c])
  have HB := Lib.hid ((Below.refl w.heap.size w).alloc (Nat.le_refl _) (.cells #[.int .i64 u, .int .i64 r, .int .i64 p, .int .i64 wi, .int .i64 ev, .int .i64 pa, .slice A n c] 24))
  have HA := Lib.hid (alive_ok (w.alloc (.cells #[.int .i64 u, .int .i64 r, .int .i64 p, .int .i64 wi, .int .i64 ev, .int .i64 pa, .slice A n c] 24)))
  have HI := Lib.hid (fun W h => ids_any u r p wi ev pa A n c (some ⟨W, 0, none⟩) 4 4 [1, 2, 3, 4] h)
  have HTH := Lib.hid (Cf.ids_there ⟨u, r, p, wi, ev, pa, n⟩ [1, 2, 3, 4])
  have HTC := Lib.hid (fun X a b => there_any u r p wi ev pa A n c X a b)
  have HND := Lib.hid (Cf.ids_nodup ⟨u, r, p, wi, ev, pa, n⟩ [1, 2, 3, 4] (by decide))
  have HL4 := Lib.hid (Cf.ids_four ⟨u, r, p, wi, ev, pa, n⟩)
  have HNI := Lib.hid (Cf.none_iff ⟨u, r, p, wi, ev, pa, n⟩)
  have HBH := Lib.hid (Cf.there_behind ⟨u, r, p, wi, ev, pa, n⟩)
  have hm1 := Cf.cn_le ⟨u, r, p, wi, ev, pa, n⟩ 1
  have hm2 := Cf.cn_le ⟨u, r, p, wi, ev, pa, n⟩ 2
  have hm3 := Cf.cn_le ⟨u, r, p, wi, ev, pa, n⟩ 3
  have hm4 := Cf.cn_le ⟨u, r, p, wi, ev, pa, n⟩ 4
  generalize hN1 : Cf.cn ⟨u, r, p, wi, ev, pa, n⟩ 1 = N1 at *
  generalize hN2 : Cf.cn ⟨u, r, p, wi, ev, pa, n⟩ 2 = N2 at *
  generalize hN3 : Cf.cn ⟨u, r, p, wi, ev, pa, n⟩ 3 = N3 at *
  generalize hN4 : Cf.cn ⟨u, r, p, wi, ev, pa, n⟩ 4 = N4 at *
  have HC1 := Lib.hid (show ∀ X, Below w.heap.size w X → Calls Try.prog 12 #[.agg #[.int .i64 u, .int .i64 r, .int .i64 p, .int .i64 wi, .int .i64 ev, .int .i64 pa, .slice A n c], .int .i64 1] X (fun e w' => e = .returned (.int .i64 (N1 : Int)) ∧ Below w.heap.size w w' ∧ Below X.heap.size X w') from
    fun X hw => (count_any u r p wi ev pa A n c X 1).mono fun e w' h => ⟨by rw [← hN1, ← Cf.cn_eq]; exact h.1, below_next hw h.2 hw.size, h.2⟩)
  have HC2 := Lib.hid (show ∀ X, Below w.heap.size w X → Calls Try.prog 12 #[.agg #[.int .i64 u, .int .i64 r, .int .i64 p, .int .i64 wi, .int .i64 ev, .int .i64 pa, .slice A n c], .int .i64 2] X (fun e w' => e = .returned (.int .i64 (N2 : Int)) ∧ Below w.heap.size w w' ∧ Below X.heap.size X w') from
    fun X hw => (count_any u r p wi ev pa A n c X 2).mono fun e w' h => ⟨by rw [← hN2, ← Cf.cn_eq]; exact h.1, below_next hw h.2 hw.size, h.2⟩)
  have HC3 := Lib.hid (show ∀ X, Below w.heap.size w X → Calls Try.prog 12 #[.agg #[.int .i64 u, .int .i64 r, .int .i64 p, .int .i64 wi, .int .i64 ev, .int .i64 pa, .slice A n c], .int .i64 3] X (fun e w' => e = .returned (.int .i64 (N3 : Int)) ∧ Below w.heap.size w w' ∧ Below X.heap.size X w') from
    fun X hw => (count_any u r p wi ev pa A n c X 3).mono fun e w' h => ⟨by rw [← hN3, ← Cf.cn_eq]; exact h.1, below_next hw h.2 hw.size, h.2⟩)
  have HC4 := Lib.hid (show ∀ X, Below w.heap.size w X → Calls Try.prog 12 #[.agg #[.int .i64 u, .int .i64 r, .int .i64 p, .int .i64 wi, .int .i64 ev, .int .i64 pa, .slice A n c], .int .i64 4] X (fun e w' => e = .returned (.int .i64 (N4 : Int)) ∧ Below w.heap.size w w' ∧ Below X.heap.size X w') from
    fun X hw => (count_any u r p wi ev pa A n c X 4).mono fun e w' h => ⟨by rw [← hN4, ← Cf.cn_eq]; exact h.1, below_next hw h.2 hw.size, h.2⟩)
  have HCC := Lib.hid (show ∀ X, Below w.heap.size w X → Calls Try.prog 10 #[.agg #[.int .i64 u, .int .i64 r, .int .i64 p, .int .i64 wi, .int .i64 ev, .int .i64 pa, .slice A n c]] X (fun e w' => e = .returned (.int .i64 (Cf.err ⟨u, r, p, wi, ev, pa, n⟩)) ∧ Below w.heap.size w w' ∧ Below X.heap.size X w') from
    fun X hw => (check_any u r p wi ev pa A n c X).mono fun e w' h => ⟨h.1, below_next hw h.2 hw.size, h.2⟩)
  have HCT := Lib.hid (show ∀ X, Below w.heap.size w X → Calls Try.prog 20 #[.agg #[.int .i64 u, .int .i64 r, .int .i64 p, .int .i64 wi, .int .i64 ev, .int .i64 pa, .slice A n c], .agg #[.int .i64 3, .int .i64 (N3 : Int)]] X (fun e w' => e = .returned (.bool false) ∧ Below w.heap.size w w' ∧ Below X.heap.size X w') from
    fun X hw => (HTC.out X 3 N3).mono fun e w' h => ⟨by rw [← HBH.out]; exact h.1, below_next hw h.2 hw.size, h.2⟩)
  clear hN1 hN2 hN3 hN4
  generalize Cf.ids ⟨u, r, p, wi, ev, pa, n⟩ [1, 2, 3, 4] = ids at *
  generalize Cf.there ⟨u, r, p, wi, ev, pa, n⟩ = there at *
  generalize Cf.err ⟨u, r, p, wi, ev, pa, n⟩ = err at *
  go_enter Try.func7, Try.ntmps7
  go_wp2_with fail
  refine HA.out.mono ?_
  rintro e w1 ⟨rfl, hb1⟩
  have HK1 := Lib.hid (HK.out.kept hb1)
  have HB1 := Lib.hid (below_next HB.out hb1 HB.out.size)
  clear hb1
  obtain ⟨c0, c1, c2, c3, c4, c5, c6⟩ := HK1.out.seven
  have HK1' := Lib.hid (HK1.out.alloc (.cells #[.int .i64 1, .int .i64 2, .int .i64 3, .int .i64 4] 3))
  have HB1' := Lib.hid (HB1.out.alloc HB1.out.size (.cells #[.int .i64 1, .int .i64 2, .int .i64 3, .int .i64 4] 3))
  go_wp2_with fail
  refine (HI.out w1.heap.size _ (Rd.new w1 ([1, 2, 3, 4].map iv) 3) (by omega)).mono ?_
  rintro e w3 ⟨A3, n3, k3, rfl, ho3, hb3⟩
  have kc := HK1'.out.kept hb3
  have hw := below_next HB1'.out hb3 HB1'.out.size
  have o3 := ho3
  have HL3 := Lib.hid (show n3 = N1 + N2 + N3 + N4 by rw [← HL4.out]; exact ho3.len.symm)
  have hn32 : n3 ≤ 32 := by have := HL3.out; omega
  clear hb3 ho3 c0 c1 c2 c3 c4 c5 c6
  go_wp2_with fail
  go_region_held3 (fun w' => (w'.cell? ⟨w.heap.size, 0, none⟩ = some (.int .i64 u) ∧ w'.cell? ⟨w.heap.size, 1, none⟩ = some (.int .i64 r) ∧ w'.cell? ⟨w.heap.size, 2, none⟩ = some (.int .i64 p) ∧ w'.cell? ⟨w.heap.size, 3, none⟩ = some (.int .i64 wi) ∧ w'.cell? ⟨w.heap.size, 4, none⟩ = some (.int .i64 ev) ∧ w'.cell? ⟨w.heap.size, 5, none⟩ = some (.int .i64 pa) ∧ w'.cell? ⟨w.heap.size, 6, none⟩ = some (.slice A n c))) (first | with_reducible exact (bk_drew kc).seven | with_reducible exact kc.seven | go_keep)
    (first
      | (go_at_call 12; with_reducible refine (HC1.out _ ?_).mono ?_
         focus first | with_reducible exact hw | with_reducible exact below_drew hw
         rintro e w' ⟨rfl, hw', hx⟩
         first | replace kc := kc.kept hx | replace kc := bk_keptD kc hx
         first | replace o3 := o3.below hx | replace o3 := own_belowD o3 hx
         replace hw := hw'
         clear hw' hx)
      | (go_at_call 12; with_reducible refine (HC2.out _ ?_).mono ?_
         focus first | with_reducible exact hw | with_reducible exact below_drew hw
         rintro e w' ⟨rfl, hw', hx⟩
         first | replace kc := kc.kept hx | replace kc := bk_keptD kc hx
         first | replace o3 := o3.below hx | replace o3 := own_belowD o3 hx
         replace hw := hw'
         clear hw' hx)
      | (go_at_call 12; with_reducible refine (HC3.out _ ?_).mono ?_
         focus first | with_reducible exact hw | with_reducible exact below_drew hw
         rintro e w' ⟨rfl, hw', hx⟩
         first | replace kc := kc.kept hx | replace kc := bk_keptD kc hx
         first | replace o3 := o3.below hx | replace o3 := own_belowD o3 hx
         replace hw := hw'
         clear hw' hx)
      | (go_at_call 12; with_reducible refine (HC4.out _ ?_).mono ?_
         focus first | with_reducible exact hw | with_reducible exact below_drew hw
         rintro e w' ⟨rfl, hw', hx⟩
         first | replace kc := kc.kept hx | replace kc := bk_keptD kc hx
         first | replace o3 := o3.below hx | replace o3 := own_belowD o3 hx
         replace hw := hw'
         clear hw' hx))
  all_goals
    have e42 : IntKind.i64.wrap ((N1 : Int) + (N2 : Int)) = (N1 : Int) + (N2 : Int) := by simp only [IntKind.wrap, IntKind.bits, IntKind.signed]; simp; omega
    have e43 : IntKind.i64.wrap ((N1 : Int) + (N2 : Int) + (N3 : Int)) = (N1 : Int) + (N2 : Int) + (N3 : Int) := by simp only [IntKind.wrap, IntKind.bits, IntKind.signed]; simp; omega
    have e44 : IntKind.i64.wrap ((N1 : Int) + (N2 : Int) + (N3 : Int) + (N4 : Int)) = (n3 : Int) := by have := HL3.out; simp only [IntKind.wrap, IntKind.bits, IntKind.signed]; simp; omega
    simp only [e42, e43, e44]
    clear e42 e43 e44
    have HND2 := Lib.hid (fun (i k : Nat) (hi : i < ids.length) (hk : k < i) => nodup_ne HND.out hi hk)
    go_wp2_with fail
    go_loopw [5] (fun i wr => ∃ k : Nat, k ≤ n3 ∧ i = .int .i64 k ∧ Below w.heap.size w wr ∧ Bk wr w.heap.size 24 [.int .i64 u, .int .i64 r, .int .i64 p, .int .i64 wi, .int .i64 ev, .int .i64 pa, .slice A n c] ∧ ∃ b, OwnId wr b A3 n3 k3 ids) (fun i _ => n3 - (intOf i).toNat)
    case atStart => exact ⟨0, by omega, rfl, hw, kc, _, o3⟩
    case round =>
      clear kc hw o3
      obtain ⟨k, hk, rfl, hw, kc, b3, o3⟩ := hrel
      by_cases hlt : k < n3
      · have hkl : k < ids.length := by rw [o3.len]; exact hlt
        have hki := List.getElem?_eq_getElem hkl
        have HT1 := Lib.hid (HTH.out _ (List.getElem_mem hkl))
        obtain ⟨g1, rfl, _, ca⟩ := o3.at_ hki
        have HNE := Lib.hid hkl
        have hxk : ∀ h, (hh : h < k) → h < ids.length := fun h hh => by omega
        have HXK := Lib.hid hxk
        generalize htd : ids[k] = t at *
        obtain ⟨t1, t2⟩ := t
        have HT2 := Lib.hid (show there t1 t2 = true from HT1.out)
        have HC := Lib.hid (show ∀ X, Below w.heap.size w X → Calls Try.prog 20 #[.agg #[.int .i64 u, .int .i64 r, .int .i64 p, .int .i64 wi, .int .i64 ev, .int .i64 pa, .slice A n c], .agg #[.int .i64 t1, .int .i64 t2]] X (fun e w' => e = .returned (.bool true) ∧ Below w.heap.size w w' ∧ Below X.heap.size X w') from
          fun X hw => (HTC.out X t1 t2).mono fun e w' h => ⟨by rw [← HT2.out]; exact h.1, below_next hw h.2 hw.size, h.2⟩)
        have y1 : (0 : Int) ≤ (k : Int) := by omega
        have y2 : (k : Int) < (n3 : Int) := by omega
        have HKI := Lib.hid (show ids[k]? = some (t1, t2) by rw [hki])
        have HNE2 := Lib.hid (show ∀ h, (hh : h < k) → (hl : h < ids.length) → (t1, t2) ≠ ids[h] from fun h hh hl => by rw [← htd]; exact HND2.out k h hkl hh)
        clear hki htd ca hxk HNE
        go_wp2_with fail
        go_loopw [6] (fun j wx => ∃ h : Nat, h ≤ k ∧ j = .int .i64 h ∧ Below w.heap.size w wx ∧ Bk wx w.heap.size 24 [.int .i64 u, .int .i64 r, .int .i64 p, .int .i64 wi, .int .i64 ev, .int .i64 pa, .slice A n c] ∧ OwnId wx b3 (some ⟨g1, 0, none⟩) n3 k3 ids) (fun j _ => k - (intOf j).toNat)
        case atStart => exact ⟨0, by omega, rfl, hw, kc, o3⟩
        case round =>
          clear kc hw o3
          obtain ⟨h, hh, rfl, hw, kc, o3⟩ := hrel
          obtain ⟨g1', eg, _, ca⟩ := o3.at_ HKI.out
          obtain rfl : g1 = g1' := by injection eg with eg; injection eg
          have ca : wr.cell? ⟨g1, k * 2, none⟩ = some (.int .i64 t1) ∧ wr.cell? ⟨g1, k * 2 + 1, none⟩ = some (.int .i64 t2) := ca
          by_cases hlt2 : h < k
          · have hne := HNE2.out h hlt2 (HXK.out h hlt2)
            obtain ⟨g1', eg', _, cb⟩ := o3.at_ (List.getElem?_eq_getElem (HXK.out h hlt2))
            obtain rfl : g1 = g1' := by injection eg' with eg'; injection eg'
            generalize ids[h]'(HXK.out h hlt2) = s at *
            obtain ⟨s1, s2⟩ := s
            have cb : wr.cell? ⟨g1, h * 2, none⟩ = some (.int .i64 s1) ∧ wr.cell? ⟨g1, h * 2 + 1, none⟩ = some (.int .i64 s2) := cb
            obtain ⟨ca0, ca1⟩ := ca
            obtain ⟨cb0, cb1⟩ := cb
            have z1 : (0 : Int) ≤ (h : Int) := by omega
            have z2 : (h : Int) < (k : Int) := by omega
            have z3 : (h : Int) < (n3 : Int) := by omega
            by_cases h1 : t1 = s1
            · have h2 : (t2 == s2) = false := by rw [beq_eq_false_iff_ne]; intro e; exact hne (by rw [h1, e])
              subst h1
              clear hne
              go_wp2_with fail
              go_quiet (fail)
              go_wp2_with fail
              go_roundw
              case rel => exact ⟨h + 1, by omega, by go_num, below_drewN hw _, kc.drewN _, o3.drewN _⟩
              case measure => simp [intOf]; omega
            · have h2 : (t1 == s1) = false := by rw [beq_eq_false_iff_ne]; exact h1
              clear hne h1
              go_wp2_with fail
              go_quiet (fail)
              go_wp2_with fail
              go_roundw
              case rel => exact ⟨h + 1, by omega, by go_num, below_drewN hw _, kc.drewN _, o3.drewN _⟩
              case measure => simp [intOf]; omega
          · obtain rfl : h = k := by omega
            have z2 : ¬ (h : Int) < (h : Int) := by omega
            go_wp2_with fail
            go_region_held3 (fun w' => (w'.cell? ⟨w.heap.size, 0, none⟩ = some (.int .i64 u) ∧ w'.cell? ⟨w.heap.size, 1, none⟩ = some (.int .i64 r) ∧ w'.cell? ⟨w.heap.size, 2, none⟩ = some (.int .i64 p) ∧ w'.cell? ⟨w.heap.size, 3, none⟩ = some (.int .i64 wi) ∧ w'.cell? ⟨w.heap.size, 4, none⟩ = some (.int .i64 ev) ∧ w'.cell? ⟨w.heap.size, 5, none⟩ = some (.int .i64 pa) ∧ w'.cell? ⟨w.heap.size, 6, none⟩ = some (.slice A n c)) ∧ (w'.cell? ⟨g1, h * 2, none⟩ = some (.int .i64 t1) ∧ w'.cell? ⟨g1, h * 2 + 1, none⟩ = some (.int .i64 t2))) (first | with_reducible exact ⟨(bk_drew kc).seven, ca⟩ | with_reducible exact ⟨kc.seven, ca⟩ | exact ⟨(bk_drew kc).seven, ca⟩ | go_keep)
              (first
              | (go_at_call 20; with_reducible refine (HC.out _ ?_).mono ?_
                 focus first | with_reducible exact hw | with_reducible exact below_drew hw
                 rintro e w' ⟨rfl, hw', hx⟩
                 first | replace kc := kc.kept hx | replace kc := bk_keptD kc hx
                 first | replace o3 := o3.below hx | replace o3 := own_belowD o3 hx
                 first | replace ca := two_cells hx ca | replace ca := two_cellsD hx ca
                 replace hw := hw'
                 clear hw' hx))
            all_goals
              go_wp2_with fail
              go_roundw
              case rel => exact ⟨h + 1, by omega, by go_num, hw, kc, _, o3⟩
              case measure => simp [intOf]; omega
      · have y2 : ¬ (k : Int) < (n3 : Int) := by omega
        obtain rfl : k = n3 := by omega
        have y2 : ¬ (k : Int) < (k : Int) := by omega
        have HNI2 : (k = 0 ∧ err = 60) ∨ (k ≠ 0 ∧ err = 0) := by rw [HL3.out]; exact HNI.out
        clear hm1 hm2 hm3 hm4
        rcases HNI2 with ⟨hz, he⟩ | ⟨hz, he⟩
        · subst he
          have e0 : ((k : Int) == 0) = true := by rw [beq_iff_eq]; omega
          have HZ := Lib.hid hz
          clear hz
          go_wp2_with fail
          go_region_held3 (fun w' => (w'.cell? ⟨w.heap.size, 0, none⟩ = some (.int .i64 u) ∧ w'.cell? ⟨w.heap.size, 1, none⟩ = some (.int .i64 r) ∧ w'.cell? ⟨w.heap.size, 2, none⟩ = some (.int .i64 p) ∧ w'.cell? ⟨w.heap.size, 3, none⟩ = some (.int .i64 wi) ∧ w'.cell? ⟨w.heap.size, 4, none⟩ = some (.int .i64 ev) ∧ w'.cell? ⟨w.heap.size, 5, none⟩ = some (.int .i64 pa) ∧ w'.cell? ⟨w.heap.size, 6, none⟩ = some (.slice A n c))) (first | with_reducible exact (bk_drew kc).seven | with_reducible exact kc.seven | go_keep)
            (first
            | (go_at_call 10; with_reducible refine (HCC.out _ ?_).mono ?_
               focus first | with_reducible exact hw | with_reducible exact below_drew hw
               rintro e w' ⟨rfl, hw', hx⟩
               first | replace kc := kc.kept hx | replace kc := bk_keptD kc hx
               first | replace o3 := o3.below hx | replace o3 := own_belowD o3 hx
               replace hw := hw'
               clear hw' hx)
            | (go_at_call 12; with_reducible refine (HC3.out _ ?_).mono ?_
               focus first | with_reducible exact hw | with_reducible exact below_drew hw
               rintro e w' ⟨rfl, hw', hx⟩
               first | replace kc := kc.kept hx | replace kc := bk_keptD kc hx
               first | replace o3 := o3.below hx | replace o3 := own_belowD o3 hx
               replace hw := hw'
               clear hw' hx)
            | (go_at_call 20; with_reducible refine (HCT.out _ ?_).mono ?_
               focus first | with_reducible exact hw | with_reducible exact below_drew hw
               rintro e w' ⟨rfl, hw', hx⟩
               first | replace kc := kc.kept hx | replace kc := bk_keptD kc hx
               first | replace o3 := o3.below hx | replace o3 := own_belowD o3 hx
               replace hw := hw'
               clear hw' hx))
          all_goals
            go_wp2_with fail
            go_ret
            exact ⟨rfl, hw⟩
        · subst he
          have e0 : ((k : Int) == 0) = false := by rw [beq_eq_false_iff_ne]; omega
          have HZ := Lib.hid hz
          clear hz
          go_wp2_with fail
          go_region_held3 (fun w' => (w'.cell? ⟨w.heap.size, 0, none⟩ = some (.int .i64 u) ∧ w'.cell? ⟨w.heap.size, 1, none⟩ = some (.int .i64 r) ∧ w'.cell? ⟨w.heap.size, 2, none⟩ = some (.int .i64 p) ∧ w'.cell? ⟨w.heap.size, 3, none⟩ = some (.int .i64 wi) ∧ w'.cell? ⟨w.heap.size, 4, none⟩ = some (.int .i64 ev) ∧ w'.cell? ⟨w.heap.size, 5, none⟩ = some (.int .i64 pa) ∧ w'.cell? ⟨w.heap.size, 6, none⟩ = some (.slice A n c))) (first | with_reducible exact (bk_drew kc).seven | with_reducible exact kc.seven | go_keep)
            (first
            | (go_at_call 10; with_reducible refine (HCC.out _ ?_).mono ?_
               focus first | with_reducible exact hw | with_reducible exact below_drew hw
               rintro e w' ⟨rfl, hw', hx⟩
               first | replace kc := kc.kept hx | replace kc := bk_keptD kc hx
               first | replace o3 := o3.below hx | replace o3 := own_belowD o3 hx
               replace hw := hw'
               clear hw' hx)
            | (go_at_call 12; with_reducible refine (HC3.out _ ?_).mono ?_
               focus first | with_reducible exact hw | with_reducible exact below_drew hw
               rintro e w' ⟨rfl, hw', hx⟩
               first | replace kc := kc.kept hx | replace kc := bk_keptD kc hx
               first | replace o3 := o3.below hx | replace o3 := own_belowD o3 hx
               replace hw := hw'
               clear hw' hx)
            | (go_at_call 20; with_reducible refine (HCT.out _ ?_).mono ?_
               focus first | with_reducible exact hw | with_reducible exact below_drew hw
               rintro e w' ⟨rfl, hw', hx⟩
               first | replace kc := kc.kept hx | replace kc := bk_keptD kc hx
               first | replace o3 := o3.below hx | replace o3 := own_belowD o3 hx
               replace hw := hw'
               clear hw' hx))
          all_goals
            go_wp2_with fail
            go_ret
            exact ⟨rfl, hw⟩

theorem confSums_walk (w : World) (v : Value) (x : Cf × List UInt8) (h : InCf w v x) : Calls Try.prog 7 #[v] w (Tr w) := by
  obtain ⟨A, n, c, rfl, _, _⟩ := h
  exact confSums_any _ _ _ _ _ _ A n c w
end Go.Proofs.Ytmeojepffnoceaa
