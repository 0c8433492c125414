/-
  ConfIds: the walk of the law. No statement.
-/
import Derived.Test.YtmeojepffnoceaaConfLaw
import Derived.Test.YtmeojepffnoceaaOpenConf
namespace Go.Proofs.Ytmeojepffnoceaa
open Go.RowKit
set_option linter.unusedVariables false

theorem Cf.ids_there (x : Cf) : ∀ (l : List Int) (a : Int × Int), a ∈ x.ids l → x.there a.1 a.2 = true
  | [], a, h => by cases h
  | ro :: r, a, h => by
    rcases List.mem_append.1 h with h | h
    · unfold idsK at h
      obtain ⟨j, hj, rfl⟩ := List.mem_map.1 h
      have hj := List.mem_range.1 hj
      unfold Cf.there
      rw [decide_eq_true_iff, Cf.cn_eq]
      constructor
      · show (0 : Int) ≤ (j : Int); omega
      · show (j : Int) < (x.cn ro : Int); omega
    · exact Cf.ids_there x r a h
theorem two_cells {w w' : World} {g i : Nat} {a b : Value} (hb : Below w.heap.size w w') (h : w.cell? ⟨g, i, none⟩ = some a ∧ w.cell? ⟨g, i + 1, none⟩ = some b) : w'.cell? ⟨g, i, none⟩ = some a ∧ w'.cell? ⟨g, i + 1, none⟩ = some b :=
  ⟨(hb.cell (cell_lt h.1)).trans h.1, (hb.cell (cell_lt h.2)).trans h.2⟩
theorem two_cellsD {w w' : World} {g i : Nat} {a b : Value} (hb : Below w.drew.heap.size w.drew w') (h : w.cell? ⟨g, i, none⟩ = some a ∧ w.cell? ⟨g, i + 1, none⟩ = some b) : w'.cell? ⟨g, i, none⟩ = some a ∧ w'.cell? ⟨g, i + 1, none⟩ = some b :=
  two_cells (w := w.drew) hb h

set_option maxHeartbeats 6400000 in
theorem confIds_any (u r p wi ev pa : Int) (A : Option Addr) (n c : Nat) (w : World) (B : Option Addr) (m q : Nat) (roles : List Int) (h : Rd w B m (roles.map iv)) :
    Calls Try.prog 4 #[.agg #[.int .i64 u, .int .i64 r, .int .i64 p, .int .i64 wi, .int .i64 ev, .int .i64 pa, .slice A n c], .slice B m q] w (Tr w) := by
  have HK := Lib.hid (Bk.new w 24 [.int .i64 u, .int .i64 r, .int .i64 p, .int .i64 wi, .int .i64 ev, .int .i64 pa, .slice A n c])
  have HB := Lib.hid ((Below.refl w.heap.size w).alloc (Nat.le_refl _) (.cells #[.int .i64 u, .int .i64 r, .int .i64 p, .int .i64 wi, .int .i64 ev, .int .i64 pa, .slice A n c] 24))
  have HA := Lib.hid (alive_ok (w.alloc (.cells #[.int .i64 u, .int .i64 r, .int .i64 p, .int .i64 wi, .int .i64 ev, .int .i64 pa, .slice A n c] 24)))
  have H := Lib.hid h
  have hx : roles.length = m := by simpa using h.1
  have HX := Lib.hid hx
  clear h hx
  go_enter Try.func4, Try.ntmps4
  go_wp2_with fail
  refine HA.out.mono ?_
  rintro e w1 ⟨rfl, hb1⟩
  have HK1 := Lib.hid (HK.out.kept hb1)
  have HB1 := Lib.hid (below_next HB.out hb1 HB.out.size)
  clear hb1
  by_cases hm : (100 : Int) < (m : Int)
  · go_wp2_with fail
    go_ret
    exact ⟨rfl, HB1.out⟩
  have HM := Lib.hid (show m ≤ 100 by omega)
  have HCI := Lib.hid (copyInts_any B m q roles w1 (H.out.below HB1.out) (by omega))
  go_wp2_with fail
  refine HCI.out.mono ?_
  rintro e w2 ⟨⟨B2, q2, rfl, ho2⟩, hb2⟩
  have HK2 := Lib.hid (HK1.out.kept hb2)
  have HB2 := Lib.hid (below_next HB1.out hb2 HB1.out.size)
  have HO2 := Lib.hid ho2
  obtain ⟨c0, c1, c2, c3, c4, c5, c6⟩ := HK2.out.seven
  clear hb2 ho2
  go_wp2_with fail
  refine (ids_any u r p wi ev pa A n c B2 m q2 roles _ HO2.out.rd (by have := HM.out; omega)).mono ?_
  rintro e w3 ⟨A3, n3, k3, rfl, ho3, hb3⟩
  have HK3 := Lib.hid (HK2.out.kept hb3)
  have HB3 := Lib.hid (below_next HB2.out hb3 HB2.out.size)
  have HR3 := Lib.hid (HO2.out.rd.below hb3)
  have HO3 := Lib.hid ho3
  clear hb3 ho3 c0 c1 c2 c3 c4 c5 c6
  obtain ⟨c0, c1, c2, c3, c4, c5, c6⟩ := HK3.out.seven
  go_wp2_with fail
  refine (refIds_any u r p wi ev pa A n c B m q roles _ (H.out.below HB3.out) (by have := HM.out; omega)).mono ?_
  rintro e w4 ⟨A4, n4, k4, rfl, ho4, hb4⟩
  have HK4 := Lib.hid (HK3.out.kept hb4)
  have HB4 := Lib.hid (below_next HB3.out hb4 HB3.out.size)
  have HR4 := Lib.hid (HR3.out.below hb4)
  have HOA := Lib.hid (HO3.out.below hb4)
  have HOB := Lib.hid ho4
  obtain rfl : n3 = n4 := by rw [← ho4.len, ← HO3.out.len]
  have hn3 : n3 ≤ 800 := by have := Cf.ids_len ⟨u, r, p, wi, ev, pa, n⟩ roles; have e1 := ho4.len; have := HX.out; have := HM.out; omega
  clear hb4 ho4 c0 c1 c2 c3 c4 c5 c6
  have HTH := Lib.hid (Cf.ids_there ⟨u, r, p, wi, ev, pa, n⟩ roles)
  have HTC := Lib.hid (fun X a b => there_any u r p wi ev pa A n c X a b)
  generalize Cf.ids ⟨u, r, p, wi, ev, pa, n⟩ roles = ids at *
  generalize Cf.there ⟨u, r, p, wi, ev, pa, n⟩ = there at *
  have HSI := Lib.hid (sameInts_self B2 B m m q2 q w4 roles HR4.out (H.out.below HB4.out) (by have := HM.out; simp only [maxLen]; omega))
  have e33 : ((n3 : Int) != (n3 : Int)) = false := by simp
  go_wp2_with fail
  refine HSI.out.mono ?_
  rintro e w5 ⟨rfl, k5, rfl⟩
  go_wp2_with fail
  go_loopw [8] (fun i wr => ∃ k : Nat, k ≤ n3 ∧ i = .int .i64 k ∧ Below w.heap.size w wr ∧ Bk wr w.heap.size 24 [.int .i64 u, .int .i64 r, .int .i64 p, .int .i64 wi, .int .i64 ev, .int .i64 pa, .slice A n c] ∧ (∃ b, OwnId wr b A3 n3 k3 ids) ∧ ∃ b, OwnId wr b A4 n3 k4 ids) (fun i _ => n3 - (intOf i).toNat)
  case atStart => exact ⟨0, by omega, rfl, below_drewN HB4.out _, HK4.out.drewN _, ⟨_, HOA.out.drewN _⟩, ⟨_, HOB.out.drewN _⟩⟩
  case round =>
    obtain ⟨k, hk, rfl, hw, kc, ⟨b3, o3⟩, ⟨b4, o4⟩⟩ := hrel
    by_cases hlt : k < n3
    · have hkl : k < ids.length := by rw [o3.len]; exact hlt
      have hki := List.getElem?_eq_getElem hkl
      have HT1 := Lib.hid (HTH.out _ (List.getElem_mem hkl))
      obtain ⟨g1, rfl, _, ca⟩ := o3.at_ hki
      obtain ⟨g2, rfl, _, cb⟩ := o4.at_ hki
      generalize ids[k] = t at *
      obtain ⟨t1, t2⟩ := t
      have HT2 := Lib.hid (show there t1 t2 = true from HT1.out)
      have ca : wr.cell? ⟨g1, k * 2, none⟩ = some (.int .i64 t1) ∧ wr.cell? ⟨g1, k * 2 + 1, none⟩ = some (.int .i64 t2) := ca
      have cb : wr.cell? ⟨g2, k * 2, none⟩ = some (.int .i64 t1) ∧ wr.cell? ⟨g2, k * 2 + 1, none⟩ = some (.int .i64 t2) := cb
      have HC := Lib.hid (show ∀ X, Below w.heap.size w X → Calls Try.prog 20 #[.agg #[.int .i64 u, .int .i64 r, .int .i64 p, .int .i64 wi, .int .i64 ev, .int .i64 pa, .slice A n c], .agg #[.int .i64 t1, .int .i64 t2]] X (fun e w' => e = .returned (.bool true) ∧ Below w.heap.size w w' ∧ Below X.heap.size X w') from
        fun X hw => (HTC.out X t1 t2).mono fun e w' h => ⟨by rw [← HT2.out]; exact h.1, below_next hw h.2 hw.size, h.2⟩)
      have y1 : (0 : Int) ≤ (k : Int) := by omega
      have y2 : (k : Int) < (n3 : Int) := by omega
      clear hki hkl
      go_wp2_with fail
      go_region_held3 (fun w' => (w'.cell? ⟨w.heap.size, 0, none⟩ = some (.int .i64 u) ∧ w'.cell? ⟨w.heap.size, 1, none⟩ = some (.int .i64 r) ∧ w'.cell? ⟨w.heap.size, 2, none⟩ = some (.int .i64 p) ∧ w'.cell? ⟨w.heap.size, 3, none⟩ = some (.int .i64 wi) ∧ w'.cell? ⟨w.heap.size, 4, none⟩ = some (.int .i64 ev) ∧ w'.cell? ⟨w.heap.size, 5, none⟩ = some (.int .i64 pa) ∧ w'.cell? ⟨w.heap.size, 6, none⟩ = some (.slice A n c)) ∧ (w'.cell? ⟨g1, k * 2, none⟩ = some (.int .i64 t1) ∧ w'.cell? ⟨g1, k * 2 + 1, none⟩ = some (.int .i64 t2)) ∧ (w'.cell? ⟨g2, k * 2, none⟩ = some (.int .i64 t1) ∧ w'.cell? ⟨g2, k * 2 + 1, none⟩ = some (.int .i64 t2))) (first | with_reducible exact ⟨(bk_drew kc).seven, ca, cb⟩ | with_reducible exact ⟨kc.seven, ca, cb⟩ | exact ⟨(bk_drew kc).seven, ca, cb⟩ | go_keep)
        (first
        | (go_at_call 20; with_reducible refine (HC.out _ ?_).mono ?_
           focus first | with_reducible exact hw | with_reducible exact below_drew hw
           rintro e w' ⟨rfl, hw', hx⟩
           first | replace kc := kc.kept hx | replace kc := bk_keptD kc hx
           first | replace ca := two_cells hx ca | replace ca := two_cellsD hx ca
           first | replace cb := two_cells hx cb | replace cb := two_cellsD hx cb
           first | replace o3 := o3.below hx | replace o3 := own_belowD o3 hx
           first | replace o4 := o4.below hx | replace o4 := own_belowD o4 hx
           replace hw := hw'
           clear hw' hx))
      all_goals
        go_wp2_with fail
        go_roundw
        case rel => exact ⟨k + 1, by omega, by go_num, hw, kc, ⟨_, o3⟩, ⟨_, o4⟩⟩
        case measure => simp [intOf]; omega
    · have y2 : ¬ (k : Int) < (n3 : Int) := by omega
      clear o3 o4
      go_wp2_with fail
      go_ret
      exact ⟨rfl, hw⟩

theorem confIds_walk (w : World) (v : Value) (x : Cf × List UInt8) (h : InCf w v x) (v2 : Value) (l : List Int) (hl : InI w v2 l) : Calls Try.prog 4 #[v, v2] w (Tr w) := by
  obtain ⟨A, n, c, rfl, _, _⟩ := h
  obtain ⟨B, m, q, rfl, _, _, hr, _⟩ := hl
  exact confIds_any _ _ _ _ _ _ A n c w B m q l hr
end Go.Proofs.Ytmeojepffnoceaa
