/-
  The law TreeSteps, walked. A walk; no statement.
-/
import Derived.Test.YtgppclmofphlfaaGreatDoorStepsPlain
import Derived.BigQuiet
import Derived.Deep.CutRange
import Derived.Deep.CutBlock
namespace Go.Proofs.YtgppclmofphlfaaGreatDoor
set_option maxRecDepth 100000
open Go.RowKit
set_option linter.unusedVariables false
set_option maxRecDepth 100000

theorem tOwned_le (os : List Int) (t : List Lf) : (tOwned os t).length ≤ t.length := by
  unfold tOwned
  rw [List.length_map]
  exact Nat.le_trans (List.length_filter_le _ _) (by simp)
theorem TOn.up {F : Nat → Prop} {w0 w : World} {g n m : Nat} {t : List Lf} (h : TOn F w0 g n t w) (hm : n ≤ m) : TOn F w0 g m t w := ⟨h.tree, h.low, h.be, h.ok.more hm⟩
set_option maxHeartbeats 12800000 in
theorem treeSteps_walk (w : World) (hE : Env w) (v : Value) (ops : List To) (hops : InTos w v ops) (p : List UInt8) (hp : (⟨p.toArray⟩ : ByteArray).size ≤ maxLen) (v2 : Value) (os : List Int) (howners : InIn w v2 os) : Calls Tryz.prog 3 #[v, .string ⟨p.toArray⟩, v2] w (Tr w) := by
  obtain ⟨OA, oc, rfl, hos, hol⟩ := howners
  have HOS := Lib.hid hos
  have HOL := Lib.hid hol
  have HPS := Lib.hid (show (⟨p.toArray⟩ : ByteArray).size ≤ maxLen from hp)
  clear hos hol
  obtain ⟨A, c, rfl, hs, hbg⟩ := hops
  have HS := Lib.hid hs
  have HE := Lib.hid hE
  have HL := Lib.hid (alive_ok w hE)
  have HG := Lib.hid (fun X (hX : Below w.heap.size w X) => great_any A c ops X (hs.below hX) hbg)
  clear hs hbg hE
  go_enter Tryz.func3, Tryz.ntmps3
  go_wp2_with fail
  refine HL.out.mono ?_
  rintro e w1 ⟨rfl, hb1⟩
  have HB1 := Lib.hid hb1
  clear hb1 HL
  go_wp2_with fail
  refine (HG.out w1 HB1.out).mono ?_
  rintro e w2 ⟨b, q, rfl, hgr, rfl⟩
  have HB2 := Lib.hid (below_drewN HB1.out q)
  have HGR := Lib.hid hgr
  clear hgr HG HB1
  cases b with
  | true =>
    go_wp2_with fail
    go_ret
    exact ⟨rfl, HB2.out⟩
  | false =>
    by_cases hbp : (1000 : Int) < (p.length : Int)
    · go_wp2_with fail
      go_ret
      exact ⟨rfl, HB2.out⟩
    by_cases hbo : (50 : Int) < (os.length : Int)
    · go_wp2_with fail
      go_ret
      exact ⟨rfl, HB2.out⟩
    have HBIG := Lib.hid (show ∀ o ∈ ops, o.data.length ≤ 140737488355328 from fun o ho => by have h1 := (HGR.out (by first | trivial | rfl)).1; have h2 := (toW_mem ho).2; omega)
    have HN150 := Lib.hid (show ops.length ≤ 150 from (HGR.out (by first | trivial | rfl)).2)
    have HO50 := Lib.hid (show os.length ≤ 50 by omega)
    go_wp2_with fail
    refine (new_any _).mono ?_
    intro e w3 h3
    obtain ⟨g, F0, rfl, t0, -, -⟩ := TOn.of_new HB2.out h3
    have T3 := Lib.hid t0
    clear h3 t0
    go_wp2_with fail
    refine (refNew_any _).mono ?_
    rintro e w4 ⟨hb4, A4, c4, rfl, hr4⟩
    have T4 := Lib.hid (T3.out.kept hb4)
    have HNF := Lib.hid (show ∀ k, F0 k → k < w3.heap.size from fun k hk => (T3.out.low k hk).2)
    obtain ⟨gm, hgm⟩ : ∃ gm, gm = w4.heap.size := ⟨_, rfl⟩
    have HGM := Lib.hid (show w.heap.size ≤ gm by rw [hgm]; exact T4.out.be.size)
    have TN0 := Lib.hid (show TOn F0 w g 0 [lfRoot] (w4.alloc (.cells #[.slice A4 1 c4] 30)) from T4.out.kept ((Below.refl _ w4).alloc (Nat.le_refl _) _))
    have RN0 := Lib.hid (show RefOn F0 gm [lfRoot] (w4.alloc (.cells #[.slice A4 1 c4] 30)) by
      rw [hgm]
      exact RefOn.new (t := [lfRoot]) (fun k hk => (T4.out.low k hk).2) hr4 (fun b hb _ hf => by
        have h1 := HNF.out b hf
        rcases hb with hb | hb
        · exact hb
        · omega))
    have HGW := Lib.hid hgm
    clear hb4 hr4 hgm T3 T4
    go_wp2_with fail
    rw [← HGW.out]
    go_loopw [9] (fun i wr => ∃ (k : Nat) (F : Nat → Prop) (t : List Lf), k ≤ ops.length ∧ i = .int .i64 k ∧ TOn F w g k t wr ∧ RefOn F gm t wr) (fun i _ => ops.length - (intOf i).toNat)
    case atStart => exact ⟨0, _, _, Nat.zero_le _, rfl, TN0.out, RN0.out⟩
    case round =>
      obtain ⟨k, F, t, hk, rfl, tn, rn⟩ := hrel
      have TN := Lib.hid tn
      have RN := Lib.hid rn
      clear tn rn TN0 RN0
      by_cases hlt : k < ops.length
      · obtain ⟨o, ho⟩ : ∃ o, ops[k]? = some o := ⟨_, List.getElem?_eq_getElem hlt⟩
        have HBO := Lib.hid (HBIG.out o (List.mem_of_getElem? ho))
        have HBS := Lib.hid (show o.data.length ≤ 10000 by have h1 := (HGR.out (by first | trivial | rfl)).1; have h2 := (toW_mem (List.mem_of_getElem? ho)).2; omega)
        have HOP := Lib.hid (show (⟨o.path.toArray⟩ : ByteArray).size ≤ maxLen from by
          show o.path.length ≤ maxLen
          have h1 := (HGR.out (by first | trivial | rfl)).1; have h2 := (toW_mem (List.mem_of_getElem? ho)).1; simp only [maxLen]; omega)
        obtain ⟨x, C, rc, rfl, -, c0, c1, c2, c3, c4, c5, c6, hB⟩ := (HS.out.below TN.out.be).to7 ho
        have HDB := Lib.hid (show BF AllB w C rc o.data by
          obtain ⟨x', C', rc', e', -, d0, d1, d2, d3, d4, d5, d6, hB'⟩ := HS.out.to7 ho
          obtain rfl := Option.some.inj e'
          have := cell_kept d5 TN.out.be
          rw [c5] at this
          injection this with this
          injection this with h1 h2 h3
          rw [h1, h3]
          exact hB')
        have y1 : (0 : Int) ≤ (k : Int) := by omega
        have y2 : (k : Int) < (ops.length : Int) := by omega
        have y3 : ops.length ≤ 150 := HN150.out
        have HKL := Lib.hid hlt
        obtain ⟨w4', hw4⟩ : ∃ X, X = wr.alloc (.cells #[.int .i64 o.what, .int .i64 o.own, .int .i64 o.born, .int .i64 o.n, .string ⟨o.path.toArray⟩, .slice C o.data.length rc, .bool o.numd] 34) := ⟨_, rfl⟩
        have HK4 := Lib.hid (show Bk w4' wr.heap.size 34 [.int .i64 o.what, .int .i64 o.own, .int .i64 o.born, .int .i64 o.n, .string ⟨o.path.toArray⟩, .slice C o.data.length rc, .bool o.numd] by rw [hw4]; exact Bk.new wr 34 [.int .i64 o.what, .int .i64 o.own, .int .i64 o.born, .int .i64 o.n, .string ⟨o.path.toArray⟩, .slice C o.data.length rc, .bool o.numd])
        have HB4 := Lib.hid (show Below wr.heap.size wr w4' by rw [hw4]; exact (Below.refl _ wr).alloc (Nat.le_refl _) _)
        have HS4 := Lib.hid (show w4'.heap.size = wr.heap.size + 1 by rw [hw4]; simp)
        have HW4 := Lib.hid hw4
        have HSP := Lib.hid (spare_any C o.data.length rc o.data w4' (HDB.out.below (TN.out.be.trans (HB4.out.mono TN.out.be.size))).rd (by have := HBS.out; omega))
        have HOK := Lib.hid TN.out.ok
        clear hw4 ho hB
        go_wp2_with fail
        rw [← HW4.out]
        refine HSP.out.mono ?_
        rintro e w5 ⟨A5, n5, c5', rfl, ho5, hb5⟩
        have HB45 := Lib.hid (HB4.out.trans (hb5.mono HB4.out.size))
        have HS5 := Lib.hid hb5.size
        have T5 := Lib.hid (TN.out.kept HB45.out)
        have HR5 := Lib.hid ((RN.out.did (F' := Fx F wr.heap.size w5.heap.size) (fun k hk => hk.elim .inl (fun h => .inr h.1)) (Chg.refl _ _)).below HB45.out)
        have HK5 := Lib.hid (HK4.out.kept hb5)
        have HO5 := Lib.hid (show OwnB w5 (wr.heap.size + 1) A5 n5 c5' (o.data ++ marks 8) by have := ho5; rw [HS4.out] at this; exact this)
        have HF5 := Lib.hid (own_front HO5.out)
        have HG5 := Lib.hid (show Gap F wr.heap.size w5.heap.size from Gap.of fun k hk => (TN.out.low k hk).2)
        have HLO := Lib.hid (show ∀ k, F k → k < wr.heap.size from fun k hk => (TN.out.low k hk).2)
        have HAB := Lib.hid (show wr.heap.size < w5.heap.size by have h1 := HS4.out; have h2 := HS5.out; omega)
        have HOW := Lib.hid (show ∀ i, (Value.slice A5 n5 c5').ownBlock = some i → wr.heap.size ≤ i ∧ i < w5.heap.size from fun i e => ⟨by have := HO5.out.block i e; omega, (World.ownsRow.lt HO5.out i e).2⟩)
        have HGL := Lib.hid (show gm < wr.heap.size from RN.out.lt)
        have HWS := Lib.hid (show w.heap.size ≤ wr.heap.size from TN.out.be.size)
        have HL5 := Lib.hid HO5.out.len
        have HN5 := Lib.hid (show n5 = o.data.length + 8 by rw [← HO5.out.len, List.length_append, marks_len])
        have sl := fun X => slice_u8 A5 n5 c5' o.data.length HF5.out.1.1 X
        obtain ⟨q0, q1, q2, q3, q4, q5, q6⟩ : w5.cell? ⟨wr.heap.size, 0, none⟩ = some (.int .i64 o.what) ∧ w5.cell? ⟨wr.heap.size, 1, none⟩ = some (.int .i64 o.own) ∧ w5.cell? ⟨wr.heap.size, 2, none⟩ = some (.int .i64 o.born) ∧ w5.cell? ⟨wr.heap.size, 3, none⟩ = some (.int .i64 o.n) ∧ w5.cell? ⟨wr.heap.size, 4, none⟩ = some (.string ⟨o.path.toArray⟩) ∧ w5.cell? ⟨wr.heap.size, 5, none⟩ = some (.slice C o.data.length rc) ∧ w5.cell? ⟨wr.heap.size, 6, none⟩ = some (.bool o.numd) := ⟨HK5.out.at_ rfl, HK5.out.at_ rfl, HK5.out.at_ rfl, HK5.out.at_ rfl, HK5.out.at_ rfl, HK5.out.at_ rfl, HK5.out.at_ rfl⟩
        clear ho5 hb5 c0 c1 c2 c3 c4 c5 c6 HSP
        go_upto_block 2 with fail
        go_cut [13, 14, 15, 16, 17, 18, 19, 20, 21, 22, 23, 24, 25] from 73 to 167 (fun _ _ _ _ _ _ _ _ _ _ _ _ _ wx => Mid10 w g gm wr.heap.size w5.heap.size (k + 1) [.int .i64 o.what, .int .i64 o.own, .int .i64 o.born, .int .i64 o.n, .string ⟨o.path.toArray⟩, .slice C o.data.length rc, .bool o.numd] A5 n5 c5' (o.data ++ marks 8) wx ∧ w5.heap.size ≤ wx.heap.size)
        case first =>
          by_cases hw1 : o.what = 1
          · have b1 : (o.what == 1) = true := by simp [hw1]
            clear hw1
            obtain ⟨r, hr⟩ : ∃ r, r = tMake o.path o.data o.own o.born o.numd t := ⟨_, rfl⟩
            have HDV := Lib.hid (T5.out.make HE.out o.path A5 c5' o.data (From (wr.heap.size + 1)) o.own o.born o.numd HF5.out (fun k hk _ hf => by have h1 : wr.heap.size + 1 ≤ k := hk; have h2 := HLO.out k hf; omega))
            rw [← hr] at HDV
            have HRE := Lib.hid hr
            clear hr
            have b9 : (r.2.1 != r.2.1) = false := by simp
            have b10 : (r.2.2 != r.2.2) = false := by simp
            go_wp2_with fail
            refine HDV.out.mono ?_
            rintro e w6 ⟨rfl, F6, t6, hF6, hch6⟩
            obtain ⟨r6, k6, o6, g6, b6⟩ := mid_did HR5.out HK5.out HO5.out HG5.out (Nat.le_refl _) HAB.out HOW.out hF6 hch6
            have T6 := Lib.hid t6
            have HR6 := Lib.hid r6
            have HK6 := Lib.hid k6
            have HO6 := Lib.hid o6
            have HG6 := Lib.hid g6
            have HB6 := Lib.hid b6
            have HE6 := Lib.hid t6.be
            obtain ⟨hng, RA, rrc, hrk, hrr⟩ := r6
            have HRR := Lib.hid hrr
            have m6 : w6.cell? ⟨gm, 0, none⟩ = some (.slice RA t.length rrc) := hrk.at_ rfl
            obtain ⟨q0, q1, q2, q3, q4, q5, q6⟩ : w6.cell? ⟨wr.heap.size, 0, none⟩ = some (.int .i64 o.what) ∧ w6.cell? ⟨wr.heap.size, 1, none⟩ = some (.int .i64 o.own) ∧ w6.cell? ⟨wr.heap.size, 2, none⟩ = some (.int .i64 o.born) ∧ w6.cell? ⟨wr.heap.size, 3, none⟩ = some (.int .i64 o.n) ∧ w6.cell? ⟨wr.heap.size, 4, none⟩ = some (.string ⟨o.path.toArray⟩) ∧ w6.cell? ⟨wr.heap.size, 5, none⟩ = some (.slice C o.data.length rc) ∧ w6.cell? ⟨wr.heap.size, 6, none⟩ = some (.bool o.numd) := ⟨k6.at_ rfl, k6.at_ rfl, k6.at_ rfl, k6.at_ rfl, k6.at_ rfl, k6.at_ rfl, k6.at_ rfl⟩
            clear t6 hF6 hch6 k6 o6 g6 b6 hng hrk hrr
            have HRM := Lib.hid (show Calls Tryz.prog 16 #[.agg #[.slice RA t.length rrc], .string ⟨o.path.toArray⟩, .slice C o.data.length rc, .int .i64 o.own, .int .i64 o.born, .bool o.numd] w6 (FreshM (fun k => ¬ Fx F6 wr.heap.size w5.heap.size k ∧ k ≠ gm) r w6) by
              rw [HRE.out]
              exact refMake_any ⟨o.path.toArray⟩ C rc o.data o.own o.born o.numd RA rrc t _ AllB w6 HOP.out HRR.out (HDB.out.below HE6.out) (by have := HOK.out.len; omega) (fun l hl => by have := HOK.out.p64 l hl; simp only [maxLen]; omega))
            go_wp2_with fail
            refine HRM.out.mono ?_
            rintro e w7 ⟨hb7, A7, c7, rfl, hr7⟩
            have HB7 := Lib.hid hb7
            have HR7 := Lib.hid hr7
            have m7 := cell_kept m6 ((hb7.alloc hb7.size (.cells #[.slice A7 r.1.length c7] 30)))
            have z7 : (w7.alloc (.cells #[.slice A7 r.1.length c7] 30)).frozen? ⟨gm, 0, none⟩ = false := by
              obtain ⟨_, _, _, hk8, _⟩ := HR6.out.below (hb7.alloc hb7.size (.cells #[.slice A7 r.1.length c7] 30))
              exact hk8.frozen 0
            clear hb7 hr7 m6 q0 q1 q2 q3 q4 q5 q6
            go_wp2_with fail
            go_meet
            case rel =>
              exact ⟨mid_put (T6.out.up (by omega)) HR6.out HK6.out HO6.out HG6.out HB6.out HOW.out HGL.out HGM.out (HB7.out.alloc HB7.out.size _) (HR7.out.keep (Kp.of_below ((Below.refl _ w7).alloc (Nat.le_refl _) _)) fun k hk _ => hk), by have h1 := HB6.out; have h2 := HB7.out.size; simp; omega⟩
          by_cases hw2 : o.what = 2
          · have b1 : (o.what == 2) = true := by simp [hw2]
            clear hw2
            obtain ⟨r, hr⟩ : ∃ r, r = tDrop o.path o.n t := ⟨_, rfl⟩
            have HDV := Lib.hid (T5.out.drop HE.out o.path o.n)
            rw [← hr] at HDV
            have HRE := Lib.hid hr
            clear hr
            have b9 : (r.2 != r.2) = false := by simp
            go_wp2_with fail
            refine HDV.out.mono ?_
            rintro e w6 ⟨rfl, F6, t6, hF6, hch6⟩
            obtain ⟨r6, k6, o6, g6, b6⟩ := mid_did HR5.out HK5.out HO5.out HG5.out (Nat.le_refl _) HAB.out HOW.out hF6 hch6
            have T6 := Lib.hid t6
            have HR6 := Lib.hid r6
            have HK6 := Lib.hid k6
            have HO6 := Lib.hid o6
            have HG6 := Lib.hid g6
            have HB6 := Lib.hid b6
            have HE6 := Lib.hid t6.be
            obtain ⟨hng, RA, rrc, hrk, hrr⟩ := r6
            have HRR := Lib.hid hrr
            have m6 : w6.cell? ⟨gm, 0, none⟩ = some (.slice RA t.length rrc) := hrk.at_ rfl
            obtain ⟨q0, q1, q2, q3, q4, q5, q6⟩ : w6.cell? ⟨wr.heap.size, 0, none⟩ = some (.int .i64 o.what) ∧ w6.cell? ⟨wr.heap.size, 1, none⟩ = some (.int .i64 o.own) ∧ w6.cell? ⟨wr.heap.size, 2, none⟩ = some (.int .i64 o.born) ∧ w6.cell? ⟨wr.heap.size, 3, none⟩ = some (.int .i64 o.n) ∧ w6.cell? ⟨wr.heap.size, 4, none⟩ = some (.string ⟨o.path.toArray⟩) ∧ w6.cell? ⟨wr.heap.size, 5, none⟩ = some (.slice C o.data.length rc) ∧ w6.cell? ⟨wr.heap.size, 6, none⟩ = some (.bool o.numd) := ⟨k6.at_ rfl, k6.at_ rfl, k6.at_ rfl, k6.at_ rfl, k6.at_ rfl, k6.at_ rfl, k6.at_ rfl⟩
            clear t6 hF6 hch6 k6 o6 g6 b6 hng hrk hrr
            have HRM := Lib.hid (show Calls Tryz.prog 18 #[.agg #[.slice RA t.length rrc], .string ⟨o.path.toArray⟩, .int .i64 o.n] w6 (FreshRf (fun k => ¬ Fx F6 wr.heap.size w5.heap.size k ∧ k ≠ gm) r.1 [.int .i64 r.2] w6) by
              rw [HRE.out]
              exact refDrop_any ⟨o.path.toArray⟩ o.n RA rrc t _ w6 HOP.out HRR.out (by have := HOK.out.len; omega) (fun l hl => by have := HOK.out.p64 l hl; simp only [maxLen]; omega))
            go_wp2_with fail
            refine HRM.out.mono ?_
            rintro e w7 ⟨hb7, A7, c7, rfl, hr7⟩
            have HB7 := Lib.hid hb7
            have HR7 := Lib.hid hr7
            have m7 := cell_kept m6 ((hb7.alloc hb7.size (.cells #[.slice A7 r.1.length c7] 30)))
            have z7 : (w7.alloc (.cells #[.slice A7 r.1.length c7] 30)).frozen? ⟨gm, 0, none⟩ = false := by
              obtain ⟨_, _, _, hk8, _⟩ := HR6.out.below (hb7.alloc hb7.size (.cells #[.slice A7 r.1.length c7] 30))
              exact hk8.frozen 0
            clear hb7 hr7 m6 q0 q1 q2 q3 q4 q5 q6
            go_wp2_with fail
            go_meet
            case rel =>
              exact ⟨mid_put (T6.out.up (by omega)) HR6.out HK6.out HO6.out HG6.out HB6.out HOW.out HGL.out HGM.out (HB7.out.alloc HB7.out.size _) (HR7.out.keep (Kp.of_below ((Below.refl _ w7).alloc (Nat.le_refl _) _)) fun k hk _ => hk), by have h1 := HB6.out; have h2 := HB7.out.size; simp; omega⟩
          by_cases hw3 : o.what = 3
          · have b1 : (o.what == 3) = true := by simp [hw3]
            clear hw3
            obtain ⟨r, hr⟩ : ∃ r, r = tSet o.path o.data o.n t := ⟨_, rfl⟩
            have HDV := Lib.hid (T5.out.set HE.out (by have := HN150.out; omega) o.path A5 c5' o.data (From (wr.heap.size + 1)) o.n HF5.out)
            rw [← hr] at HDV
            have HRE := Lib.hid hr
            clear hr
            have b9 : (r.2.1 != r.2.1) = false := by simp
            have b10 : (r.2.2 != r.2.2) = false := by simp
            go_wp2_with fail
            refine HDV.out.mono ?_
            rintro e w6 ⟨rfl, F6, t6, hF6, hch6⟩
            obtain ⟨r6, k6, o6, g6, b6⟩ := mid_did HR5.out HK5.out HO5.out HG5.out (Nat.le_refl _) HAB.out HOW.out hF6 hch6
            have T6 := Lib.hid t6
            have HR6 := Lib.hid r6
            have HK6 := Lib.hid k6
            have HO6 := Lib.hid o6
            have HG6 := Lib.hid g6
            have HB6 := Lib.hid b6
            have HE6 := Lib.hid t6.be
            obtain ⟨hng, RA, rrc, hrk, hrr⟩ := r6
            have HRR := Lib.hid hrr
            have m6 : w6.cell? ⟨gm, 0, none⟩ = some (.slice RA t.length rrc) := hrk.at_ rfl
            obtain ⟨q0, q1, q2, q3, q4, q5, q6⟩ : w6.cell? ⟨wr.heap.size, 0, none⟩ = some (.int .i64 o.what) ∧ w6.cell? ⟨wr.heap.size, 1, none⟩ = some (.int .i64 o.own) ∧ w6.cell? ⟨wr.heap.size, 2, none⟩ = some (.int .i64 o.born) ∧ w6.cell? ⟨wr.heap.size, 3, none⟩ = some (.int .i64 o.n) ∧ w6.cell? ⟨wr.heap.size, 4, none⟩ = some (.string ⟨o.path.toArray⟩) ∧ w6.cell? ⟨wr.heap.size, 5, none⟩ = some (.slice C o.data.length rc) ∧ w6.cell? ⟨wr.heap.size, 6, none⟩ = some (.bool o.numd) := ⟨k6.at_ rfl, k6.at_ rfl, k6.at_ rfl, k6.at_ rfl, k6.at_ rfl, k6.at_ rfl, k6.at_ rfl⟩
            clear t6 hF6 hch6 k6 o6 g6 b6 hng hrk hrr
            have HRM := Lib.hid (show Calls Tryz.prog 20 #[.agg #[.slice RA t.length rrc], .string ⟨o.path.toArray⟩, .slice C o.data.length rc, .int .i64 o.n] w6 (FreshRf (fun k => ¬ Fx F6 wr.heap.size w5.heap.size k ∧ k ≠ gm) r.1 [.int .i64 r.2.1, .int .i64 r.2.2] w6) by
              rw [HRE.out]
              exact refSet_any ⟨o.path.toArray⟩ C rc o.data o.n RA rrc t _ AllB w6 HOP.out HRR.out (HDB.out.below HE6.out) HBO.out (by have := HOK.out.len; omega))
            go_wp2_with fail
            refine HRM.out.mono ?_
            rintro e w7 ⟨hb7, A7, c7, rfl, hr7⟩
            have HB7 := Lib.hid hb7
            have HR7 := Lib.hid hr7
            have m7 := cell_kept m6 ((hb7.alloc hb7.size (.cells #[.slice A7 r.1.length c7] 30)))
            have z7 : (w7.alloc (.cells #[.slice A7 r.1.length c7] 30)).frozen? ⟨gm, 0, none⟩ = false := by
              obtain ⟨_, _, _, hk8, _⟩ := HR6.out.below (hb7.alloc hb7.size (.cells #[.slice A7 r.1.length c7] 30))
              exact hk8.frozen 0
            clear hb7 hr7 m6 q0 q1 q2 q3 q4 q5 q6
            go_wp2_with fail
            go_meet
            case rel =>
              exact ⟨mid_put (T6.out) HR6.out HK6.out HO6.out HG6.out HB6.out HOW.out HGL.out HGM.out (HB7.out.alloc HB7.out.size _) (HR7.out.keep (Kp.of_below ((Below.refl _ w7).alloc (Nat.le_refl _) _)) fun k hk _ => hk), by have h1 := HB6.out; have h2 := HB7.out.size; simp; omega⟩
          have b1 : (o.what == 1) = false := by simpa using hw1
          have b2 : (o.what == 2) = false := by simpa using hw2
          have b3 : (o.what == 3) = false := by simpa using hw3
          clear hw1 hw2 hw3
          go_wp2_with fail
          go_meet
          case rel => exact ⟨⟨F, t, T5.out.up (by omega), HR5.out, HK5.out, HO5.out, HG5.out, Nat.le_refl _⟩, Nat.le_refl _⟩
        case rest =>
          obtain ⟨⟨FX, t', tn, rn, hk, ho, hg, hb⟩, hbw⟩ := hcut
          have HBW := Lib.hid hbw
          clear hbw
          have T8 := Lib.hid tn
          have HR8 := Lib.hid rn
          have HO8 := Lib.hid ho
          have HG8 := Lib.hid hg
          have HOK := Lib.hid tn.ok
          obtain ⟨q0, q1, q2, q3, q4, q5, q6⟩ : wc.cell? ⟨wr.heap.size, 0, none⟩ = some (.int .i64 o.what) ∧ wc.cell? ⟨wr.heap.size, 1, none⟩ = some (.int .i64 o.own) ∧ wc.cell? ⟨wr.heap.size, 2, none⟩ = some (.int .i64 o.born) ∧ wc.cell? ⟨wr.heap.size, 3, none⟩ = some (.int .i64 o.n) ∧ wc.cell? ⟨wr.heap.size, 4, none⟩ = some (.string ⟨o.path.toArray⟩) ∧ wc.cell? ⟨wr.heap.size, 5, none⟩ = some (.slice C o.data.length rc) ∧ wc.cell? ⟨wr.heap.size, 6, none⟩ = some (.bool o.numd) := ⟨hk.at_ rfl, hk.at_ rfl, hk.at_ rfl, hk.at_ rfl, hk.at_ rfl, hk.at_ rfl, hk.at_ rfl⟩
          have HSP := Lib.hid (spare_any C o.data.length rc o.data wc (HDB.out.below T8.out.be).rd (by have := HBS.out; omega))
          clear tn rn hk ho hg hb
          go_wp2_with fail
          refine HSP.out.mono ?_
          rintro e w9 ⟨A9, n9, c9, rfl, ho9, hb9⟩
          have T9 := Lib.hid (T8.out.kept hb9)
          have HR9 := Lib.hid (HR8.out.below hb9)
          have HO9 := Lib.hid (HO8.out.below hb9)
          have HSB := Lib.hid (show Calls _ _ _ _ (Quiet (.bool true) w9) by
            have := sameBytes_any A5 A9 n5 n9 c5' c9 w9 (o.data ++ marks 8) (o.data ++ marks 8) HO9.out.rd ho9.rd (by have := HN5.out; have := HBS.out; simp only [maxLen]; omega)
            rw [decide_eq_true rfl] at this
            exact this)
          have HS9 := Lib.hid (show w5.heap.size ≤ w9.heap.size from Nat.le_trans HBW.out hb9.size)
          clear ho9 hb9 T8 HR8 HO8 HSP q0 q1 q2 q3 q4 q5 q6
          go_wp2_with fail
          refine HSB.out.mono ?_
          rintro e w9' ⟨rfl, nq9, rfl⟩
          have HXA := Lib.hid (xor_start (HO9.out.drewN nq9))
          have T99 := Lib.hid (T9.out.kept (below_drewN (Below.refl _ _) nq9))
          have HR99 := Lib.hid (HR9.out.below (below_drewN (Below.refl _ _) nq9))
          clear HSB T9 HR9 HO9
          go_wp2_with fail
          go_loopw [26] (fun i wx => ∃ j : Nat, j ≤ n5 ∧ i = .int .i64 j ∧ XorAt (w9.drewN nq9) (wr.heap.size + 1) A5 n5 c5' (o.data ++ marks 8) j wx) (fun i _ => n5 - (intOf i).toNat)
          case atStart => exact ⟨0, Nat.zero_le _, rfl, HXA.out⟩
          case round =>
            rename World => wz
            clear HXA
            obtain ⟨j, hj, rfl, hx⟩ := hrel
            by_cases hjn : j < n5
            · obtain ⟨gx, x, rfl, x0, x1, hnx⟩ := xor_here hx HL5.out hjn
              have HNX := Lib.hid hnx
              unfold bv at x0
              have y5 : (0 : Int) ≤ (j : Int) := by omega
              have y6 : (j : Int) < (n5 : Int) := by omega
              have y7 : (n5 : Int) ≤ 10008 := by have := HN5.out; have := HBS.out; omega
              clear hx hnx
              go_wp2_with fail
              go_roundw
              case rel => exact ⟨j + 1, by omega, by go_num, HNX.out _⟩
              case measure => simp [intOf]; omega
            · have y6 : ¬ (j : Int) < (n5 : Int) := by omega
              obtain ⟨wy, hwy⟩ : ∃ X, X = wz := ⟨_, rfl⟩
              rw [← hwy] at hx ⊢
              clear hwy
              obtain ⟨_, _, _, hch⟩ := hx
              have TA := Lib.hid (T99.out.chg hch (fun i hf e => by have h1 := HOW.out i e; rcases HG8.out i hf with q | q <;> omega) (fun i e => by have h1 := HOW.out i e; have h2 := HWS.out; omega))
              have HRA := Lib.hid (HR99.out.did (F' := Fx FX wr.heap.size w5.heap.size) (fun k hk => .inl hk) (hch.more fun i e => .inl (.inr (HOW.out i e))))
              clear hch T99 HR99
              obtain ⟨gl, hgl⟩ : ∃ l, l = (tGet p t').1.getD lfZero := ⟨_, rfl⟩
              obtain ⟨ge, hge⟩ : ∃ l, l = (tGet p t').2 := ⟨_, rfl⟩
              obtain ⟨ks, hks⟩ : ∃ l, l = (if (tGet p t').2 = 0 then tKids p t' else []) := ⟨_, rfl⟩
              have HGE := Lib.hid hge
              have HGLF := Lib.hid hgl
              have HKSE := Lib.hid hks
              have HLF := Lib.hid (show lfsBig t' from ⟨by have := HOK.out.len; omega, fun l hl => by have := HOK.out.data l hl; omega⟩)
              have HGA := Lib.hid ((TA.out.get HE.out p).mono fun _ _ h => get_one h)
              rw [← hgl, ← hge] at HGA
              clear hgl hge hks
              go_wp2_with fail
              refine HGA.out.mono ?_
              rintro e w10 ⟨A10, c10, rfl, hf10, hb10⟩
              obtain ⟨W10, hW10⟩ : ∃ X, X = w10.alloc (.cells (lfC gl A10 c10).toArray 50) := ⟨_, rfl⟩
              have HB10 := Lib.hid (show Below wy.heap.size wy W10 by rw [hW10]; exact hb10.alloc hb10.size _)
              have HBB10 := Lib.hid (show Below w10.heap.size w10 W10 by rw [hW10]; exact (Below.refl _ w10).alloc (Nat.le_refl _) _)
              have HK10 := Lib.hid (show Bk W10 w10.heap.size 50 (lfC gl A10 c10) by rw [hW10]; exact Bk.new w10 50 (lfC gl A10 c10))
              have HF10 := Lib.hid (hf10.below HBB10.out)
              have HW10 := Lib.hid (show W10 = w10.alloc (.cells #[.string ⟨gl.path.toArray⟩, .slice A10 gl.data.length c10, .int .i64 gl.ver, .int .i64 gl.own, .int .i64 gl.next, .int .i64 gl.born] 50) from hW10)
              have TB := Lib.hid (TA.out.kept HB10.out)
              have HRB := Lib.hid (HRA.out.below HB10.out)
              obtain ⟨hng, RA, rrc, hrk, hrr⟩ := HRB.out
              have HRK := Lib.hid hrk
              have HRR := Lib.hid hrr
              have m10 : W10.cell? ⟨gm, 0, none⟩ = some (.slice RA t'.length rrc) := hrk.at_ rfl
              have HGB := Lib.hid ((show Calls Tryz.prog 23 #[.agg #[.slice RA t'.length rrc], .string ⟨p.toArray⟩] W10 (GetP (tGet p t') W10) from refGet_any ⟨p.toArray⟩ RA rrc t' _ W10 HPS.out hrr HLF.out).mono fun _ _ h => get_one h)
              rw [← HGLF.out, ← HGE.out] at HGB
              have m10s : (w10.alloc (.cells #[.string ⟨gl.path.toArray⟩, .slice A10 gl.data.length c10, .int .i64 gl.ver, .int .i64 gl.own, .int .i64 gl.next, .int .i64 gl.born] 50)).cell? ⟨gm, 0, none⟩ = some (.slice RA t'.length rrc) := by rw [← HW10.out]; exact m10
              clear hW10 hf10 hb10 hng hrk hrr HGA TA HRA m10
              go_wp2_with fail
              rw [← HW10.out]
              clear m10s
              refine HGB.out.mono ?_
              rintro e w11 ⟨A11, c11, rfl, hf11, hb11⟩
              obtain ⟨W11, hW11⟩ : ∃ X, X = w11.alloc (.cells (lfC gl A11 c11).toArray 50) := ⟨_, rfl⟩
              have HB11 := Lib.hid (show Below W10.heap.size W10 W11 by rw [hW11]; exact hb11.alloc hb11.size _)
              have HBB11 := Lib.hid (show Below w11.heap.size w11 W11 by rw [hW11]; exact (Below.refl _ w11).alloc (Nat.le_refl _) _)
              have HK11 := Lib.hid (show Bk W11 w11.heap.size 50 (lfC gl A11 c11) by rw [hW11]; exact Bk.new w11 50 (lfC gl A11 c11))
              have HF11 := Lib.hid (hf11.below HBB11.out)
              have HW11 := Lib.hid (show W11 = w11.alloc (.cells #[.string ⟨gl.path.toArray⟩, .slice A11 gl.data.length c11, .int .i64 gl.ver, .int .i64 gl.own, .int .i64 gl.next, .int .i64 gl.born] 50) from hW11)
              have TC := Lib.hid (TB.out.kept HB11.out)
              have HKC := Lib.hid ((TC.out.kids HE.out p).mono fun _ _ h => kids_one h)
              rw [← HKSE.out, ← HGE.out] at HKC
              clear hW11 hf11 hb11 HGB
              go_wp2_with fail
              rw [← HW11.out]
              refine HKC.out.mono ?_
              rintro e w12 ⟨A12, n12, c12, rfl, ho12, hb12⟩
              have HO12 := Lib.hid ho12
              have HB12 := Lib.hid (HB11.out.trans (hb12.mono HB11.out.size))
              have HB112 := Lib.hid hb12
              have TD := Lib.hid (TC.out.kept hb12)
              have m12 : w12.cell? ⟨gm, 0, none⟩ = some (.slice RA t'.length rrc) := (HRK.out.kept HB12.out).at_ rfl
              have HKD := Lib.hid ((show Calls Tryz.prog 25 #[.agg #[.slice RA t'.length rrc], .string ⟨p.toArray⟩] w12 (KidsP (tGet p t') (tKids p t') w12) from refKidsM_any ⟨p.toArray⟩ RA rrc t' _ w12 HPS.out (HRR.out.below HB12.out) HLF.out (by have := HOK.out.len; omega) (fun l hl => by have := HOK.out.p64 l hl; simp only [maxLen]; omega)).mono fun _ _ h => kids_one h)
              rw [← HKSE.out, ← HGE.out] at HKD
              clear ho12 hb12 HKC
              go_wp2_with fail
              refine HKD.out.mono ?_
              rintro e w13 ⟨A13, n13, c13, rfl, ho13, hb13⟩
              have HO13 := Lib.hid ho13
              have HO123 := Lib.hid (HO12.out.below hb13)
              have HB13 := Lib.hid (HB12.out.trans (hb13.mono HB12.out.size))
              have HB113 := Lib.hid (HB112.out.trans (hb13.mono HB112.out.size))
              have TE := Lib.hid (TD.out.kept hb13)
              have HRE := Lib.hid (HRB.out.below HB13.out)
              have HNK := Lib.hid (show n12 ≤ 32 by
                have h1 := HO12.out.len
                have h2 := HKSE.out
                have h3 := tKids_le p t'
                have h4 := HOK.out.len
                rw [← h1, h2]
                split
                · omega
                · simp)
              have b9 : (ge != ge) = false := by simp
              have HD := Lib.hid (below_drew (Below.refl w13.heap.size w13))
              have HS44 := Lib.hid (fun X (hX : Below w13.heap.size w13 X) => show X.cell? ⟨gm, 0, none⟩ = some (.slice RA t'.length rrc) ∧ X.cell? ⟨w10.heap.size, 0, none⟩ = some (.string ⟨gl.path.toArray⟩) ∧ X.cell? ⟨w10.heap.size, 1, none⟩ = some (.slice A10 gl.data.length c10) ∧ X.cell? ⟨w10.heap.size, 2, none⟩ = some (.int .i64 gl.ver) ∧ X.cell? ⟨w10.heap.size, 3, none⟩ = some (.int .i64 gl.own) ∧ X.cell? ⟨w10.heap.size, 4, none⟩ = some (.int .i64 gl.next) ∧ X.cell? ⟨w10.heap.size, 5, none⟩ = some (.int .i64 gl.born) ∧ X.cell? ⟨w11.heap.size, 0, none⟩ = some (.string ⟨gl.path.toArray⟩) ∧ X.cell? ⟨w11.heap.size, 1, none⟩ = some (.slice A11 gl.data.length c11) ∧ X.cell? ⟨w11.heap.size, 2, none⟩ = some (.int .i64 gl.ver) ∧ X.cell? ⟨w11.heap.size, 3, none⟩ = some (.int .i64 gl.own) ∧ X.cell? ⟨w11.heap.size, 4, none⟩ = some (.int .i64 gl.next) ∧ X.cell? ⟨w11.heap.size, 5, none⟩ = some (.int .i64 gl.born) from
                ⟨(HRK.out.kept (HB13.out.trans (hX.mono HB13.out.size))).at_ rfl, (HK10.out.kept (HB13.out.trans (hX.mono HB13.out.size))).at_ rfl, (HK10.out.kept (HB13.out.trans (hX.mono HB13.out.size))).at_ rfl, (HK10.out.kept (HB13.out.trans (hX.mono HB13.out.size))).at_ rfl, (HK10.out.kept (HB13.out.trans (hX.mono HB13.out.size))).at_ rfl, (HK10.out.kept (HB13.out.trans (hX.mono HB13.out.size))).at_ rfl, (HK10.out.kept (HB13.out.trans (hX.mono HB13.out.size))).at_ rfl, (HK11.out.kept (HB113.out.trans (hX.mono HB113.out.size))).at_ rfl, (HK11.out.kept (HB113.out.trans (hX.mono HB113.out.size))).at_ rfl, (HK11.out.kept (HB113.out.trans (hX.mono HB113.out.size))).at_ rfl, (HK11.out.kept (HB113.out.trans (hX.mono HB113.out.size))).at_ rfl, (HK11.out.kept (HB113.out.trans (hX.mono HB113.out.size))).at_ rfl, (HK11.out.kept (HB113.out.trans (hX.mono HB113.out.size))).at_ rfl⟩)
              clear ho13 hb13 HKD m12 TB TC TD
              go_upto_region 44 with fail
              have HSM := Lib.hid (show Calls Tryz.prog 26 #[.pointer (some ⟨g, 0, none⟩), .agg #[.slice RA t'.length rrc]] w13.drew (Tells (.bool true) w13.drew) by
                have := same_any g t' FX w13.drew (TE.out.kept HD.out).tree (by have := HOK.out.len; omega) HOK.out.p64 HOK.out.d1000 RA rrc t' _ (HRR.out.below (HB13.out.trans (HD.out.mono HB13.out.size)))
                rw [decide_eq_true rfl] at this
                exact this)
              have HSL := Lib.hid (fun X (hX : Below w13.heap.size w13 X) => show Calls Tryz.prog 27 #[.agg #[.string ⟨gl.path.toArray⟩, .slice A10 gl.data.length c10, .int .i64 gl.ver, .int .i64 gl.own, .int .i64 gl.next, .int .i64 gl.born], .agg #[.string ⟨gl.path.toArray⟩, .slice A11 gl.data.length c11, .int .i64 gl.ver, .int .i64 gl.own, .int .i64 gl.next, .int .i64 gl.born]] X (Tells (.bool true) X) by
                have := sameLeaf_any gl gl A10 A11 c10 c11 _ _ X (HF10.out.below (HB13.out.trans (hX.mono HB13.out.size))) (HF11.out.below (HB113.out.trans (hX.mono HB113.out.size)))
                rw [decide_eq_true rfl] at this
                exact this)
              have HTX := Lib.hid (fun X (hX : Below w13.heap.size w13 X) => show Calls Tryz.prog 28 #[.slice A12 n12 c12, .slice A13 n13 c13] X (Quiet (.bool true) X) by
                have := sameTexts_any A12 A13 n12 n13 c12 c13 X ks ks (HO123.out.below hX).rd (HO13.out.below hX).rd (by have := HNK.out; simp only [maxLen]; omega)
                rw [decide_eq_true rfl] at this
                exact this)
              have HOX := Lib.hid (fun X (hX : Below w13.heap.size w13 X) => show Rd X OA os.length (os.map (.int .i64 ·)) from HOS.out.below (TE.out.be.trans (hX.mono TE.out.be.size)))
              have HRO := Lib.hid (fun X (hX : Below w13.heap.size w13 X) => refOwned_any OA oc os RA rrc t' _ X (HRR.out.below (HB13.out.trans (hX.mono HB13.out.size))) (HOX.out X hX) (by have := HO50.out; simp only [maxLen]; omega) (by have := HOK.out.len; omega))
              have HTO := Lib.hid (show (tOwned os t').length ≤ 32 from Nat.le_trans (tOwned_le os t') HOK.out.len)
              refine wp_region_held_drew (S := fun X => X.cell? ⟨gm, 0, none⟩ = some (.slice RA t'.length rrc) ∧ X.cell? ⟨w10.heap.size, 0, none⟩ = some (.string ⟨gl.path.toArray⟩) ∧ X.cell? ⟨w10.heap.size, 1, none⟩ = some (.slice A10 gl.data.length c10) ∧ X.cell? ⟨w10.heap.size, 2, none⟩ = some (.int .i64 gl.ver) ∧ X.cell? ⟨w10.heap.size, 3, none⟩ = some (.int .i64 gl.own) ∧ X.cell? ⟨w10.heap.size, 4, none⟩ = some (.int .i64 gl.next) ∧ X.cell? ⟨w10.heap.size, 5, none⟩ = some (.int .i64 gl.born) ∧ X.cell? ⟨w11.heap.size, 0, none⟩ = some (.string ⟨gl.path.toArray⟩) ∧ X.cell? ⟨w11.heap.size, 1, none⟩ = some (.slice A11 gl.data.length c11) ∧ X.cell? ⟨w11.heap.size, 2, none⟩ = some (.int .i64 gl.ver) ∧ X.cell? ⟨w11.heap.size, 3, none⟩ = some (.int .i64 gl.own) ∧ X.cell? ⟨w11.heap.size, 4, none⟩ = some (.int .i64 gl.next) ∧ X.cell? ⟨w11.heap.size, 5, none⟩ = some (.int .i64 gl.born)) (by kernel_rfl) (HS44.out _ HD.out) (fun hHeld => ?_)
              refine wpAnyH_take (i := 0) (oi := ({ dst := some 210, op := Op.move (Operand.tmp 7), type := 26, pos := "law.go:92", after := #[], guard := none } : Oper)) (v := ?_) rfl (by kernel_rfl) (by kernel_rfl) (by kernel_rfl) (fun _ _ _ h => h) (Or.inl ⟨by rfl, ?_⟩) (by assumption) ?_
              rotate_left
              · intro w hSw; (try dsimp only at hSw); go_simp; first | done | with_reducible rfl
              try simp only [Act.put, List.setIfInBounds_toArray, List.set_cons_zero, List.set_cons_succ]
              refine wpAnyH_take (i := 1) (oi := ({ dst := some 211, op := Op.load 30 (Operand.tmp 8), type := 30, pos := "law.go:92", after := #[], guard := none } : Oper)) (v := ?_) rfl (by kernel_rfl) (by kernel_rfl) (by kernel_rfl) (fun _ _ _ h => h) (Or.inl ⟨by rfl, ?_⟩) (by assumption) ?_
              rotate_left
              · intro w hSw; (try dsimp only at hSw); go_simp; first | done | with_reducible rfl
              try simp only [Act.put, List.setIfInBounds_toArray, List.set_cons_zero, List.set_cons_succ]
              refine wpAnyH_ready (rs := [2]) (by kernel_rfl) (by simp) ?_
              refine AllReadyH.cons (o := ({ dst := some 212, op := Op.call { callee := Callee.value (Operand.func 26), args := #[Operand.tmp 210, Operand.tmp 211], argTypes := #[26, 30] }, type := 4, pos := "law.go:92", after := #[{ on := 0, ground := Ground.data }, { on := 1, ground := Ground.data }], guard := none } : Oper)) rfl (fun K hK => ?_) AllReadyH.nil
              go_simp
              refine HSM.out.mono ?_
              rintro e w14 ⟨rfl, hb14⟩
              have HB14 := Lib.hid (show Below w13.heap.size w13 w14 from HD.out.trans hb14)
              clear hb14
              go_wp2_with fail
              refine hK.out _ _ (HS44.out _ HB14.out) (fun hHeld => ?_)
              clear hK K
              try simp only [Act.put, List.setIfInBounds_toArray, List.set_cons_zero, List.set_cons_succ]
              refine wpAnyH_take (i := 3) (oi := ({ dst := some 213, op := Op.unOp UnOp.not 4 (Operand.tmp 212), type := 4, pos := "law.go:92", after := #[{ on := 2, ground := Ground.data }], guard := none } : Oper)) (v := ?_) rfl (by kernel_rfl) (by kernel_rfl) (by kernel_rfl) (fun _ _ _ h => h) (Or.inl ⟨by rfl, ?_⟩) (by assumption) ?_
              rotate_left
              · intro w hSw; (try dsimp only at hSw); go_simp; first | done | with_reducible rfl
              try simp only [Act.put, List.setIfInBounds_toArray, List.set_cons_zero, List.set_cons_succ]
              refine wpAnyH_take (i := 4) (oi := ({ dst := some 214, op := Op.move (Operand.tmp 213), type := 4, pos := "law.go:92", after := #[{ on := 3, ground := Ground.data }, { on := 2, ground := Ground.chain }], guard := none } : Oper)) (v := ?_) rfl (by kernel_rfl) (by kernel_rfl) (by kernel_rfl) (fun _ _ _ h => h) (Or.inl ⟨by rfl, ?_⟩) (by assumption) ?_
              rotate_left
              · intro w hSw; (try dsimp only at hSw); go_simp; first | done | with_reducible rfl
              try simp only [Act.put, List.setIfInBounds_toArray, List.set_cons_zero, List.set_cons_succ]
              refine wpAnyH_take (i := 5) (oi := ({ dst := some 215, op := Op.load 50 (Operand.tmp 27), type := 50, pos := "law.go:92", after := #[{ on := 4, ground := Ground.guard }], guard := some (4, false) } : Oper)) (v := ?_) rfl (by kernel_rfl) (by kernel_rfl) (by kernel_rfl) (fun _ _ _ h => h) (Or.inl ⟨by rfl, ?_⟩) (by assumption) ?_
              rotate_left
              · intro w hSw; (try dsimp only at hSw); go_simp; first | done | with_reducible rfl
              try simp only [Act.put, List.setIfInBounds_toArray, List.set_cons_zero, List.set_cons_succ]
              refine wpAnyH_take (i := 6) (oi := ({ dst := some 216, op := Op.load 50 (Operand.tmp 29), type := 50, pos := "law.go:92", after := #[{ on := 4, ground := Ground.guard }], guard := some (4, false) } : Oper)) (v := ?_) rfl (by kernel_rfl) (by kernel_rfl) (by kernel_rfl) (fun _ _ _ h => h) (Or.inl ⟨by rfl, ?_⟩) (by assumption) ?_
              rotate_left
              · intro w hSw; (try dsimp only at hSw); go_simp; first | done | with_reducible rfl
              try simp only [Act.put, List.setIfInBounds_toArray, List.set_cons_zero, List.set_cons_succ]
              refine wpAnyH_ready (rs := [7]) (by kernel_rfl) (by simp) ?_
              refine AllReadyH.cons (o := ({ dst := some 217, op := Op.call { callee := Callee.value (Operand.func 27), args := #[Operand.tmp 215, Operand.tmp 216], argTypes := #[50, 50] }, type := 4, pos := "law.go:92", after := #[{ on := 5, ground := Ground.data }, { on := 6, ground := Ground.data }, { on := 4, ground := Ground.chain }, { on := 4, ground := Ground.guard }], guard := some (4, false) } : Oper)) rfl (fun K hK => ?_) AllReadyH.nil
              go_simp
              refine (HSL.out w14 HB14.out).mono ?_
              rintro e w15 ⟨rfl, hb15⟩
              have HB15 := Lib.hid (HB14.out.trans (hb15.mono HB14.out.size))
              clear hb15
              go_wp2_with fail
              refine hK.out _ _ (HS44.out _ HB15.out) (fun hHeld => ?_)
              clear hK K
              try simp only [Act.put, List.setIfInBounds_toArray, List.set_cons_zero, List.set_cons_succ]
              refine wpAnyH_take (i := 8) (oi := ({ dst := some 218, op := Op.unOp UnOp.not 4 (Operand.tmp 217), type := 4, pos := "law.go:92", after := #[{ on := 7, ground := Ground.data }, { on := 4, ground := Ground.guard }], guard := some (4, false) } : Oper)) (v := ?_) rfl (by kernel_rfl) (by kernel_rfl) (by kernel_rfl) (fun _ _ _ h => h) (Or.inl ⟨by rfl, ?_⟩) (by assumption) ?_
              rotate_left
              · intro w hSw; (try dsimp only at hSw); go_simp; first | done | with_reducible rfl
              try simp only [Act.put, List.setIfInBounds_toArray, List.set_cons_zero, List.set_cons_succ]
              refine wpAnyH_take (i := 9) (oi := ({ dst := some 219, op := Op.pick (Operand.tmp 214) (Operand.const (Value.bool true)) (Operand.tmp 218), type := 4, pos := "law.go:92", after := #[{ on := 4, ground := Ground.data }, { on := 8, ground := Ground.data }], guard := none } : Oper)) (v := ?_) rfl (by kernel_rfl) (by kernel_rfl) (by kernel_rfl) (fun _ _ _ h => h) (Or.inl ⟨by rfl, ?_⟩) (by assumption) ?_
              rotate_left
              · intro w hSw; (try dsimp only at hSw); go_simp; first | done | with_reducible rfl
              try simp only [Act.put, List.setIfInBounds_toArray, List.set_cons_zero, List.set_cons_succ]
              refine wpAnyH_take (i := 10) (oi := ({ dst := some 220, op := Op.move (Operand.tmp 219), type := 4, pos := "law.go:92", after := #[{ on := 9, ground := Ground.data }, { on := 7, ground := Ground.chain }], guard := none } : Oper)) (v := ?_) rfl (by kernel_rfl) (by kernel_rfl) (by kernel_rfl) (fun _ _ _ h => h) (Or.inl ⟨by rfl, ?_⟩) (by assumption) ?_
              rotate_left
              · intro w hSw; (try dsimp only at hSw); go_simp; first | done | with_reducible rfl
              try simp only [Act.put, List.setIfInBounds_toArray, List.set_cons_zero, List.set_cons_succ]
              refine wpAnyH_take (i := 11) (oi := ({ dst := some 221, op := Op.move (Operand.tmp 28), type := 36, pos := "law.go:92", after := #[{ on := 10, ground := Ground.guard }], guard := some (10, false) } : Oper)) (v := ?_) rfl (by kernel_rfl) (by kernel_rfl) (by kernel_rfl) (fun _ _ _ h => h) (Or.inl ⟨by rfl, ?_⟩) (by assumption) ?_
              rotate_left
              · intro w hSw; (try dsimp only at hSw); go_simp; first | done | with_reducible rfl
              try simp only [Act.put, List.setIfInBounds_toArray, List.set_cons_zero, List.set_cons_succ]
              refine wpAnyH_take (i := 12) (oi := ({ dst := some 222, op := Op.move (Operand.tmp 30), type := 36, pos := "law.go:92", after := #[{ on := 10, ground := Ground.guard }], guard := some (10, false) } : Oper)) (v := ?_) rfl (by kernel_rfl) (by kernel_rfl) (by kernel_rfl) (fun _ _ _ h => h) (Or.inl ⟨by rfl, ?_⟩) (by assumption) ?_
              rotate_left
              · intro w hSw; (try dsimp only at hSw); go_simp; first | done | with_reducible rfl
              try simp only [Act.put, List.setIfInBounds_toArray, List.set_cons_zero, List.set_cons_succ]
              refine wpAnyH_take (i := 13) (oi := ({ dst := some 223, op := Op.binOp BinOp.neq 36 (Operand.tmp 221) (Operand.tmp 222) 36, type := 4, pos := "law.go:92", after := #[{ on := 11, ground := Ground.data }, { on := 12, ground := Ground.data }, { on := 10, ground := Ground.guard }], guard := some (10, false) } : Oper)) (v := ?_) rfl (by kernel_rfl) (by kernel_rfl) (by kernel_rfl) (fun _ _ _ h => h) (Or.inl ⟨by rfl, ?_⟩) (by assumption) ?_
              rotate_left
              · intro w hSw; (try dsimp only at hSw); go_simp; first | done | with_reducible rfl
              try simp only [Act.put, List.setIfInBounds_toArray, List.set_cons_zero, List.set_cons_succ]
              refine wpAnyH_take (i := 14) (oi := ({ dst := some 224, op := Op.pick (Operand.tmp 220) (Operand.const (Value.bool true)) (Operand.tmp 223), type := 4, pos := "law.go:92", after := #[{ on := 10, ground := Ground.data }, { on := 13, ground := Ground.data }], guard := none } : Oper)) (v := ?_) rfl (by kernel_rfl) (by kernel_rfl) (by kernel_rfl) (fun _ _ _ h => h) (Or.inl ⟨by rfl, ?_⟩) (by assumption) ?_
              rotate_left
              · intro w hSw; (try dsimp only at hSw); go_simp; first | done | with_reducible rfl
              try simp only [Act.put, List.setIfInBounds_toArray, List.set_cons_zero, List.set_cons_succ]
              refine wpAnyH_take (i := 15) (oi := ({ dst := some 225, op := Op.move (Operand.tmp 224), type := 4, pos := "law.go:92", after := #[{ on := 14, ground := Ground.data }, { on := 10, ground := Ground.chain }], guard := none } : Oper)) (v := ?_) rfl (by kernel_rfl) (by kernel_rfl) (by kernel_rfl) (fun _ _ _ h => h) (Or.inl ⟨by rfl, ?_⟩) (by assumption) ?_
              rotate_left
              · intro w hSw; (try dsimp only at hSw); go_simp; first | done | with_reducible rfl
              try simp only [Act.put, List.setIfInBounds_toArray, List.set_cons_zero, List.set_cons_succ]
              refine wpAnyH_take (i := 16) (oi := ({ dst := some 226, op := Op.move (Operand.tmp 31), type := 53, pos := "law.go:92", after := #[{ on := 15, ground := Ground.guard }], guard := some (15, false) } : Oper)) (v := ?_) rfl (by kernel_rfl) (by kernel_rfl) (by kernel_rfl) (fun _ _ _ h => h) (Or.inl ⟨by rfl, ?_⟩) (by assumption) ?_
              rotate_left
              · intro w hSw; (try dsimp only at hSw); go_simp; first | done | with_reducible rfl
              try simp only [Act.put, List.setIfInBounds_toArray, List.set_cons_zero, List.set_cons_succ]
              refine wpAnyH_take (i := 17) (oi := ({ dst := some 227, op := Op.move (Operand.tmp 33), type := 53, pos := "law.go:92", after := #[{ on := 15, ground := Ground.guard }], guard := some (15, false) } : Oper)) (v := ?_) rfl (by kernel_rfl) (by kernel_rfl) (by kernel_rfl) (fun _ _ _ h => h) (Or.inl ⟨by rfl, ?_⟩) (by assumption) ?_
              rotate_left
              · intro w hSw; (try dsimp only at hSw); go_simp; first | done | with_reducible rfl
              try simp only [Act.put, List.setIfInBounds_toArray, List.set_cons_zero, List.set_cons_succ]
              refine wpAnyH_ready (rs := [18]) (by kernel_rfl) (by simp) ?_
              refine AllReadyH.cons (o := ({ dst := some 228, op := Op.call { callee := Callee.value (Operand.func 28), args := #[Operand.tmp 226, Operand.tmp 227], argTypes := #[53, 53] }, type := 4, pos := "law.go:92", after := #[{ on := 16, ground := Ground.data }, { on := 17, ground := Ground.data }, { on := 15, ground := Ground.chain }, { on := 15, ground := Ground.guard }], guard := some (15, false) } : Oper)) rfl (fun K hK => ?_) AllReadyH.nil
              go_simp
              refine (HTX.out w15 HB15.out).mono ?_
              rintro e w16' ⟨rfl, nq1, rfl⟩
              have HB16 := Lib.hid (below_drewN HB15.out nq1)
              go_wp2_with fail
              refine hK.out _ _ (HS44.out _ HB16.out) (fun hHeld => ?_)
              clear hK K
              try simp only [Act.put, List.setIfInBounds_toArray, List.set_cons_zero, List.set_cons_succ]
              refine wpAnyH_take (i := 19) (oi := ({ dst := some 229, op := Op.unOp UnOp.not 4 (Operand.tmp 228), type := 4, pos := "law.go:92", after := #[{ on := 18, ground := Ground.data }, { on := 15, ground := Ground.guard }], guard := some (15, false) } : Oper)) (v := ?_) rfl (by kernel_rfl) (by kernel_rfl) (by kernel_rfl) (fun _ _ _ h => h) (Or.inl ⟨by rfl, ?_⟩) (by assumption) ?_
              rotate_left
              · intro w hSw; (try dsimp only at hSw); go_simp; first | done | with_reducible rfl
              try simp only [Act.put, List.setIfInBounds_toArray, List.set_cons_zero, List.set_cons_succ]
              refine wpAnyH_take (i := 20) (oi := ({ dst := some 230, op := Op.pick (Operand.tmp 225) (Operand.const (Value.bool true)) (Operand.tmp 229), type := 4, pos := "law.go:92", after := #[{ on := 15, ground := Ground.data }, { on := 19, ground := Ground.data }], guard := none } : Oper)) (v := ?_) rfl (by kernel_rfl) (by kernel_rfl) (by kernel_rfl) (fun _ _ _ h => h) (Or.inl ⟨by rfl, ?_⟩) (by assumption) ?_
              rotate_left
              · intro w hSw; (try dsimp only at hSw); go_simp; first | done | with_reducible rfl
              try simp only [Act.put, List.setIfInBounds_toArray, List.set_cons_zero, List.set_cons_succ]
              refine wpAnyH_take (i := 21) (oi := ({ dst := some 231, op := Op.move (Operand.tmp 230), type := 4, pos := "law.go:92", after := #[{ on := 20, ground := Ground.data }, { on := 18, ground := Ground.chain }], guard := none } : Oper)) (v := ?_) rfl (by kernel_rfl) (by kernel_rfl) (by kernel_rfl) (fun _ _ _ h => h) (Or.inl ⟨by rfl, ?_⟩) (by assumption) ?_
              rotate_left
              · intro w hSw; (try dsimp only at hSw); go_simp; first | done | with_reducible rfl
              try simp only [Act.put, List.setIfInBounds_toArray, List.set_cons_zero, List.set_cons_succ]
              refine wpAnyH_take (i := 22) (oi := ({ dst := some 232, op := Op.move (Operand.tmp 32), type := 36, pos := "law.go:92", after := #[{ on := 21, ground := Ground.guard }], guard := some (21, false) } : Oper)) (v := ?_) rfl (by kernel_rfl) (by kernel_rfl) (by kernel_rfl) (fun _ _ _ h => h) (Or.inl ⟨by rfl, ?_⟩) (by assumption) ?_
              rotate_left
              · intro w hSw; (try dsimp only at hSw); go_simp; first | done | with_reducible rfl
              try simp only [Act.put, List.setIfInBounds_toArray, List.set_cons_zero, List.set_cons_succ]
              refine wpAnyH_take (i := 23) (oi := ({ dst := some 233, op := Op.move (Operand.tmp 34), type := 36, pos := "law.go:92", after := #[{ on := 21, ground := Ground.guard }], guard := some (21, false) } : Oper)) (v := ?_) rfl (by kernel_rfl) (by kernel_rfl) (by kernel_rfl) (fun _ _ _ h => h) (Or.inl ⟨by rfl, ?_⟩) (by assumption) ?_
              rotate_left
              · intro w hSw; (try dsimp only at hSw); go_simp; first | done | with_reducible rfl
              try simp only [Act.put, List.setIfInBounds_toArray, List.set_cons_zero, List.set_cons_succ]
              refine wpAnyH_take (i := 24) (oi := ({ dst := some 234, op := Op.binOp BinOp.neq 36 (Operand.tmp 232) (Operand.tmp 233) 36, type := 4, pos := "law.go:92", after := #[{ on := 22, ground := Ground.data }, { on := 23, ground := Ground.data }, { on := 21, ground := Ground.guard }], guard := some (21, false) } : Oper)) (v := ?_) rfl (by kernel_rfl) (by kernel_rfl) (by kernel_rfl) (fun _ _ _ h => h) (Or.inl ⟨by rfl, ?_⟩) (by assumption) ?_
              rotate_left
              · intro w hSw; (try dsimp only at hSw); go_simp; first | done | with_reducible rfl
              try simp only [Act.put, List.setIfInBounds_toArray, List.set_cons_zero, List.set_cons_succ]
              refine wpAnyH_take (i := 25) (oi := ({ dst := some 235, op := Op.pick (Operand.tmp 231) (Operand.const (Value.bool true)) (Operand.tmp 234), type := 4, pos := "law.go:92", after := #[{ on := 21, ground := Ground.data }, { on := 24, ground := Ground.data }], guard := none } : Oper)) (v := ?_) rfl (by kernel_rfl) (by kernel_rfl) (by kernel_rfl) (fun _ _ _ h => h) (Or.inl ⟨by rfl, ?_⟩) (by assumption) ?_
              rotate_left
              · intro w hSw; (try dsimp only at hSw); go_simp; first | done | with_reducible rfl
              try simp only [Act.put, List.setIfInBounds_toArray, List.set_cons_zero, List.set_cons_succ]
              refine wpAnyH_take (i := 26) (oi := ({ dst := some 236, op := Op.move (Operand.tmp 235), type := 4, pos := "law.go:92", after := #[{ on := 25, ground := Ground.data }, { on := 21, ground := Ground.chain }], guard := none } : Oper)) (v := ?_) rfl (by kernel_rfl) (by kernel_rfl) (by kernel_rfl) (fun _ _ _ h => h) (Or.inl ⟨by rfl, ?_⟩) (by assumption) ?_
              rotate_left
              · intro w hSw; (try dsimp only at hSw); go_simp; first | done | with_reducible rfl
              try simp only [Act.put, List.setIfInBounds_toArray, List.set_cons_zero, List.set_cons_succ]
              refine wpAnyH_take (i := 27) (oi := ({ dst := some 237, op := Op.move (Operand.tmp 7), type := 26, pos := "law.go:92", after := #[{ on := 26, ground := Ground.guard }], guard := some (26, false) } : Oper)) (v := ?_) rfl (by kernel_rfl) (by kernel_rfl) (by kernel_rfl) (fun _ _ _ h => h) (Or.inl ⟨by rfl, ?_⟩) (by assumption) ?_
              rotate_left
              · intro w hSw; (try dsimp only at hSw); go_simp; first | done | with_reducible rfl
              try simp only [Act.put, List.setIfInBounds_toArray, List.set_cons_zero, List.set_cons_succ]
              refine wpAnyH_take (i := 28) (oi := ({ dst := some 238, op := Op.move (Operand.tmp 2), type := 23, pos := "law.go:92", after := #[{ on := 26, ground := Ground.guard }], guard := some (26, false) } : Oper)) (v := ?_) rfl (by kernel_rfl) (by kernel_rfl) (by kernel_rfl) (fun _ _ _ h => h) (Or.inl ⟨by rfl, ?_⟩) (by assumption) ?_
              rotate_left
              · intro w hSw; (try dsimp only at hSw); go_simp; first | done | with_reducible rfl
              try simp only [Act.put, List.setIfInBounds_toArray, List.set_cons_zero, List.set_cons_succ]
              refine wpAnyH_take (i := 31) (oi := ({ dst := some 241, op := Op.load 30 (Operand.tmp 8), type := 30, pos := "law.go:92", after := #[{ on := 26, ground := Ground.guard }], guard := some (26, false) } : Oper)) (v := ?_) rfl (by kernel_rfl) (by kernel_rfl) (by kernel_rfl) (fun _ _ _ h => h) (Or.inl ⟨by rfl, ?_⟩) (by assumption) ?_
              rotate_left
              · intro w hSw; (try dsimp only at hSw); go_simp; first | done | with_reducible rfl
              try simp only [Act.put, List.setIfInBounds_toArray, List.set_cons_zero, List.set_cons_succ]
              refine wpAnyH_take (i := 32) (oi := ({ dst := some 242, op := Op.move (Operand.tmp 2), type := 23, pos := "law.go:92", after := #[{ on := 26, ground := Ground.guard }], guard := some (26, false) } : Oper)) (v := ?_) rfl (by kernel_rfl) (by kernel_rfl) (by kernel_rfl) (fun _ _ _ h => h) (Or.inl ⟨by rfl, ?_⟩) (by assumption) ?_
              rotate_left
              · intro w hSw; (try dsimp only at hSw); go_simp; first | done | with_reducible rfl
              try simp only [Act.put, List.setIfInBounds_toArray, List.set_cons_zero, List.set_cons_succ]
              refine wpAnyH_ready (rs := [29]) (by kernel_rfl) (by simp) ?_
              refine AllReadyH.cons (o := ({ dst := some 239, op := Op.call { callee := Callee.value (Operand.func 30), args := #[Operand.tmp 238], argTypes := #[23] }, type := 23, pos := "law.go:92", after := #[{ on := 28, ground := Ground.data }, { on := 26, ground := Ground.chain }, { on := 26, ground := Ground.guard }], guard := some (26, false) } : Oper)) rfl (fun K hK => ?_) AllReadyH.nil
              go_simp
              refine (copyInts_any OA os.length oc os (w15.drewN nq1) (HOX.out _ HB16.out) (by have := HO50.out; omega)).mono ?_
              rintro e w17 ⟨⟨A17, c17, rfl, ho17⟩, hb17⟩
              have HB17 := Lib.hid (HB16.out.trans (hb17.mono HB16.out.size))
              have HOW17 := Lib.hid ((TE.out.kept HB17.out).owned A17 c17 os ho17.rd (by have := HO50.out; simp only [maxLen]; omega))
              clear hb17 ho17
              go_wp2_with fail
              refine hK.out _ _ (HS44.out _ HB17.out) (fun hHeld => ?_)
              clear hK K
              try simp only [Act.put, List.setIfInBounds_toArray, List.set_cons_zero, List.set_cons_succ]
              refine wpAnyH_ready (rs := [30]) (by kernel_rfl) (by simp) ?_
              refine AllReadyH.cons (o := ({ dst := some 240, op := Op.call { callee := Callee.value (Operand.func 29), args := #[Operand.tmp 237, Operand.tmp 239], argTypes := #[26, 23] }, type := 53, pos := "law.go:92", after := #[{ on := 27, ground := Ground.data }, { on := 29, ground := Ground.data }, { on := 29, ground := Ground.chain }, { on := 26, ground := Ground.guard }], guard := some (26, false) } : Oper)) rfl (fun K hK => ?_) AllReadyH.nil
              go_simp
              refine HOW17.out.mono ?_
              rintro e w18 ⟨A18, n18, c18, rfl, ho18, hb18⟩
              have HB18 := Lib.hid (HB17.out.trans (hb18.mono HB17.out.size))
              have HO18 := Lib.hid ho18
              clear hb18 ho18 HOW17
              go_wp2_with fail
              refine hK.out _ _ (HS44.out _ HB18.out) (fun hHeld => ?_)
              clear hK K
              try simp only [Act.put, List.setIfInBounds_toArray, List.set_cons_zero, List.set_cons_succ]
              refine wpAnyH_ready (rs := [33]) (by kernel_rfl) (by simp) ?_
              refine AllReadyH.cons (o := ({ dst := some 243, op := Op.call { callee := Callee.value (Operand.func 31), args := #[Operand.tmp 241, Operand.tmp 242], argTypes := #[30, 23] }, type := 53, pos := "law.go:92", after := #[{ on := 31, ground := Ground.data }, { on := 32, ground := Ground.data }, { on := 30, ground := Ground.chain }, { on := 26, ground := Ground.guard }], guard := some (26, false) } : Oper)) rfl (fun K hK => ?_) AllReadyH.nil
              go_simp
              refine (HRO.out w18 HB18.out).mono ?_
              rintro e w19 ⟨A19, n19, c19, rfl, ho19, hb19⟩
              have HB19 := Lib.hid (HB18.out.trans (hb19.mono HB18.out.size))
              have HTY := Lib.hid (show Calls Tryz.prog 28 #[.slice A18 n18 c18, .slice A19 n19 c19] w19 (Quiet (.bool true) w19) by
                have := sameTexts_any A18 A19 n18 n19 c18 c19 w19 (tOwned os t') (tOwned os t') (HO18.out.below hb19).rd ho19.rd (by rw [← HO18.out.len]; have := HTO.out; simp only [maxLen]; omega)
                rw [decide_eq_true rfl] at this
                exact this)
              clear hb19 ho19 HO18
              go_wp2_with fail
              refine hK.out _ _ (HS44.out _ HB19.out) (fun hHeld => ?_)
              clear hK K
              try simp only [Act.put, List.setIfInBounds_toArray, List.set_cons_zero, List.set_cons_succ]
              refine wpAnyH_ready (rs := [34]) (by kernel_rfl) (by simp) ?_
              refine AllReadyH.cons (o := ({ dst := some 244, op := Op.call { callee := Callee.value (Operand.func 28), args := #[Operand.tmp 240, Operand.tmp 243], argTypes := #[53, 53] }, type := 4, pos := "law.go:92", after := #[{ on := 30, ground := Ground.data }, { on := 33, ground := Ground.data }, { on := 33, ground := Ground.chain }, { on := 26, ground := Ground.guard }], guard := some (26, false) } : Oper)) rfl (fun K hK => ?_) AllReadyH.nil
              go_simp
              refine HTY.out.mono ?_
              rintro e w20' ⟨rfl, nq2, rfl⟩
              have HB20 := Lib.hid (below_drewN HB19.out nq2)
              go_wp2_with fail
              refine hK.out _ _ (HS44.out _ HB20.out) (fun hHeld => ?_)
              clear hK K
              try simp only [Act.put, List.setIfInBounds_toArray, List.set_cons_zero, List.set_cons_succ]
              refine wpAnyH_take (i := 35) (oi := ({ dst := some 245, op := Op.unOp UnOp.not 4 (Operand.tmp 244), type := 4, pos := "law.go:92", after := #[{ on := 34, ground := Ground.data }, { on := 26, ground := Ground.guard }], guard := some (26, false) } : Oper)) (v := ?_) rfl (by kernel_rfl) (by kernel_rfl) (by kernel_rfl) (fun _ _ _ h => h) (Or.inl ⟨by rfl, ?_⟩) (by assumption) ?_
              rotate_left
              · intro w hSw; (try dsimp only at hSw); go_simp; first | done | with_reducible rfl
              try simp only [Act.put, List.setIfInBounds_toArray, List.set_cons_zero, List.set_cons_succ]
              refine wpAnyH_take (i := 36) (oi := ({ dst := some 246, op := Op.pick (Operand.tmp 236) (Operand.const (Value.bool true)) (Operand.tmp 245), type := 4, pos := "law.go:92", after := #[{ on := 26, ground := Ground.data }, { on := 35, ground := Ground.data }], guard := none } : Oper)) (v := ?_) rfl (by kernel_rfl) (by kernel_rfl) (by kernel_rfl) (fun _ _ _ h => h) (Or.inl ⟨by rfl, ?_⟩) (by assumption) ?_
              rotate_left
              · intro w hSw; (try dsimp only at hSw); go_simp; first | done | with_reducible rfl
              try simp only [Act.put, List.setIfInBounds_toArray, List.set_cons_zero, List.set_cons_succ]
              refine wpAnyH_done (by kernel_rfl) ?_ _
              go_wp2_with fail
              go_roundw
              case rel => exact ⟨k + 1, FX, t', by have := HKL.out; omega, by go_num, TE.out.kept HB20.out, (HRE.out.below HB20.out).less fun k hk => .inl hk⟩
              case measure => have := HKL.out; simp [intOf]; omega
      · obtain rfl : k = ops.length := by omega
        have HBE := Lib.hid TN.out.be
        clear hk hlt
        go_wp2_with fail
        go_ret
        exact ⟨rfl, HBE.out⟩

end Go.Proofs.YtgppclmofphlfaaGreatDoor
