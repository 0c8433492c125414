/-
  The reference's Make where the path is taken as it is. Walks; no statement.
-/
import Derived.Test.YtgppclmofphlfaaGreatDoorTreeRef4
namespace Go.Proofs.YtgppclmofphlfaaGreatDoor
set_option maxRecDepth 100000
open Go.RowKit
set_option linter.unusedVariables false
set_option maxHeartbeats 6400000 in
theorem refMake_0 (p : ByteArray) (DA : Option Addr) (DC : Nat) (data : List UInt8) (own born : Int) (A : Option Addr) (c : Nat) (t : List Lf) (F G : Nat → Prop) (w : World)
    (hp : p.size ≤ maxLen) (h : RdS RLf F w A c t) (hd : BF G w DA DC data) (hn : t.length ≤ 1000) (hsz : ∀ l ∈ t, l.path.length ≤ maxLen) :
    Calls Tryz.prog 16 #[.agg #[.slice A t.length c], .string p, .slice DA data.length DC, .int .i64 own, .int .i64 born, .bool false] w (FreshM F (tMake p.data.toList data own born false t) w) := by
  obtain ⟨q, rfl⟩ : ∃ l : List UInt8, p = ⟨l.toArray⟩ := ⟨p.data.toList, (sv_of p).symm⟩
  show Calls _ _ _ _ (FreshM F (tMake q data own born false t) w)
  obtain ⟨W2, hW2⟩ : ∃ W2, W2 = (w.alloc (.cells #[.slice A t.length c] 30)).alloc (.cells #[.slice none 0 0] 30) := ⟨_, rfl⟩
  have HB2 := Lib.hid (show Below w.heap.size w W2 by rw [hW2]; exact ((Below.refl w.heap.size w).alloc (Nat.le_refl _) _).alloc (by simp) _)
  have HS2 := Lib.hid (show W2.heap.size = w.heap.size + 2 by rw [hW2]; simp)
  have hk0 : Bk W2 w.heap.size 30 [.slice A t.length c] := by rw [hW2]; exact (Bk.new w 30 [.slice A t.length c]).alloc _
  have hk1 : Bk W2 (w.heap.size + 1) 30 [.slice none 0 0] := by
    rw [hW2]
    have := Bk.new (w.alloc (.cells #[.slice A t.length c] 30)) 30 [.slice none 0 0]
    rw [show (w.alloc (.cells #[.slice A t.length c] 30)).heap.size = w.heap.size + 1 by simp] at this
    exact this
  have HKW := Lib.hid (fun X (hb : Below (w.heap.size + 2) W2 X) => show X.cell? ⟨w.heap.size, 0, none⟩ = some (.slice A t.length c) ∧ X.cell? ⟨w.heap.size + 1, 0, none⟩ = some (.slice none 0 0) ∧ X.frozen? ⟨w.heap.size + 1, 0, none⟩ = false ∧ Bk X (w.heap.size + 1) 30 [.slice none 0 0] ∧ w.heap.size + 2 ≤ X.heap.size ∧ Below w.heap.size w X from
    ⟨(hk0.below hb (by omega)).at_ rfl, (hk1.below hb (by omega)).at_ rfl, (hk1.below hb (by omega)).frozen 0, hk1.below hb (by omega), by have := hb.size; have := HS2.out; omega, HB2.out.trans (hb.mono (by omega))⟩)
  have HX := Lib.hid (fun X (hb : Below w.heap.size w X) e => make_exit (g := w.heap.size + 1) h hb (by omega) (.slice A t.length c) e)
  replace h := h.keep (F' := fun b => F b ∧ b < w.heap.size) (w' := w) ⟨Nat.le_refl _, fun _ _ _ => rfl⟩ fun b hb hl => ⟨hb, hl⟩
  have HDN := Lib.hid (fun X A9 c9 t9 q9 (hb : Below w.heap.size w X) hr v => make_done (F := F) (A := A9) (c := c9) (t := t9) (q := q9) hb hr v)
  obtain ⟨F1, hF1⟩ : ∃ F1 : Nat → Prop, F1 = fun b => F b ∧ b < w.heap.size := ⟨_, rfl⟩
  have HF1 := Lib.hid hF1
  rw [← hF1] at h
  clear hF1
  have HP := Lib.hid (fun W => show Calls _ _ _ _ (Ans (optV (parentP q)) W) from refParent_any ⟨q.toArray⟩ W hp)
  have HR := Lib.hid h
  have HD := Lib.hid hd
  have HSZ := Lib.hid hsz
  have HWE := Lib.hid hW2
  have HB22 := Lib.hid (Below.refl (w.heap.size + 2) W2)
  have HPQ := Lib.hid hp
  clear h hd hsz hk0 hk1 hp
  obtain ⟨j0, j1, z1, kb, hs, hbw⟩ := HKW.out W2 HB22.out
  rcases opt_cases (parentP q) with ⟨e, ev⟩ | ⟨up, e, ev⟩
  · have HV := Lib.hid (show tMake q data own born false t = (t, [], 90) by unfold tMake; rw [e])
    rw [ev] at HP
    clear e ev
    go_enter Tryz.func16, Tryz.ntmps16
    go_wp2_with fail
    rw [← HWE.out]
    refine (HP.out _).mono ?_
    rintro e w1 ⟨rfl, hb1⟩
    have hbx : Below (w.heap.size + 2) W2 w1 := by have := HS2.out; rw [← this]; exact hb1
    clear j0 j1 z1 kb hs hbw hb1
    obtain ⟨j0, j1, z1, kb, hs, hbw⟩ := HKW.out w1 hbx
    go_wp2_with fail
    have g1 := (HKW.out w1 hbx).2.2.2.1
    have kk := g1.set 0 (.slice A t.length c)
    refine bodyPost_ret_by (results_tree2 rfl _ _ (w.heap.size + 1) 30 _ _ rfl kk Tryz.underlying30 rfl info_tree1) rfl ?_
    rw [HV.out]
    exact HX.out w1 (HKW.out w1 hbx).2.2.2.2.2 90
  · rw [ev] at HP
    clear ev
    by_cases h128 : 128 < data.length
    · have HV := Lib.hid (tMake_1 (own := own) (born := born) (num := false) (t := t) e h128)
      have h129 : (128 : Int) < (data.length : Int) := by omega
      clear e h128
      go_enter Tryz.func16, Tryz.ntmps16
      go_wp2_with fail
      rw [← HWE.out]
      refine (HP.out _).mono ?_
      rintro e w1 ⟨rfl, hb1⟩
      have hbx1 : Below (w.heap.size + 2) W2 w1 := by have := HS2.out; rw [← this]; exact hb1
      clear hb1
      clear j0 j1 z1 kb hs hbw
      obtain ⟨j0, j1, z1, kb, hs, hbw⟩ := HKW.out w1 hbx1
      go_wp2_with fail
      have g1 := (HKW.out w1 hbx1).2.2.2.1
      have kk := g1.set 0 (.slice A t.length c)
      refine bodyPost_ret_by (results_tree2 rfl _ _ (w.heap.size + 1) 30 _ _ rfl kk Tryz.underlying30 rfl info_tree1) rfl ?_
      rw [HV.out]
      exact HX.out w1 (HKW.out w1 hbx1).2.2.2.2.2 104
    · have h129 : ¬ (128 : Int) < (data.length : Int) := by omega
      have HA := Lib.hid (fun W (hb : Below w.heap.size w W) => show Calls _ _ _ _ (Tells (.int .i64 (atI (tAt up t))) W) from refAt_any ⟨up.toArray⟩ A c t F1 W (HR.out.below hb))
      cases hat : tAt up t with
      | none =>
        have HV := Lib.hid (tMake_2 (own := own) (born := born) (num := false) (t := t) e h128 hat)
        rw [hat] at HA
        replace HA := Lib.hid (fun W hb => show Calls _ _ _ _ (Tells (.int .i64 (-1)) W) from HA.out W hb)
        clear e h128 hat
        go_enter Tryz.func16, Tryz.ntmps16
        go_wp2_with fail
        rw [← HWE.out]
        refine (HP.out _).mono ?_
        rintro e w1 ⟨rfl, hb1⟩
        have hbx1 : Below (w.heap.size + 2) W2 w1 := by have := HS2.out; rw [← this]; exact hb1
        clear hb1
        clear j0 j1 z1 kb hs hbw
        obtain ⟨j0, j1, z1, kb, hs, hbw⟩ := HKW.out w1 hbx1
        go_wp2_with fail
        refine (HA.out _ (HKW.out w1 hbx1).2.2.2.2.2).mono ?_
        rintro e w2 ⟨rfl, hb2⟩
        have hbx2 := below_next hbx1 hb2 (by omega)
        clear hb2
        clear j0 j1 z1 kb hs hbw
        obtain ⟨j0, j1, z1, kb, hs, hbw⟩ := HKW.out w2 hbx2
        go_wp2_with fail
        have g1 := (HKW.out w2 hbx2).2.2.2.1
        have kk := g1.set 0 (.slice A t.length c)
        refine bodyPost_ret_by (results_tree2 rfl _ _ (w.heap.size + 1) 30 _ _ rfl kk Tryz.underlying30 rfl info_tree1) rfl ?_
        rw [HV.out]
        exact HX.out w2 (HKW.out w2 hbx2).2.2.2.2.2 100
      | some k =>
        obtain ⟨a, hka, hpa⟩ := tAt_is hat
        rw [hat] at HA
        replace HA := Lib.hid (fun W hb => show Calls _ _ _ _ (Tells (.int .i64 (k : Int)) W) from HA.out W hb)
        have hkl : k < t.length := (List.getElem?_eq_some_iff.1 hka).1
        obtain ⟨y, PA, PC, rfl, hyb, u0, u1, u2, u3, u4, u5, hpb⟩ := HR.out.lf6 hka
        have HCW := Lib.hid (fun w' (hb : Below w.heap.size w w') => show _ ∧ _ ∧ _ ∧ _ ∧ _ ∧ _ from ⟨cell_kept u0 hb, cell_kept u1 hb, cell_kept u2 hb, cell_kept u3 hb, cell_kept u4 hb, cell_kept u5 hb⟩)
        have HPB := Lib.hid hpb
        have y1 : (0 : Int) ≤ (k : Int) := by omega
        have y2 : (k : Int) < (t.length : Int) := by omega
        clear hyb u0 u1 u2 u3 u4 u5 hpb
        by_cases ho : a.own = -1
        rotate_left
        · have HV := Lib.hid (tMake_3 (own := own) (born := born) (num := false) e h128 hat hka ho)
          have b1 : (a.own != -1) = true := by simpa using ho
          clear e h128 hat hka ho hpa
          go_enter Tryz.func16, Tryz.ntmps16
          go_wp2_with fail
          rw [← HWE.out]
          refine (HP.out _).mono ?_
          rintro e w1 ⟨rfl, hb1⟩
          have hbx1 : Below (w.heap.size + 2) W2 w1 := by have := HS2.out; rw [← this]; exact hb1
          clear hb1
          clear j0 j1 z1 kb hs hbw
          obtain ⟨j0, j1, z1, kb, hs, hbw⟩ := HKW.out w1 hbx1
          go_wp2_with fail
          refine (HA.out _ (HKW.out w1 hbx1).2.2.2.2.2).mono ?_
          rintro e w2 ⟨rfl, hb2⟩
          have hbx2 := below_next hbx1 hb2 (by omega)
          clear hb2
          clear j0 j1 z1 kb hs hbw
          obtain ⟨j0, j1, z1, kb, hs, hbw⟩ := HKW.out w2 hbx2
          have hs22 : w.heap.size + 2 ≤ w2.heap.size := hs
          obtain ⟨c0, c1, c2, c3, c4, c5⟩ := HCW.out w2 hbw
          obtain ⟨w3, hw3⟩ : ∃ w3, w3 = w2.alloc (.cells #[.string ⟨a.path.toArray⟩, .slice PA a.data.length PC, .int .i64 a.ver, .int .i64 a.own, .int .i64 a.next, .int .i64 a.born] 50) := ⟨_, rfl⟩
          have hbx3 : Below (w.heap.size + 2) W2 w3 := by rw [hw3]; exact hbx2.alloc (by omega) (.cells #[.string ⟨a.path.toArray⟩, .slice PA a.data.length PC, .int .i64 a.ver, .int .i64 a.own, .int .i64 a.next, .int .i64 a.born] 50)
          have hbox : Bk w3 w2.heap.size 50 (lfC a PA PC) := by rw [hw3]; exact Bk.new w2 50 (lfC a PA PC)
          have HBX := Lib.hid hbox
          have hs23 : w2.heap.size < w3.heap.size := hbox.lt
          have HW3 := Lib.hid hw3
          clear hw3 hbox
          go_upto_region 10 with fail
          rw [← HW3.out]
          clear c0 c1 c2 c3 c4 c5
          clear j0 j1 z1 kb hs hbw
          obtain ⟨j0, j1, z1, kb, hs, hbw⟩ := HKW.out w3 hbx3
          have l0 : w3.cell? ⟨w2.heap.size, 0, none⟩ = some (.string ⟨a.path.toArray⟩) := HBX.out.at_ rfl
          have l1 : w3.cell? ⟨w2.heap.size, 1, none⟩ = some (.slice PA a.data.length PC) := HBX.out.at_ rfl
          have l2 : w3.cell? ⟨w2.heap.size, 2, none⟩ = some (.int .i64 a.ver) := HBX.out.at_ rfl
          have l3 : w3.cell? ⟨w2.heap.size, 3, none⟩ = some (.int .i64 a.own) := HBX.out.at_ rfl
          have l4 : w3.cell? ⟨w2.heap.size, 4, none⟩ = some (.int .i64 a.next) := HBX.out.at_ rfl
          have l5 : w3.cell? ⟨w2.heap.size, 5, none⟩ = some (.int .i64 a.born) := HBX.out.at_ rfl
          go_wp2_with fail
          have g1 := (HKW.out w3 hbx3).2.2.2.1
          have kk := g1.set 0 (.slice (some y) t.length c)
          refine bodyPost_ret_by (results_tree2 rfl _ _ (w.heap.size + 1) 30 _ _ rfl kk Tryz.underlying30 rfl info_tree1) rfl ?_
          rw [HV.out]
          exact HX.out w3 (HKW.out w3 hbx3).2.2.2.2.2 105
        have b1 : (a.own != -1) = false := by rw [ho]; rfl
        have HV0 := Lib.hid (tMake_5 (own := own) (born := born) (num := false) (q' := q) e h128 hat hka ho (by simp))
        clear e h128 hat hka ho hpa
        have HA2 := Lib.hid (fun W (hb : Below w.heap.size w W) => show Calls _ _ _ _ (Tells (.int .i64 (atI (tAt q t))) W) from refAt_any ⟨q.toArray⟩ (some y) c t F1 W (HR.out.below hb))
        cases hat2 : tAt q t with
        | some k2 =>
          have HV := Lib.hid (show tMake q data own born false t = (t, [], 101) by have := HV0.out; rw [hat2] at this; simpa using this)
          rw [hat2] at HA2
          replace HA2 := Lib.hid (fun W hb => show Calls _ _ _ _ (Tells (.int .i64 (k2 : Int)) W) from HA2.out W hb)
          have y3 : (0 : Int) ≤ (k2 : Int) := by omega
          clear hat2 HV0
          go_enter Tryz.func16, Tryz.ntmps16
          go_wp2_with fail
          rw [← HWE.out]
          refine (HP.out _).mono ?_
          rintro e w1 ⟨rfl, hb1⟩
          have hbx1 : Below (w.heap.size + 2) W2 w1 := by have := HS2.out; rw [← this]; exact hb1
          clear hb1
          clear j0 j1 z1 kb hs hbw
          obtain ⟨j0, j1, z1, kb, hs, hbw⟩ := HKW.out w1 hbx1
          go_wp2_with fail
          refine (HA.out _ (HKW.out w1 hbx1).2.2.2.2.2).mono ?_
          rintro e w2 ⟨rfl, hb2⟩
          have hbx2 := below_next hbx1 hb2 (by omega)
          clear hb2
          clear j0 j1 z1 kb hs hbw
          obtain ⟨j0, j1, z1, kb, hs, hbw⟩ := HKW.out w2 hbx2
          have hs22 : w.heap.size + 2 ≤ w2.heap.size := hs
          obtain ⟨c0, c1, c2, c3, c4, c5⟩ := HCW.out w2 hbw
          obtain ⟨w3, hw3⟩ : ∃ w3, w3 = w2.alloc (.cells #[.string ⟨a.path.toArray⟩, .slice PA a.data.length PC, .int .i64 a.ver, .int .i64 a.own, .int .i64 a.next, .int .i64 a.born] 50) := ⟨_, rfl⟩
          have hbx3 : Below (w.heap.size + 2) W2 w3 := by rw [hw3]; exact hbx2.alloc (by omega) (.cells #[.string ⟨a.path.toArray⟩, .slice PA a.data.length PC, .int .i64 a.ver, .int .i64 a.own, .int .i64 a.next, .int .i64 a.born] 50)
          have hbox : Bk w3 w2.heap.size 50 (lfC a PA PC) := by rw [hw3]; exact Bk.new w2 50 (lfC a PA PC)
          have HBX := Lib.hid hbox
          have hs23 : w2.heap.size < w3.heap.size := hbox.lt
          have HW3 := Lib.hid hw3
          clear hw3 hbox
          go_upto_region 10 with fail
          rw [← HW3.out]
          clear c0 c1 c2 c3 c4 c5
          clear j0 j1 z1 kb hs hbw
          obtain ⟨j0, j1, z1, kb, hs, hbw⟩ := HKW.out w3 hbx3
          have l0 : w3.cell? ⟨w2.heap.size, 0, none⟩ = some (.string ⟨a.path.toArray⟩) := HBX.out.at_ rfl
          have l1 : w3.cell? ⟨w2.heap.size, 1, none⟩ = some (.slice PA a.data.length PC) := HBX.out.at_ rfl
          have l2 : w3.cell? ⟨w2.heap.size, 2, none⟩ = some (.int .i64 a.ver) := HBX.out.at_ rfl
          have l3 : w3.cell? ⟨w2.heap.size, 3, none⟩ = some (.int .i64 a.own) := HBX.out.at_ rfl
          have l4 : w3.cell? ⟨w2.heap.size, 4, none⟩ = some (.int .i64 a.next) := HBX.out.at_ rfl
          have l5 : w3.cell? ⟨w2.heap.size, 5, none⟩ = some (.int .i64 a.born) := HBX.out.at_ rfl
          go_wp2_with fail
          have hs2x : w2.heap.size < w3.heap.size := HBX.out.lt
          go_wp2_with fail
          refine (HA2.out _ (HKW.out w3 hbx3).2.2.2.2.2).mono ?_
          rintro e w6 ⟨rfl, hb6⟩
          have hbx6 := below_next hbx3 hb6 (by omega)
          have HB6 := Lib.hid (HBX.out.kept hb6)
          clear hb6 l0 l1 l2 l3 l4 l5
          clear j0 j1 z1 kb hs hbw
          obtain ⟨j0, j1, z1, kb, hs, hbw⟩ := HKW.out w6 hbx6
          go_wp2_with fail
          have g1 := (HKW.out w6 hbx6).2.2.2.1
          have kk := g1.set 0 (.slice (some y) t.length c)
          refine bodyPost_ret_by (results_tree2 rfl _ _ (w.heap.size + 1) 30 _ _ rfl kk Tryz.underlying30 rfl info_tree1) rfl ?_
          rw [HV.out]
          exact HX.out w6 (HKW.out w6 hbx6).2.2.2.2.2 101
        | none =>
          rw [hat2] at HA2
          replace HA2 := Lib.hid (fun W hb => show Calls _ _ _ _ (Tells (.int .i64 (-1)) W) from HA2.out W hb)
          by_cases h32 : 32 ≤ t.length
          · have HV := Lib.hid (show tMake q data own born false t = (t, [], 104) by have := HV0.out; rw [hat2] at this; simpa [h32] using this)
            have h33 : (32 : Int) ≤ (t.length : Int) := by omega
            clear hat2 HV0 h32
            go_enter Tryz.func16, Tryz.ntmps16
            go_wp2_with fail
            rw [← HWE.out]
            refine (HP.out _).mono ?_
            rintro e w1 ⟨rfl, hb1⟩
            have hbx1 : Below (w.heap.size + 2) W2 w1 := by have := HS2.out; rw [← this]; exact hb1
            clear hb1
            clear j0 j1 z1 kb hs hbw
            obtain ⟨j0, j1, z1, kb, hs, hbw⟩ := HKW.out w1 hbx1
            go_wp2_with fail
            refine (HA.out _ (HKW.out w1 hbx1).2.2.2.2.2).mono ?_
            rintro e w2 ⟨rfl, hb2⟩
            have hbx2 := below_next hbx1 hb2 (by omega)
            clear hb2
            clear j0 j1 z1 kb hs hbw
            obtain ⟨j0, j1, z1, kb, hs, hbw⟩ := HKW.out w2 hbx2
            have hs22 : w.heap.size + 2 ≤ w2.heap.size := hs
            obtain ⟨c0, c1, c2, c3, c4, c5⟩ := HCW.out w2 hbw
            obtain ⟨w3, hw3⟩ : ∃ w3, w3 = w2.alloc (.cells #[.string ⟨a.path.toArray⟩, .slice PA a.data.length PC, .int .i64 a.ver, .int .i64 a.own, .int .i64 a.next, .int .i64 a.born] 50) := ⟨_, rfl⟩
            have hbx3 : Below (w.heap.size + 2) W2 w3 := by rw [hw3]; exact hbx2.alloc (by omega) (.cells #[.string ⟨a.path.toArray⟩, .slice PA a.data.length PC, .int .i64 a.ver, .int .i64 a.own, .int .i64 a.next, .int .i64 a.born] 50)
            have hbox : Bk w3 w2.heap.size 50 (lfC a PA PC) := by rw [hw3]; exact Bk.new w2 50 (lfC a PA PC)
            have HBX := Lib.hid hbox
            have hs23 : w2.heap.size < w3.heap.size := hbox.lt
            have HW3 := Lib.hid hw3
            clear hw3 hbox
            go_upto_region 10 with fail
            rw [← HW3.out]
            clear c0 c1 c2 c3 c4 c5
            clear j0 j1 z1 kb hs hbw
            obtain ⟨j0, j1, z1, kb, hs, hbw⟩ := HKW.out w3 hbx3
            have l0 : w3.cell? ⟨w2.heap.size, 0, none⟩ = some (.string ⟨a.path.toArray⟩) := HBX.out.at_ rfl
            have l1 : w3.cell? ⟨w2.heap.size, 1, none⟩ = some (.slice PA a.data.length PC) := HBX.out.at_ rfl
            have l2 : w3.cell? ⟨w2.heap.size, 2, none⟩ = some (.int .i64 a.ver) := HBX.out.at_ rfl
            have l3 : w3.cell? ⟨w2.heap.size, 3, none⟩ = some (.int .i64 a.own) := HBX.out.at_ rfl
            have l4 : w3.cell? ⟨w2.heap.size, 4, none⟩ = some (.int .i64 a.next) := HBX.out.at_ rfl
            have l5 : w3.cell? ⟨w2.heap.size, 5, none⟩ = some (.int .i64 a.born) := HBX.out.at_ rfl
            go_wp2_with fail
            have hs2x : w2.heap.size < w3.heap.size := HBX.out.lt
            go_wp2_with fail
            refine (HA2.out _ (HKW.out w3 hbx3).2.2.2.2.2).mono ?_
            rintro e w6 ⟨rfl, hb6⟩
            have hbx6 := below_next hbx3 hb6 (by omega)
            have HB6 := Lib.hid (HBX.out.kept hb6)
            clear hb6 l0 l1 l2 l3 l4 l5
            clear j0 j1 z1 kb hs hbw
            obtain ⟨j0, j1, z1, kb, hs, hbw⟩ := HKW.out w6 hbx6
            go_wp2_with fail
            have g1 := (HKW.out w6 hbx6).2.2.2.1
            have kk := g1.set 0 (.slice (some y) t.length c)
            refine bodyPost_ret_by (results_tree2 rfl _ _ (w.heap.size + 1) 30 _ _ rfl kk Tryz.underlying30 rfl info_tree1) rfl ?_
            rw [HV.out]
            exact HX.out w6 (HKW.out w6 hbx6).2.2.2.2.2 104
          · have h33 : ¬ (32 : Int) ≤ (t.length : Int) := by omega
            have HV1 := Lib.hid (show tMake q data own born false t = (tWith ⟨q, data, 0, max own (-1), 0, max born 0⟩ (tWith a t), q, 0) by have := HV0.out; rw [hat2] at this; simpa [h32] using this)
            clear hat2 HV0
            by_cases hw1 : own < -1
            · have eo : max own (-1) = -1 := by omega
              by_cases hw2 : born < 0
              · have eb : max born 0 = 0 := by omega
                have HV := Lib.hid HV1.out
                rw [eo, eb] at HV
                clear eo eb HV1
                go_enter Tryz.func16, Tryz.ntmps16
                go_wp2_with fail
                rw [← HWE.out]
                refine (HP.out _).mono ?_
                rintro e w1 ⟨rfl, hb1⟩
                have hbx1 : Below (w.heap.size + 2) W2 w1 := by have := HS2.out; rw [← this]; exact hb1
                clear hb1
                clear j0 j1 z1 kb hs hbw
                obtain ⟨j0, j1, z1, kb, hs, hbw⟩ := HKW.out w1 hbx1
                go_wp2_with fail
                refine (HA.out _ (HKW.out w1 hbx1).2.2.2.2.2).mono ?_
                rintro e w2 ⟨rfl, hb2⟩
                have hbx2 := below_next hbx1 hb2 (by omega)
                clear hb2
                clear j0 j1 z1 kb hs hbw
                obtain ⟨j0, j1, z1, kb, hs, hbw⟩ := HKW.out w2 hbx2
                have hs22 : w.heap.size + 2 ≤ w2.heap.size := hs
                obtain ⟨c0, c1, c2, c3, c4, c5⟩ := HCW.out w2 hbw
                obtain ⟨w3, hw3⟩ : ∃ w3, w3 = w2.alloc (.cells #[.string ⟨a.path.toArray⟩, .slice PA a.data.length PC, .int .i64 a.ver, .int .i64 a.own, .int .i64 a.next, .int .i64 a.born] 50) := ⟨_, rfl⟩
                have hbx3 : Below (w.heap.size + 2) W2 w3 := by rw [hw3]; exact hbx2.alloc (by omega) (.cells #[.string ⟨a.path.toArray⟩, .slice PA a.data.length PC, .int .i64 a.ver, .int .i64 a.own, .int .i64 a.next, .int .i64 a.born] 50)
                have hbox : Bk w3 w2.heap.size 50 (lfC a PA PC) := by rw [hw3]; exact Bk.new w2 50 (lfC a PA PC)
                have HBX := Lib.hid hbox
                have hs23 : w2.heap.size < w3.heap.size := hbox.lt
                have HW3 := Lib.hid hw3
                clear hw3 hbox
                go_upto_region 10 with fail
                rw [← HW3.out]
                clear c0 c1 c2 c3 c4 c5
                clear j0 j1 z1 kb hs hbw
                obtain ⟨j0, j1, z1, kb, hs, hbw⟩ := HKW.out w3 hbx3
                have l0 : w3.cell? ⟨w2.heap.size, 0, none⟩ = some (.string ⟨a.path.toArray⟩) := HBX.out.at_ rfl
                have l1 : w3.cell? ⟨w2.heap.size, 1, none⟩ = some (.slice PA a.data.length PC) := HBX.out.at_ rfl
                have l2 : w3.cell? ⟨w2.heap.size, 2, none⟩ = some (.int .i64 a.ver) := HBX.out.at_ rfl
                have l3 : w3.cell? ⟨w2.heap.size, 3, none⟩ = some (.int .i64 a.own) := HBX.out.at_ rfl
                have l4 : w3.cell? ⟨w2.heap.size, 4, none⟩ = some (.int .i64 a.next) := HBX.out.at_ rfl
                have l5 : w3.cell? ⟨w2.heap.size, 5, none⟩ = some (.int .i64 a.born) := HBX.out.at_ rfl
                go_wp2_with fail
                have hs2x : w2.heap.size < w3.heap.size := HBX.out.lt
                go_wp2_with fail
                refine (HA2.out _ (HKW.out w3 hbx3).2.2.2.2.2).mono ?_
                rintro e w6 ⟨rfl, hb6⟩
                have hbx6 := below_next hbx3 hb6 (by omega)
                have HB6 := Lib.hid (HBX.out.kept hb6)
                clear hb6 l0 l1 l2 l3 l4 l5
                clear j0 j1 z1 kb hs hbw
                obtain ⟨j0, j1, z1, kb, hs, hbw⟩ := HKW.out w6 hbx6
                have l0 : w6.cell? ⟨w2.heap.size, 0, none⟩ = some (.string ⟨a.path.toArray⟩) := HB6.out.at_ rfl
                have l1 : w6.cell? ⟨w2.heap.size, 1, none⟩ = some (.slice PA a.data.length PC) := HB6.out.at_ rfl
                have l2 : w6.cell? ⟨w2.heap.size, 2, none⟩ = some (.int .i64 a.ver) := HB6.out.at_ rfl
                have l3 : w6.cell? ⟨w2.heap.size, 3, none⟩ = some (.int .i64 a.own) := HB6.out.at_ rfl
                have l4 : w6.cell? ⟨w2.heap.size, 4, none⟩ = some (.int .i64 a.next) := HB6.out.at_ rfl
                have l5 : w6.cell? ⟨w2.heap.size, 5, none⟩ = some (.int .i64 a.born) := HB6.out.at_ rfl
                have HWI := Lib.hid (refWith_any a PA PC (some y) c t F1 w6 (HR.out.below hbw) (HPB.out.below hbw) hn)
                go_wp2_with fail
                refine (HWI.out).mono ?_
                rintro e w7 ⟨hb7, A7, c7, rfl, hr7⟩
                have hbx7 := below_next hbx6 hb7 (by omega)
                have hr7x := freshW_rds hr7 (show w.heap.size + 2 ≤ w6.heap.size by omega)
                have HR7 := Lib.hid hr7x
                clear hb7 hr7 hr7x l0 l1 l2 l3 l4 l5
                clear j0 j1 z1 kb hs hbw
                obtain ⟨j0, j1, z1, kb, hs, hbw⟩ := HKW.out w7 hbx7
                have HCB := Lib.hid (copyBytes_big DA data.length DC data w7 (HD.out.below hbw).rd (by omega))
                go_wp2_with fail
                refine (HCB.out).mono ?_
                rintro e w8 ⟨A8, n8, c8, rfl, ho8, hb8⟩
                obtain rfl : data.length = n8 := ho8.len
                have hbx8 := below_next hbx7 hb8 (by omega)
                have hbf : BF (fun b => F1 b ∨ w.heap.size + 2 ≤ b) w8 A8 c8 data := (BF.own ho8).keep ⟨Nat.le_refl _, fun _ _ _ => rfl⟩ fun b hb _ => .inr (by unfold From at hb; omega)
                have HWJ := Lib.hid (refWith_any (⟨q, data, 0, -1, 0, 0⟩ : Lf) A8 c8 A7 c7 (tWith a t) (fun b => F1 b ∨ w.heap.size + 2 ≤ b) w8 (HR7.out.below hb8) hbf (by have := tWith_len a t; omega))
                clear hb8 ho8 hbf
                clear j0 j1 z1 kb hs hbw
                obtain ⟨j0, j1, z1, kb, hs, hbw⟩ := HKW.out w8 hbx8
                go_wp2_with fail
                refine (HWJ.out).mono ?_
                rintro e w9 ⟨hb9, A9, c9, rfl, hr9⟩
                have hbx9 := below_next hbx8 hb9 (by omega)
                have hr9x := (freshW_rds hr9 (show w.heap.size + 2 ≤ w8.heap.size by omega)).keep (F' := fun b => F1 b ∨ w.heap.size + 2 ≤ b) (w' := w9) ⟨Nat.le_refl _, fun _ _ _ => rfl⟩ fun b hb _ => hb.elim id .inr
                have HR9 := Lib.hid hr9x
                clear hb9 hr9 hr9x
                clear j0 j1 z1 kb hs hbw
                obtain ⟨j0, j1, z1, kb, hs, hbw⟩ := HKW.out w9 hbx9
                go_wp2_with fail
                have g1 := (HKW.out w9 hbx9).2.2.2.1
                have kk := g1.set 0 (.slice A9 (tWith (⟨q, data, 0, -1, 0, 0⟩ : Lf) (tWith a t)).length c9)
                refine bodyPost_ret_by (results_tree2 rfl _ _ (w.heap.size + 1) 30 _ _ rfl kk Tryz.underlying30 rfl info_tree1) rfl ?_
                rw [HV.out]
                have hr := HR9.out
                rw [HF1.out] at hr
                exact HDN.out w9 A9 c9 _ _ hbw hr _
              · have eb : max born 0 = born := by omega
                have HV := Lib.hid HV1.out
                rw [eo, eb] at HV
                clear eo eb HV1
                go_enter Tryz.func16, Tryz.ntmps16
                go_wp2_with fail
                rw [← HWE.out]
                refine (HP.out _).mono ?_
                rintro e w1 ⟨rfl, hb1⟩
                have hbx1 : Below (w.heap.size + 2) W2 w1 := by have := HS2.out; rw [← this]; exact hb1
                clear hb1
                clear j0 j1 z1 kb hs hbw
                obtain ⟨j0, j1, z1, kb, hs, hbw⟩ := HKW.out w1 hbx1
                go_wp2_with fail
                refine (HA.out _ (HKW.out w1 hbx1).2.2.2.2.2).mono ?_
                rintro e w2 ⟨rfl, hb2⟩
                have hbx2 := below_next hbx1 hb2 (by omega)
                clear hb2
                clear j0 j1 z1 kb hs hbw
                obtain ⟨j0, j1, z1, kb, hs, hbw⟩ := HKW.out w2 hbx2
                have hs22 : w.heap.size + 2 ≤ w2.heap.size := hs
                obtain ⟨c0, c1, c2, c3, c4, c5⟩ := HCW.out w2 hbw
                obtain ⟨w3, hw3⟩ : ∃ w3, w3 = w2.alloc (.cells #[.string ⟨a.path.toArray⟩, .slice PA a.data.length PC, .int .i64 a.ver, .int .i64 a.own, .int .i64 a.next, .int .i64 a.born] 50) := ⟨_, rfl⟩
                have hbx3 : Below (w.heap.size + 2) W2 w3 := by rw [hw3]; exact hbx2.alloc (by omega) (.cells #[.string ⟨a.path.toArray⟩, .slice PA a.data.length PC, .int .i64 a.ver, .int .i64 a.own, .int .i64 a.next, .int .i64 a.born] 50)
                have hbox : Bk w3 w2.heap.size 50 (lfC a PA PC) := by rw [hw3]; exact Bk.new w2 50 (lfC a PA PC)
                have HBX := Lib.hid hbox
                have hs23 : w2.heap.size < w3.heap.size := hbox.lt
                have HW3 := Lib.hid hw3
                clear hw3 hbox
                go_upto_region 10 with fail
                rw [← HW3.out]
                clear c0 c1 c2 c3 c4 c5
                clear j0 j1 z1 kb hs hbw
                obtain ⟨j0, j1, z1, kb, hs, hbw⟩ := HKW.out w3 hbx3
                have l0 : w3.cell? ⟨w2.heap.size, 0, none⟩ = some (.string ⟨a.path.toArray⟩) := HBX.out.at_ rfl
                have l1 : w3.cell? ⟨w2.heap.size, 1, none⟩ = some (.slice PA a.data.length PC) := HBX.out.at_ rfl
                have l2 : w3.cell? ⟨w2.heap.size, 2, none⟩ = some (.int .i64 a.ver) := HBX.out.at_ rfl
                have l3 : w3.cell? ⟨w2.heap.size, 3, none⟩ = some (.int .i64 a.own) := HBX.out.at_ rfl
                have l4 : w3.cell? ⟨w2.heap.size, 4, none⟩ = some (.int .i64 a.next) := HBX.out.at_ rfl
                have l5 : w3.cell? ⟨w2.heap.size, 5, none⟩ = some (.int .i64 a.born) := HBX.out.at_ rfl
                go_wp2_with fail
                have hs2x : w2.heap.size < w3.heap.size := HBX.out.lt
                go_wp2_with fail
                refine (HA2.out _ (HKW.out w3 hbx3).2.2.2.2.2).mono ?_
                rintro e w6 ⟨rfl, hb6⟩
                have hbx6 := below_next hbx3 hb6 (by omega)
                have HB6 := Lib.hid (HBX.out.kept hb6)
                clear hb6 l0 l1 l2 l3 l4 l5
                clear j0 j1 z1 kb hs hbw
                obtain ⟨j0, j1, z1, kb, hs, hbw⟩ := HKW.out w6 hbx6
                have l0 : w6.cell? ⟨w2.heap.size, 0, none⟩ = some (.string ⟨a.path.toArray⟩) := HB6.out.at_ rfl
                have l1 : w6.cell? ⟨w2.heap.size, 1, none⟩ = some (.slice PA a.data.length PC) := HB6.out.at_ rfl
                have l2 : w6.cell? ⟨w2.heap.size, 2, none⟩ = some (.int .i64 a.ver) := HB6.out.at_ rfl
                have l3 : w6.cell? ⟨w2.heap.size, 3, none⟩ = some (.int .i64 a.own) := HB6.out.at_ rfl
                have l4 : w6.cell? ⟨w2.heap.size, 4, none⟩ = some (.int .i64 a.next) := HB6.out.at_ rfl
                have l5 : w6.cell? ⟨w2.heap.size, 5, none⟩ = some (.int .i64 a.born) := HB6.out.at_ rfl
                have HWI := Lib.hid (refWith_any a PA PC (some y) c t F1 w6 (HR.out.below hbw) (HPB.out.below hbw) hn)
                go_wp2_with fail
                refine (HWI.out).mono ?_
                rintro e w7 ⟨hb7, A7, c7, rfl, hr7⟩
                have hbx7 := below_next hbx6 hb7 (by omega)
                have hr7x := freshW_rds hr7 (show w.heap.size + 2 ≤ w6.heap.size by omega)
                have HR7 := Lib.hid hr7x
                clear hb7 hr7 hr7x l0 l1 l2 l3 l4 l5
                clear j0 j1 z1 kb hs hbw
                obtain ⟨j0, j1, z1, kb, hs, hbw⟩ := HKW.out w7 hbx7
                have HCB := Lib.hid (copyBytes_big DA data.length DC data w7 (HD.out.below hbw).rd (by omega))
                go_wp2_with fail
                refine (HCB.out).mono ?_
                rintro e w8 ⟨A8, n8, c8, rfl, ho8, hb8⟩
                obtain rfl : data.length = n8 := ho8.len
                have hbx8 := below_next hbx7 hb8 (by omega)
                have hbf : BF (fun b => F1 b ∨ w.heap.size + 2 ≤ b) w8 A8 c8 data := (BF.own ho8).keep ⟨Nat.le_refl _, fun _ _ _ => rfl⟩ fun b hb _ => .inr (by unfold From at hb; omega)
                have HWJ := Lib.hid (refWith_any (⟨q, data, 0, -1, 0, born⟩ : Lf) A8 c8 A7 c7 (tWith a t) (fun b => F1 b ∨ w.heap.size + 2 ≤ b) w8 (HR7.out.below hb8) hbf (by have := tWith_len a t; omega))
                clear hb8 ho8 hbf
                clear j0 j1 z1 kb hs hbw
                obtain ⟨j0, j1, z1, kb, hs, hbw⟩ := HKW.out w8 hbx8
                go_wp2_with fail
                refine (HWJ.out).mono ?_
                rintro e w9 ⟨hb9, A9, c9, rfl, hr9⟩
                have hbx9 := below_next hbx8 hb9 (by omega)
                have hr9x := (freshW_rds hr9 (show w.heap.size + 2 ≤ w8.heap.size by omega)).keep (F' := fun b => F1 b ∨ w.heap.size + 2 ≤ b) (w' := w9) ⟨Nat.le_refl _, fun _ _ _ => rfl⟩ fun b hb _ => hb.elim id .inr
                have HR9 := Lib.hid hr9x
                clear hb9 hr9 hr9x
                clear j0 j1 z1 kb hs hbw
                obtain ⟨j0, j1, z1, kb, hs, hbw⟩ := HKW.out w9 hbx9
                go_wp2_with fail
                have g1 := (HKW.out w9 hbx9).2.2.2.1
                have kk := g1.set 0 (.slice A9 (tWith (⟨q, data, 0, -1, 0, born⟩ : Lf) (tWith a t)).length c9)
                refine bodyPost_ret_by (results_tree2 rfl _ _ (w.heap.size + 1) 30 _ _ rfl kk Tryz.underlying30 rfl info_tree1) rfl ?_
                rw [HV.out]
                have hr := HR9.out
                rw [HF1.out] at hr
                exact HDN.out w9 A9 c9 _ _ hbw hr _
            · have eo : max own (-1) = own := by omega
              by_cases hw2 : born < 0
              · have eb : max born 0 = 0 := by omega
                have HV := Lib.hid HV1.out
                rw [eo, eb] at HV
                clear eo eb HV1
                go_enter Tryz.func16, Tryz.ntmps16
                go_wp2_with fail
                rw [← HWE.out]
                refine (HP.out _).mono ?_
                rintro e w1 ⟨rfl, hb1⟩
                have hbx1 : Below (w.heap.size + 2) W2 w1 := by have := HS2.out; rw [← this]; exact hb1
                clear hb1
                clear j0 j1 z1 kb hs hbw
                obtain ⟨j0, j1, z1, kb, hs, hbw⟩ := HKW.out w1 hbx1
                go_wp2_with fail
                refine (HA.out _ (HKW.out w1 hbx1).2.2.2.2.2).mono ?_
                rintro e w2 ⟨rfl, hb2⟩
                have hbx2 := below_next hbx1 hb2 (by omega)
                clear hb2
                clear j0 j1 z1 kb hs hbw
                obtain ⟨j0, j1, z1, kb, hs, hbw⟩ := HKW.out w2 hbx2
                have hs22 : w.heap.size + 2 ≤ w2.heap.size := hs
                obtain ⟨c0, c1, c2, c3, c4, c5⟩ := HCW.out w2 hbw
                obtain ⟨w3, hw3⟩ : ∃ w3, w3 = w2.alloc (.cells #[.string ⟨a.path.toArray⟩, .slice PA a.data.length PC, .int .i64 a.ver, .int .i64 a.own, .int .i64 a.next, .int .i64 a.born] 50) := ⟨_, rfl⟩
                have hbx3 : Below (w.heap.size + 2) W2 w3 := by rw [hw3]; exact hbx2.alloc (by omega) (.cells #[.string ⟨a.path.toArray⟩, .slice PA a.data.length PC, .int .i64 a.ver, .int .i64 a.own, .int .i64 a.next, .int .i64 a.born] 50)
                have hbox : Bk w3 w2.heap.size 50 (lfC a PA PC) := by rw [hw3]; exact Bk.new w2 50 (lfC a PA PC)
                have HBX := Lib.hid hbox
                have hs23 : w2.heap.size < w3.heap.size := hbox.lt
                have HW3 := Lib.hid hw3
                clear hw3 hbox
                go_upto_region 10 with fail
                rw [← HW3.out]
                clear c0 c1 c2 c3 c4 c5
                clear j0 j1 z1 kb hs hbw
                obtain ⟨j0, j1, z1, kb, hs, hbw⟩ := HKW.out w3 hbx3
                have l0 : w3.cell? ⟨w2.heap.size, 0, none⟩ = some (.string ⟨a.path.toArray⟩) := HBX.out.at_ rfl
                have l1 : w3.cell? ⟨w2.heap.size, 1, none⟩ = some (.slice PA a.data.length PC) := HBX.out.at_ rfl
                have l2 : w3.cell? ⟨w2.heap.size, 2, none⟩ = some (.int .i64 a.ver) := HBX.out.at_ rfl
                have l3 : w3.cell? ⟨w2.heap.size, 3, none⟩ = some (.int .i64 a.own) := HBX.out.at_ rfl
                have l4 : w3.cell? ⟨w2.heap.size, 4, none⟩ = some (.int .i64 a.next) := HBX.out.at_ rfl
                have l5 : w3.cell? ⟨w2.heap.size, 5, none⟩ = some (.int .i64 a.born) := HBX.out.at_ rfl
                go_wp2_with fail
                have hs2x : w2.heap.size < w3.heap.size := HBX.out.lt
                go_wp2_with fail
                refine (HA2.out _ (HKW.out w3 hbx3).2.2.2.2.2).mono ?_
                rintro e w6 ⟨rfl, hb6⟩
                have hbx6 := below_next hbx3 hb6 (by omega)
                have HB6 := Lib.hid (HBX.out.kept hb6)
                clear hb6 l0 l1 l2 l3 l4 l5
                clear j0 j1 z1 kb hs hbw
                obtain ⟨j0, j1, z1, kb, hs, hbw⟩ := HKW.out w6 hbx6
                have l0 : w6.cell? ⟨w2.heap.size, 0, none⟩ = some (.string ⟨a.path.toArray⟩) := HB6.out.at_ rfl
                have l1 : w6.cell? ⟨w2.heap.size, 1, none⟩ = some (.slice PA a.data.length PC) := HB6.out.at_ rfl
                have l2 : w6.cell? ⟨w2.heap.size, 2, none⟩ = some (.int .i64 a.ver) := HB6.out.at_ rfl
                have l3 : w6.cell? ⟨w2.heap.size, 3, none⟩ = some (.int .i64 a.own) := HB6.out.at_ rfl
                have l4 : w6.cell? ⟨w2.heap.size, 4, none⟩ = some (.int .i64 a.next) := HB6.out.at_ rfl
                have l5 : w6.cell? ⟨w2.heap.size, 5, none⟩ = some (.int .i64 a.born) := HB6.out.at_ rfl
                have HWI := Lib.hid (refWith_any a PA PC (some y) c t F1 w6 (HR.out.below hbw) (HPB.out.below hbw) hn)
                go_wp2_with fail
                refine (HWI.out).mono ?_
                rintro e w7 ⟨hb7, A7, c7, rfl, hr7⟩
                have hbx7 := below_next hbx6 hb7 (by omega)
                have hr7x := freshW_rds hr7 (show w.heap.size + 2 ≤ w6.heap.size by omega)
                have HR7 := Lib.hid hr7x
                clear hb7 hr7 hr7x l0 l1 l2 l3 l4 l5
                clear j0 j1 z1 kb hs hbw
                obtain ⟨j0, j1, z1, kb, hs, hbw⟩ := HKW.out w7 hbx7
                have HCB := Lib.hid (copyBytes_big DA data.length DC data w7 (HD.out.below hbw).rd (by omega))
                go_wp2_with fail
                refine (HCB.out).mono ?_
                rintro e w8 ⟨A8, n8, c8, rfl, ho8, hb8⟩
                obtain rfl : data.length = n8 := ho8.len
                have hbx8 := below_next hbx7 hb8 (by omega)
                have hbf : BF (fun b => F1 b ∨ w.heap.size + 2 ≤ b) w8 A8 c8 data := (BF.own ho8).keep ⟨Nat.le_refl _, fun _ _ _ => rfl⟩ fun b hb _ => .inr (by unfold From at hb; omega)
                have HWJ := Lib.hid (refWith_any (⟨q, data, 0, own, 0, 0⟩ : Lf) A8 c8 A7 c7 (tWith a t) (fun b => F1 b ∨ w.heap.size + 2 ≤ b) w8 (HR7.out.below hb8) hbf (by have := tWith_len a t; omega))
                clear hb8 ho8 hbf
                clear j0 j1 z1 kb hs hbw
                obtain ⟨j0, j1, z1, kb, hs, hbw⟩ := HKW.out w8 hbx8
                go_wp2_with fail
                refine (HWJ.out).mono ?_
                rintro e w9 ⟨hb9, A9, c9, rfl, hr9⟩
                have hbx9 := below_next hbx8 hb9 (by omega)
                have hr9x := (freshW_rds hr9 (show w.heap.size + 2 ≤ w8.heap.size by omega)).keep (F' := fun b => F1 b ∨ w.heap.size + 2 ≤ b) (w' := w9) ⟨Nat.le_refl _, fun _ _ _ => rfl⟩ fun b hb _ => hb.elim id .inr
                have HR9 := Lib.hid hr9x
                clear hb9 hr9 hr9x
                clear j0 j1 z1 kb hs hbw
                obtain ⟨j0, j1, z1, kb, hs, hbw⟩ := HKW.out w9 hbx9
                go_wp2_with fail
                have g1 := (HKW.out w9 hbx9).2.2.2.1
                have kk := g1.set 0 (.slice A9 (tWith (⟨q, data, 0, own, 0, 0⟩ : Lf) (tWith a t)).length c9)
                refine bodyPost_ret_by (results_tree2 rfl _ _ (w.heap.size + 1) 30 _ _ rfl kk Tryz.underlying30 rfl info_tree1) rfl ?_
                rw [HV.out]
                have hr := HR9.out
                rw [HF1.out] at hr
                exact HDN.out w9 A9 c9 _ _ hbw hr _
              · have eb : max born 0 = born := by omega
                have HV := Lib.hid HV1.out
                rw [eo, eb] at HV
                clear eo eb HV1
                go_enter Tryz.func16, Tryz.ntmps16
                go_wp2_with fail
                rw [← HWE.out]
                refine (HP.out _).mono ?_
                rintro e w1 ⟨rfl, hb1⟩
                have hbx1 : Below (w.heap.size + 2) W2 w1 := by have := HS2.out; rw [← this]; exact hb1
                clear hb1
                clear j0 j1 z1 kb hs hbw
                obtain ⟨j0, j1, z1, kb, hs, hbw⟩ := HKW.out w1 hbx1
                go_wp2_with fail
                refine (HA.out _ (HKW.out w1 hbx1).2.2.2.2.2).mono ?_
                rintro e w2 ⟨rfl, hb2⟩
                have hbx2 := below_next hbx1 hb2 (by omega)
                clear hb2
                clear j0 j1 z1 kb hs hbw
                obtain ⟨j0, j1, z1, kb, hs, hbw⟩ := HKW.out w2 hbx2
                have hs22 : w.heap.size + 2 ≤ w2.heap.size := hs
                obtain ⟨c0, c1, c2, c3, c4, c5⟩ := HCW.out w2 hbw
                obtain ⟨w3, hw3⟩ : ∃ w3, w3 = w2.alloc (.cells #[.string ⟨a.path.toArray⟩, .slice PA a.data.length PC, .int .i64 a.ver, .int .i64 a.own, .int .i64 a.next, .int .i64 a.born] 50) := ⟨_, rfl⟩
                have hbx3 : Below (w.heap.size + 2) W2 w3 := by rw [hw3]; exact hbx2.alloc (by omega) (.cells #[.string ⟨a.path.toArray⟩, .slice PA a.data.length PC, .int .i64 a.ver, .int .i64 a.own, .int .i64 a.next, .int .i64 a.born] 50)
                have hbox : Bk w3 w2.heap.size 50 (lfC a PA PC) := by rw [hw3]; exact Bk.new w2 50 (lfC a PA PC)
                have HBX := Lib.hid hbox
                have hs23 : w2.heap.size < w3.heap.size := hbox.lt
                have HW3 := Lib.hid hw3
                clear hw3 hbox
                go_upto_region 10 with fail
                rw [← HW3.out]
                clear c0 c1 c2 c3 c4 c5
                clear j0 j1 z1 kb hs hbw
                obtain ⟨j0, j1, z1, kb, hs, hbw⟩ := HKW.out w3 hbx3
                have l0 : w3.cell? ⟨w2.heap.size, 0, none⟩ = some (.string ⟨a.path.toArray⟩) := HBX.out.at_ rfl
                have l1 : w3.cell? ⟨w2.heap.size, 1, none⟩ = some (.slice PA a.data.length PC) := HBX.out.at_ rfl
                have l2 : w3.cell? ⟨w2.heap.size, 2, none⟩ = some (.int .i64 a.ver) := HBX.out.at_ rfl
                have l3 : w3.cell? ⟨w2.heap.size, 3, none⟩ = some (.int .i64 a.own) := HBX.out.at_ rfl
                have l4 : w3.cell? ⟨w2.heap.size, 4, none⟩ = some (.int .i64 a.next) := HBX.out.at_ rfl
                have l5 : w3.cell? ⟨w2.heap.size, 5, none⟩ = some (.int .i64 a.born) := HBX.out.at_ rfl
                go_wp2_with fail
                have hs2x : w2.heap.size < w3.heap.size := HBX.out.lt
                go_wp2_with fail
                refine (HA2.out _ (HKW.out w3 hbx3).2.2.2.2.2).mono ?_
                rintro e w6 ⟨rfl, hb6⟩
                have hbx6 := below_next hbx3 hb6 (by omega)
                have HB6 := Lib.hid (HBX.out.kept hb6)
                clear hb6 l0 l1 l2 l3 l4 l5
                clear j0 j1 z1 kb hs hbw
                obtain ⟨j0, j1, z1, kb, hs, hbw⟩ := HKW.out w6 hbx6
                have l0 : w6.cell? ⟨w2.heap.size, 0, none⟩ = some (.string ⟨a.path.toArray⟩) := HB6.out.at_ rfl
                have l1 : w6.cell? ⟨w2.heap.size, 1, none⟩ = some (.slice PA a.data.length PC) := HB6.out.at_ rfl
                have l2 : w6.cell? ⟨w2.heap.size, 2, none⟩ = some (.int .i64 a.ver) := HB6.out.at_ rfl
                have l3 : w6.cell? ⟨w2.heap.size, 3, none⟩ = some (.int .i64 a.own) := HB6.out.at_ rfl
                have l4 : w6.cell? ⟨w2.heap.size, 4, none⟩ = some (.int .i64 a.next) := HB6.out.at_ rfl
                have l5 : w6.cell? ⟨w2.heap.size, 5, none⟩ = some (.int .i64 a.born) := HB6.out.at_ rfl
                have HWI := Lib.hid (refWith_any a PA PC (some y) c t F1 w6 (HR.out.below hbw) (HPB.out.below hbw) hn)
                go_wp2_with fail
                refine (HWI.out).mono ?_
                rintro e w7 ⟨hb7, A7, c7, rfl, hr7⟩
                have hbx7 := below_next hbx6 hb7 (by omega)
                have hr7x := freshW_rds hr7 (show w.heap.size + 2 ≤ w6.heap.size by omega)
                have HR7 := Lib.hid hr7x
                clear hb7 hr7 hr7x l0 l1 l2 l3 l4 l5
                clear j0 j1 z1 kb hs hbw
                obtain ⟨j0, j1, z1, kb, hs, hbw⟩ := HKW.out w7 hbx7
                have HCB := Lib.hid (copyBytes_big DA data.length DC data w7 (HD.out.below hbw).rd (by omega))
                go_wp2_with fail
                refine (HCB.out).mono ?_
                rintro e w8 ⟨A8, n8, c8, rfl, ho8, hb8⟩
                obtain rfl : data.length = n8 := ho8.len
                have hbx8 := below_next hbx7 hb8 (by omega)
                have hbf : BF (fun b => F1 b ∨ w.heap.size + 2 ≤ b) w8 A8 c8 data := (BF.own ho8).keep ⟨Nat.le_refl _, fun _ _ _ => rfl⟩ fun b hb _ => .inr (by unfold From at hb; omega)
                have HWJ := Lib.hid (refWith_any (⟨q, data, 0, own, 0, born⟩ : Lf) A8 c8 A7 c7 (tWith a t) (fun b => F1 b ∨ w.heap.size + 2 ≤ b) w8 (HR7.out.below hb8) hbf (by have := tWith_len a t; omega))
                clear hb8 ho8 hbf
                clear j0 j1 z1 kb hs hbw
                obtain ⟨j0, j1, z1, kb, hs, hbw⟩ := HKW.out w8 hbx8
                go_wp2_with fail
                refine (HWJ.out).mono ?_
                rintro e w9 ⟨hb9, A9, c9, rfl, hr9⟩
                have hbx9 := below_next hbx8 hb9 (by omega)
                have hr9x := (freshW_rds hr9 (show w.heap.size + 2 ≤ w8.heap.size by omega)).keep (F' := fun b => F1 b ∨ w.heap.size + 2 ≤ b) (w' := w9) ⟨Nat.le_refl _, fun _ _ _ => rfl⟩ fun b hb _ => hb.elim id .inr
                have HR9 := Lib.hid hr9x
                clear hb9 hr9 hr9x
                clear j0 j1 z1 kb hs hbw
                obtain ⟨j0, j1, z1, kb, hs, hbw⟩ := HKW.out w9 hbx9
                go_wp2_with fail
                have g1 := (HKW.out w9 hbx9).2.2.2.1
                have kk := g1.set 0 (.slice A9 (tWith (⟨q, data, 0, own, 0, born⟩ : Lf) (tWith a t)).length c9)
                refine bodyPost_ret_by (results_tree2 rfl _ _ (w.heap.size + 1) 30 _ _ rfl kk Tryz.underlying30 rfl info_tree1) rfl ?_
                rw [HV.out]
                have hr := HR9.out
                rw [HF1.out] at hr
                exact HDN.out w9 A9 c9 _ _ hbw hr _
end Go.Proofs.YtgppclmofphlfaaGreatDoor
