/-
  The reference's log: area, where a frame's numbers stand. A walk; no statement.
-/
import Derived.Test.YtmiejaohkgemnaaDoorRefLog4
namespace Go.Proofs.YtmiejaohkgemnaaDoor
open Go.RowKit
open Pk Sh
set_option linter.unusedVariables false
set_option maxRecDepth 100000

theorem bkD {w : World} {g : Nat} {t : TypeId} {cs : List Value} (h : Bk w g t cs) : Bk w.drew g t cs := h
theorem rowsD {w : World} {base n c : Nat} {A : Option Addr} {ls : List (List UInt8)} (h : OwnRs w base A n c ls) : OwnRs w.drew base A n c ls := h.drewN 1
set_option maxHeartbeats 6400000 in
theorem refArea5_go (A : Option Addr) (n c : Nat) (b : List UInt8) (w : World) (h : Sl w A n c b) (hn : n ≤ 4294967296) (h0 : ∃ x : Lg.Ar, Lg.area b = some x ∧ 1 ≤ x.gen) :
    Calls Tryd.prog 37 #[.slice A n c] w (AreaR b w) := by
  have H0 := Lib.hid h0
  have HA := Lib.hid h
  have HN := Lib.hid hn
  have HL := Lib.hid h.len
  have hb1 := ((Below.refl w.heap.size w).alloc (Nat.le_refl _) (.cells (lgV 0 0 (.slice none 0 0)).toArray 39)).alloc (by simp) (.cells (lgV 0 0 (.slice none 0 0)).toArray 39)
  have HB1 := Lib.hid hb1
  have HK0 := Lib.hid ((Bk.new w 39 (lgV 0 0 (.slice none 0 0))).alloc (.cells (lgV 0 0 (.slice none 0 0)).toArray 39))
  have HK1 := Lib.hid (bk_new2 w (.cells (lgV 0 0 (.slice none 0 0)).toArray 39) (lgV 0 0 (.slice none 0 0)) 39)
  have HNX := Lib.hid (refNext A n c b _ (h.below hb1).rd h.1 (by omega))
  clear h hn hb1 h0
  go_enter Tryd.func37, Tryd.ntmps37
  go_wp2_with fail
  refine HNX.out.mono ?_
  rintro e w2 ⟨hb2, ⟨hc, rfl⟩ | ⟨s, p, r, A2, c2, hc, rfl, hs2⟩⟩
  · obtain ⟨x, hx, _⟩ := H0.out
    rw [Lg.area_none hc] at hx
    cases hx
  · have HC := Lib.hid hc
    have HFI := Lib.hid (fun g k => Lg.frame_is (g := g) (k := k) hc)
    have hcl := Lg.cut_len hc
    have hcs := Lg.cut_some hc
    have HP := Lib.hid hcs.2.2
    have HCL := Lib.hid hcl
    have HZ := Lib.hid (HK0.out.kept hb2)
    have HY := Lib.hid (HK1.out.kept hb2)
    have HB2 := Lib.hid (below_next HB1.out hb2 HB1.out.size)
    have HS2 := Lib.hid hs2
    have HI := Lib.hid (refInts_any A2 p.length c2 p w2 hs2.rd hs2.1 hs2.2.1 (by have := HP.out; omega))
    clear hc hb2 hs2 hcl hcs HNX HK0 HK1
    go_wp2_with fail
    refine HI.out.mono ?_
    rintro e w3 ⟨hb3, ⟨hz, rfl⟩ | ⟨hz, A4, n4, c4, rfl, ho4⟩⟩
    · obtain ⟨x, hx, _⟩ := H0.out
      rw [Lg.area_bad HC.out (.inl hz)] at hx
      cases hx
    · have hl4 := ho4.len
      have HZ3 := Lib.hid (HZ.out.kept hb3)
      have HY3 := Lib.hid (HY.out.kept hb3)
      have HB3 := Lib.hid (below_next HB2.out hb3 HB2.out.size)
      have HS3 := Lib.hid (HS2.out.below hb3)
      obtain ⟨q0, q1, q2, q3, q4, q5, q6, q7, q8⟩ := HY3.out.nine
      obtain ⟨z0, z1, z2, z3, z4, z5, z6, z7, z8⟩ := HZ3.out.nine
      obtain ⟨u0, u1, u2, u3, u4, u5, u6, u7, u8⟩ := HZ3.out.nine_free
      by_cases h2 : n4 = 2
      · subst h2
        obtain ⟨g, l, hgl, hg, hl⟩ := ints_two p hz hl4
        rw [hgl] at ho4
        have HG := Lib.hid hg
        have HLL := Lib.hid hl
        have HRES := Lib.hid (Lg.area_two HC.out hgl)
        obtain ⟨gi, cap, hv, hge, hlt⟩ := ho4.form (by omega)
        have HGI := Lib.hid (show w.heap.size + 1 < gi from Nat.lt_of_lt_of_le HY.out.lt hge)
        have hA4 : A4 = some ⟨gi, 0, none⟩ := by injection hv
        subst hA4
        obtain ⟨gz, hgz⟩ : ∃ gz : Int, gz = (g : Int) := ⟨_, rfl⟩
        have i0 : w3.cell? ⟨gi, 0, none⟩ = some (.int .i64 gz) := by
          have := ho4.cells (g := gi) rfl 0 (.int .i64 (g : Int)) rfl
          rw [hgz]
          simpa [at_add] using this
        have HGZ := Lib.hid hgz
        have i1 : w3.cell? ⟨gi, 1, none⟩ = some (.int .i64 (l : Int)) := by
          have := ho4.cells (g := gi) rfl 1 (.int .i64 (l : Int)) rfl
          simpa [at_add] using this
        have HLI := Lib.hid (show gi < w3.heap.size from hlt)
        clear hb3 hz hl4 ho4 hv hge hlt hgl hg hl hgz HI HS2 HZ HY
        by_cases hg1 : 1 ≤ g
        · have HG1 := Lib.hid hg1
          have y1 : ¬ gz < 1 := by have := HGZ.out; omega
          have y2 : decide (gz < 1) = false := decide_eq_false y1
          have hsl := slice_h A n c (b.length - r.length) (by have := HL.out; have := HA.out.1; omega) HA.out.2.1
          obtain ⟨a0, ha0⟩ : ∃ a0, a0 = b.length - r.length := ⟨_, rfl⟩
          rw [← ha0] at hsl ⊢
          have HA0 := Lib.hid ha0
          have HFR := Lib.hid (show ∀ W, Below w3.heap.size w3 W → Calls Tryd.prog 43 #[.int .i64 gz, .int .i64 0, .slice A2 p.length c2] W (fun e w' => ∃ A5 n5 c5, e = .returned (.slice A5 n5 c5) ∧ OwnB w' w3.heap.size A5 n5 c5 (Lg.frame g 0 p) ∧ Below w3.heap.size w3 w') from fun W hW => by
            rw [HGZ.out]
            exact (refFrame g 0 A2 p.length c2 p W (HS3.out.rd.below hW) (by have := HP.out; omega) HG.out (by omega)).mono fun e w' ⟨A5, n5, c5, he, ho, hb⟩ => ⟨A5, n5, c5, he, ho.more hW.size, below_next hW hb hW.size⟩)
          have HSB := Lib.hid (show ∀ A5 n5 c5 W, Below w3.heap.size w3 W → OwnB W w3.heap.size A5 n5 c5 (Lg.frame g 0 p) → Calls Tryd.prog 34 #[.slice A5 n5 c5, .slice A a0 c] W (fun e w' => e = .returned (.bool (decide (s = Lg.dig g 0 p))) ∧ Below w3.heap.size w3 w') from fun A5 n5 c5 W hW ho => by
            have hx := sameBytes_any A5 A n5 a0 c5 c W (Lg.frame g 0 p) (b.take a0) ho.rd (by rw [List.map_take]; exact (((HA.out.below HB3.out).below hW).rd.front (by have := HL.out; omega))) (by have := own_cap ho; omega)
            rw [show decide (Lg.frame g 0 p = b.take a0) = decide (s = Lg.dig g 0 p) by rw [ha0]; exact decide_eq_decide.2 (HFI.out g 0)] at hx
            exact hx.mono fun e w' ⟨he, m, hw⟩ => ⟨he, by rw [hw]; exact below_drewN hW m⟩)
          have hw := Below.refl w3.heap.size w3
          clear hg1 ha0
          cases hd : decide (s = Lg.dig g 0 p)
          · obtain ⟨x, hx, _⟩ := H0.out
            rw [HRES.out, if_neg (by simpa using hd)] at hx
            cases hx
          · rw [hd] at HSB
            have hde : s = Lg.dig g 0 p := by simpa using hd
            have HAR := Lib.hid (show Lg.area b = some ⟨g, l, (Lg.recs g r.length 1 r).1, (Lg.recs g r.length 1 r).2⟩ by rw [HRES.out, if_pos hde])
            clear hd hde q0 q1 q2 q3 q4 q5 q6 q7 q8 z0 z1 z2 z3 z4 z5 z6 z7 z8 u0 u1 u2 u3 u4 u5 u6 u7 u8
            go_wp2_with fail
            go_region_held3 (fun w' => w'.cell? ⟨gi, 0, none⟩ = some (.int .i64 gz)) (first | go_keep | exact i0 | exact (hw.cell (p := ⟨gi, 0, none⟩) HLI.out).trans i0)
              (first
                | (go_at_call 43; with_reducible refine (HFR.out _ ?_).mono ?_
                   focus first | with_reducible exact hw | with_reducible exact below_drew hw
                   rintro e w4 ⟨A5, n5, c5, rfl, fo, hw'⟩
                   replace hw := hw'
                   clear hw')
                | (go_at_call 34; with_reducible refine (HSB.out _ _ _ _ ?_ ?_).mono ?_
                   focus first | with_reducible exact hw | with_reducible exact below_drew hw
                   focus first | with_reducible exact fo | exact fo
                   rintro e w5 ⟨rfl, hw'⟩
                   replace hw := hw'
                   clear hw'))
            have j0 := (hw.cell (p := ⟨gi, 0, none⟩) HLI.out).trans i0
            have j1 := (hw.cell (p := ⟨gi, 1, none⟩) HLI.out).trans i1
            clear i0 i1
            have HB4 := Lib.hid (below_next HB3.out hw HB3.out.size)
            have HZ4 := Lib.hid (HZ3.out.kept hw)
            have HY4 := Lib.hid (HY3.out.kept hw)
            obtain ⟨q0, q1, q2, q3, q4, q5, q6, q7, q8⟩ := HY4.out.nine
            obtain ⟨u0, u1, u2, u3, u4, u5, u6, u7, u8⟩ := HY4.out.nine_free
            have hne1 : ¬ gi = w.heap.size + 1 := by have := HGI.out; omega
            have hne2 : ¬ w.heap.size + 1 = gi := by have := HGI.out; omega
            clear hw
            go_wp2_with fail
            obtain ⟨wl, hwl⟩ : ∃ wl, wl = (w5.setCell ⟨w.heap.size + 1, 6, none⟩ (.int .i64 gz)).setCell ⟨w.heap.size + 1, 7, none⟩ (.int .i64 (l : Int)) := ⟨_, rfl⟩
            rw [← hwl]
            obtain ⟨x, hx⟩ : ∃ x : Lg.Ar, x = ⟨g, l, (Lg.recs g r.length 1 r).1, (Lg.recs g r.length 1 r).2⟩ := ⟨_, rfl⟩
            have HX := Lib.hid hx
            have HAR := Lib.hid (show Lg.area b = some x by rw [hx]; exact HAR.out)
            have HAT := Lib.hid (show RvAt w b x (.int .i64 (a0 : Nat)) wl from by
              refine ⟨[], none, 0, a0, r.length, rfl, by rw [HA0.out]; omega, ?_, ?_, ?_, ⟨rfl, [], World.ownsRow_nil _ _ _ _, by simp⟩, Nat.zero_le _, by rw [HA0.out, Lg.cut_drop HC.out]; exact Nat.le_refl _, ?_, ?_⟩
              · rw [hwl]; exact (HZ4.out.far (p := ⟨w.heap.size + 1, 6, none⟩) (by show w.heap.size ≠ w.heap.size + 1; omega) _).far (p := ⟨w.heap.size + 1, 7, none⟩) (by show w.heap.size ≠ w.heap.size + 1; omega) _
              · rw [hwl, HGZ.out, hx]; exact (HY4.out.set 6 _).set 7 _
              · rw [hwl]; exact below_set (below_set HB4.out (by omega) 6 _) (by omega) 7 _
              · rw [hx, HA0.out, Lg.cut_drop HC.out]; rfl
              · rw [hx, HA0.out, Lg.cut_drop HC.out]; rfl)
            have HG1 := Lib.hid (show 1 ≤ x.gen ∧ x.gen < 4611686018427387904 by rw [hx]; exact ⟨HG1.out, HG.out⟩)
            clear hwl hx j0 j1 hne1 hne2 y1 y2 q0 q1 q2 q3 q4 q5 q6 q7 q8 u0 u1 u2 u3 u4 u5 u6 u7 u8 hsl
            clear HSB HFR HZ4 HY4 HB4 HZ3 HY3 HB3 HS3 HGZ HRES HLI HA0 HG HLL HGI HFI HC
            go_loopw [7] (fun v wr => RvAt w b x v wr) (fun v _ => n - (intOf v).toNat)
            case atStart => exact HAT.out
            case round =>
              clear HAT
              obtain ⟨acc, L, lc, a, f, rfl, ha, hz, hy, hb, ho, haa, hf, h1, h2⟩ := hrel
              rename World => wr
              have hsn := ((HA.out.below hb).snd (k := a) (by have := HL.out; omega))
              have hnx := refNext (cutA A c a) (n - a) (c - a) (b.drop a) wr hsn.rd hsn.1 (by have := HN.out; omega)
              have hsl := slice_l A n c a (by have := HL.out; omega) HA.out.1 HA.out.2.1
              have HNX := Lib.hid hnx
              have HSN := Lib.hid hsn
              have HZ := Lib.hid hz
              have HY := Lib.hid hy
              have HB := Lib.hid hb
              have HO := Lib.hid ho
              have HF := Lib.hid hf
              have HE := Lib.hid (And.intro h1 h2)
              have HAL := Lib.hid (And.intro ha haa)
              clear hsn hnx hz hy hb ho haa hf h1 h2
              go_wp2_with fail
              refine HNX.out.mono ?_
              rintro e w7 ⟨hb7, ⟨hc, rfl⟩ | ⟨s2, p2, r2, A7, c7, hc, rfl, hs7⟩⟩
              · have hl : acc = x.list := by rw [HE.out.1, Lg.recs_none hc, List.append_nil]
                have hr : b.drop a = x.rest := by rw [HE.out.2, Lg.recs_none hc]
                subst hl
                have HB7 := Lib.hid (below_next HB.out hb7 HB.out.size)
                have HO7 := Lib.hid (HO.out.below hb7)
                have HZ7 := Lib.hid (HZ.out.kept hb7)
                have HRA := Lib.hid (show a = b.length - x.rest.length by rw [← hr, List.length_drop]; have := HAL.out; omega)
                have HOZ := Lib.hid (fun (m : Nat) (v0 v1 v2 v3 v4 v5 v6 v7 v8 : Value) => own_nine (HO7.out.drewN m) (HZ7.out.drewN m) v0 v1 v2 v3 v4 v5 v6 v7 v8)
                obtain ⟨q0, q1, q2, q3, q4, q5, q6, q7, q8⟩ := (HY.out.kept hb7).nine
                obtain ⟨z0, z1, z2, z3, z4, z5, z6, z7, z8⟩ := HZ7.out.nine
                obtain ⟨u0, u1, u2, u3, u4, u5, u6, u7, u8⟩ := HZ7.out.nine_free
                clear hc hb7
                go_wp2_with fail
                go_quiet (fail)
                go_wp2_with fail
                go_region
                go_wp2_with fail
                refine bodyPost_ret_by (results_row_tmp2 rfl _ _ w.heap.size 39 _ _ rfl (nine_set (HZ7.out.drewN _) _ _ _ _ _ _ _ _ _) Tryd.underlying39 rfl info_log5) rfl ?_
                exact area_r1 (nine_below (below_drewN HB7.out _) (Nat.le_refl _) _ _ _ _ _ _ _ _ _) HAR.out HG1.out.1 (HOZ.out _ _ _ _ _ _ _ _ _ _) HRA.out
              · have hcl := Lg.cut_len hc
                obtain ⟨k2, hk2⟩ : ∃ k2, k2 = (b.drop a).length - r2.length := ⟨_, rfl⟩
                have hfi := Lg.frame_is (g := x.gen) (k := acc.length + 1) hc
                rw [← hk2] at hfi ⊢
                have hlen : (b.drop a).length = n - a := by rw [List.length_drop, HL.out]
                have HK2 := Lib.hid (show 5 ≤ k2 ∧ a + k2 ≤ n by have := HAL.out; have := HL.out; omega)
                have HP2 := Lib.hid (Lg.cut_some hc).2.2
                have HCD := Lib.hid (show b.drop (a + k2) = r2 by rw [← List.drop_drop, hk2, Lg.cut_drop hc])
                have HC2 := Lib.hid hc
                have HCL := Lib.hid hcl
                have HFI := Lib.hid hfi
                have hsb : ∀ wx, (Instr.slice 32 (.slice A n c) (some (.int .i64 (a : Int))) (some (.int .i64 ((a : Int) + (k2 : Int)))) none).run Tryd.prog wx = .ok (.slice (cutA A c a) k2 (c - a)) wx := fun wx => by
                  have := slice_lh A n c a (a + k2) (by omega) (by have := HA.out.1; have := HK2.out; omega) HA.out.2.1 wx
                  rw [Nat.add_sub_cancel_left] at this
                  exact this
                have wk : IntKind.i64.wrap ((a : Int) + (k2 : Int)) = (a : Int) + (k2 : Int) := by have := HK2.out; have := HN.out; simp only [IntKind.wrap, IntKind.bits, IntKind.signed]; simp; omega
                have w1' : IntKind.i64.wrap ((acc.length : Int) + 1) = (acc.length : Int) + 1 := by have := HAL.out; have := HK2.out; have := HN.out; simp only [IntKind.wrap, IntKind.bits, IntKind.signed]; simp; omega
                have HY7 := Lib.hid (HY.out.kept hb7)
                have HZ7 := Lib.hid (HZ.out.kept hb7)
                have HB7 := Lib.hid (below_next HB.out hb7 HB.out.size)
                have HO7 := Lib.hid (HO.out.below hb7)
                have HS7 := Lib.hid hs7
                have hw := Below.refl w7.heap.size w7
                have HFR := Lib.hid (show ∀ W, Below w7.heap.size w7 W → Calls Tryd.prog 43 #[.int .i64 (x.gen : Int), .int .i64 ((acc.length : Int) + 1), .slice A7 p2.length c7] W (fun e w' => ∃ A5 n5 c5, e = .returned (.slice A5 n5 c5) ∧ OwnB w' w7.heap.size A5 n5 c5 (Lg.frame x.gen (acc.length + 1) p2) ∧ Below w7.heap.size w7 w') from fun W hW =>
                  (refFrame x.gen (acc.length + 1) A7 p2.length c7 p2 W (HS7.out.rd.below hW) (by have := HP2.out; omega) HG1.out.2 (by have := HAL.out; have := HK2.out; have := HN.out; omega)).mono fun e w' ⟨A5, n5, c5, he, ho, hb⟩ => ⟨A5, n5, c5, he, ho.more hW.size, below_next hW hb hW.size⟩)
                have HSB := Lib.hid (show ∀ A5 n5 c5 W, Below w7.heap.size w7 W → OwnB W w7.heap.size A5 n5 c5 (Lg.frame x.gen (acc.length + 1) p2) → Calls Tryd.prog 34 #[.slice A5 n5 c5, .slice (cutA A c a) k2 (c - a)] W (fun e w' => e = .returned (.bool (decide (s2 = Lg.dig x.gen (acc.length + 1) p2))) ∧ Below w7.heap.size w7 w') from fun A5 n5 c5 W hW ho => by
                  have hx := sameBytes_any A5 (cutA A c a) n5 k2 c5 (c - a) W (Lg.frame x.gen (acc.length + 1) p2) ((b.drop a).take k2) ho.rd (((((HA.out.below HB7.out).below hW).snd (k := a) (by have := HK2.out; omega)).fst (k := k2) (by have := HK2.out; omega)).rd) (by have := own_cap ho; omega)
                  rw [show decide (Lg.frame x.gen (acc.length + 1) p2 = (b.drop a).take k2) = decide (s2 = Lg.dig x.gen (acc.length + 1) p2) from decide_eq_decide.2 HFI.out] at hx
                  exact hx.mono fun e w' ⟨he, m, hw⟩ => ⟨he, by rw [hw]; exact below_drewN hW m⟩)
                obtain ⟨y0, y1, y2, y3, y4, y5, y6, y7, y8⟩ := HY7.out.nine
                clear hcl hk2 hfi hlen hc hb7 hs7 HNX HSN HY HZ HB HO y0 y1 y2 y3 y4 y5 y7
                cases hd : decide (s2 = Lg.dig x.gen (acc.length + 1) p2)
                · rw [hd] at HSB
                  have hl : acc = x.list := by rw [HE.out.1, Lg.recs_bad HC2.out (by simpa using hd), List.append_nil]
                  have hr : b.drop a = x.rest := by rw [HE.out.2, Lg.recs_bad HC2.out (by simpa using hd)]
                  subst hl
                  have HRA := Lib.hid (show a = b.length - x.rest.length by rw [← hr, List.length_drop]; have := HAL.out; omega)
                  clear hd hr
                  go_wp2_with fail
                  go_region_held3 (fun w' => w'.cell? ⟨w.heap.size + 1, 6, none⟩ = some (.int .i64 (x.gen : Int)) ∧ w'.cell? ⟨w.heap.size + 1, 8, none⟩ = some (.slice L x.list.length lc)) (first | go_keep | exact ⟨y6, y8⟩ | exact ⟨(HY7.out.kept hw).at_ rfl, (HY7.out.kept hw).at_ rfl⟩)
                    (first
                      | (go_at_call 43; with_reducible refine (HFR.out _ ?_).mono ?_
                         focus first | with_reducible exact hw | with_reducible exact below_drew hw
                         rintro e w8 ⟨A5, n5, c5, rfl, fo, hw'⟩
                         replace hw := hw'
                         clear hw')
                      | (go_at_call 34; with_reducible refine (HSB.out _ _ _ _ ?_ ?_).mono ?_
                         focus first | with_reducible exact hw | with_reducible exact below_drew hw
                         focus first | with_reducible exact fo | exact fo
                         rintro e w9 ⟨rfl, hw'⟩
                         replace hw := hw'
                         clear hw'))
                  have hz7 := HZ7.out.kept hw
                  have ho7 := HO7.out.below hw
                  have HB7 := Lib.hid (below_next HB7.out hw HB7.out.size)
                  have HOZ := Lib.hid (fun (v0 v1 v2 v3 v4 v5 v6 v7 v8 : Value) => rowsD (own_nine ho7 hz7 v0 v1 v2 v3 v4 v5 v6 v7 v8))
                  obtain ⟨q0, q1, q2, q3, q4, q5, q6, q7, q8⟩ := (HY7.out.kept hw).nine
                  obtain ⟨z0, z1, z2, z3, z4, z5, z6, z7, z8⟩ := hz7.nine
                  obtain ⟨u0, u1, u2, u3, u4, u5, u6, u7, u8⟩ := hz7.nine_free
                  have HZ7 := Lib.hid hz7
                  clear hw y6 y8 hz7 ho7
                  go_wp2_with fail
                  go_region
                  go_wp2_with fail
                  refine bodyPost_ret_by (results_row_tmp2 rfl _ _ w.heap.size 39 _ _ rfl (bkD (nine_set HZ7.out _ _ _ _ _ _ _ _ _)) Tryd.underlying39 rfl info_log5) rfl ?_
                  exact area_r1 (below_drew (nine_below HB7.out (Nat.le_refl _) _ _ _ _ _ _ _ _ _)) HAR.out HG1.out.1 (HOZ.out _ _ _ _ _ _ _ _ _) HRA.out
                · rw [hd] at HSB
                  have hde : s2 = Lg.dig x.gen (acc.length + 1) p2 := by simpa using hd
                  have HDE := Lib.hid hde
                  clear hd hde
                  go_wp2_with fail
                  go_region_held3 (fun w' => w'.cell? ⟨w.heap.size + 1, 6, none⟩ = some (.int .i64 (x.gen : Int)) ∧ w'.cell? ⟨w.heap.size + 1, 8, none⟩ = some (.slice L acc.length lc)) (first | go_keep | exact ⟨y6, y8⟩ | exact ⟨(HY7.out.kept hw).at_ rfl, (HY7.out.kept hw).at_ rfl⟩)
                    (first
                      | (go_at_call 43; with_reducible refine (HFR.out _ ?_).mono ?_
                         focus first | with_reducible exact hw | with_reducible exact below_drew hw
                         rintro e w8 ⟨A5, n5, c5, rfl, fo, hw'⟩
                         replace hw := hw'
                         clear hw')
                      | (go_at_call 34; with_reducible refine (HSB.out _ _ _ _ ?_ ?_).mono ?_
                         focus first | with_reducible exact hw | with_reducible exact below_drew hw
                         focus first | with_reducible exact fo | exact fo
                         rintro e w9 ⟨rfl, hw'⟩
                         replace hw := hw'
                         clear hw'))
                  have HO9 := Lib.hid (HO7.out.below hw)
                  have HB9 := Lib.hid (below_next HB7.out hw HB7.out.size)
                  have HS9 := Lib.hid (HS7.out.below hw)
                  have HZ9 := Lib.hid (HZ7.out.kept hw)
                  have HY9 := Lib.hid (HY7.out.kept hw)
                  have q8 : w9.cell? ⟨w.heap.size + 1, 8, none⟩ = some (.slice L acc.length lc) := HY9.out.at_ rfl
                  have hlt : w.heap.size + 1 < w9.heap.size := HY9.out.lt
                  have HCB := Lib.hid (show ∀ W, Below w9.heap.size w9 W → Calls Tryd.prog 31 #[.slice A7 p2.length c7] W (fun e w' => ∃ A5 n5 c5, e = .returned (.slice A5 n5 c5) ∧ OwnB w' w9.heap.size A5 n5 c5 p2 ∧ Below w9.heap.size w9 w') from fun W hW =>
                    (copyBytes_any A7 p2.length c7 p2 W (HS9.out.rd.below hW) (by have := HP2.out; omega)).mono fun e w' ⟨A5, n5, c5, he, ho, hb⟩ => ⟨A5, n5, c5, he, ho.more hW.size, below_next hW hb hW.size⟩)
                  clear hw y6 y8
                  have hw := Below.refl w9.heap.size w9
                  clear HFR HSB HFI
                  go_wp2_with fail
                  obtain ⟨j0, hi, hz0, hz1, hz2⟩ := info_parts info_bytes
                  go_region_law (first
                    | (obtain ⟨hl0, us, hou, hin⟩ := HO9.out.below hw
                       have HIN := Lib.hid (And.intro hl0 (And.intro hou hin))
                       clear hin
                       refine step_append_rd rfl (.tmp 100) (.tmp 103) 37 rfl w.heap.size 32 j0 _ 24 Tryd.underlying37 hi hz0 hz1 hz2 rfl L acc.length lc us rfl (World.ownsRow.alloc hou _) (some ⟨w10.heap.size, 0, none⟩) 1 1 [.slice A10 n10 c10] rfl
                         (Rd.new w10 [Value.slice A10 n10 c10] 32) (by simp [Value.oneCell']) (by have := HAL.out; have := HL.out; have := HN.out; simp only [maxLen]; omega) (by have := HAL.out; have := HL.out; have := HN.out; omega) (by have := hw.size; have := HY9.out.lt; simp; omega) ?_
                       intro A11 c11 w11 hown11 hg11 hrow11
                       have hk11 := (((HY9.out.kept hw).alloc (.cells #[.slice A10 n10 c10] 32)).grown hg11.out (fun e => own_bk_ne (World.ownsRow.alloc hou _) ((HY9.out.kept hw).alloc (.cells #[.slice A10 n10 c10] 32)) (by decide) e.symm))
                       have u8 := hk11.frozen 8
                       have y8 : w11.cell? ⟨w.heap.size + 1, 8, none⟩ = some (.slice L acc.length lc) := hk11.at_ rfl
                       have HK11 := Lib.hid hk11
                       clear hk11 hou hl0)
                    | (go_simp
                       go_at_call 31
                       with_reducible refine (HCB.out _ ?_).mono ?_
                       focus first | with_reducible exact hw | with_reducible exact below_drew hw
                       rintro e w10 ⟨A10, n10, c10, rfl, fo, hw'⟩
                       have q8' : w10.cell? ⟨w.heap.size + 1, 8, none⟩ = some (.slice L acc.length lc) := (HY9.out.kept hw').at_ rfl
                       have hlt' := (HY9.out.kept hw').lt
                       replace hw := hw'
                       clear hw'))
                  all_goals
                    have hz11 := (((HZ9.out.kept hw).alloc (.cells #[.slice A10 n10 c10] 32)).grown hg11.out (fun e => own_bk_ne (World.ownsRow.alloc HIN.out.2.1 _) ((HZ9.out.kept hw).alloc (.cells #[.slice A10 n10 c10] 32)) (by decide) e.symm))
                    have hn10 : p2.length = n10 := fo.len
                    have hbl := (below_next HB9.out hw HB9.out.size)
                    have ho11 : OwnRs w11 w.heap.size A11 (acc.length + 1) c11 (acc ++ [p2]) := by
                      subst hn10
                      exact OwnRs.push (w := w10.alloc (.cells #[.slice A10 p2.length c10] 32)) rfl (World.ownsRow.alloc HIN.out.2.1 _) (fun k u l hu hl => by
                        obtain ⟨A3, c3, e3, h3⟩ := HIN.out.2.2 k u l hu hl
                        exact ⟨A3, c3, e3, h3.alloc _⟩) ((own_base fo HB9.out.size).alloc _) hg11.out hown11.out
                    have HOF := Lib.hid (own_set ho11 HK11.out (i := 8) (.slice A11 (acc.length + 1) c11))
                    have HZF := Lib.hid (hz11.far (p := ⟨w.heap.size + 1, 8, none⟩) (by show w.heap.size ≠ w.heap.size + 1; omega) (.slice A11 (acc.length + 1) c11))
                    have HKF := Lib.hid (HK11.out.set 8 (.slice A11 (acc.length + 1) c11))
                    have HBF := Lib.hid (below_set ((hbl.alloc hbl.size (.cells #[.slice A10 n10 c10] 32)).grown hg11.out (by simp; have := hbl.size; omega) (fun g e => OwnRs.block HO9.out g e)) (show w.heap.size ≤ w.heap.size + 1 by omega) 8 (.slice A11 (acc.length + 1) c11))
                    clear hz11 hn10 hbl ho11 HIN hown11 hg11 hrow11 u8 y8 q8' q8 fo hw hlt hlt' hi hz0 hz1 hz2 HK11 HZ9 HY9 HO9 HB9 HS9 HZ7 HY7 HO7 HB7 HS7 HCB w1'
                    go_wp2_with fail
                    go_roundw
                    case rel =>
                      have hlen : (acc ++ [p2]).length = acc.length + 1 := by simp
                      have hdl : (b.drop a).length = n - a := by rw [List.length_drop, HL.out]
                      have hk := HK2.out
                      have hfl := HF.out
                      obtain ⟨f0, rfl⟩ : ∃ f0, f = f0 + 1 := ⟨f - 1, by omega⟩
                      have hrn := Lg.recs_next (g := x.gen) (f := f0) (p := acc.length + 1) HC2.out HDE.out
                      refine ⟨acc ++ [p2], A11, c11, a + k2, f0, by go_num, by have := HL.out; omega, HZF.out, ?_, HBF.out, ?_, ?_, ?_, ?_, ?_⟩
                      · rw [hlen]; exact HKF.out
                      · rw [hlen]; exact HOF.out
                      · have := HAL.out; omega
                      · rw [List.length_drop, HL.out]; omega
                      · rw [HE.out.1, hrn, HCD.out, hlen]; simp
                      · rw [HE.out.2, hrn, HCD.out, hlen]
                    case measure => have := HK2.out; simp [intOf]; omega
        · obtain ⟨x, hx, hx1⟩ := H0.out
          rw [HRES.out] at hx
          split at hx
          · injection hx with hx; rw [← hx] at hx1; exact absurd hx1 hg1
          · cases hx
      · obtain ⟨x, hx, _⟩ := H0.out
        rw [Lg.area_bad HC.out (.inr (by omega))] at hx
        cases hx
theorem refArea5 (A : Option Addr) (n c : Nat) (b : List UInt8) (w : World) (h : Sl w A n c b) (hn : n ≤ 4294967296) :
    Calls Tryd.prog 37 #[.slice A n c] w (AreaR b w) := by
  by_cases h0 : ∃ x : Lg.Ar, Lg.area b = some x ∧ 1 ≤ x.gen
  · exact refArea5_go A n c b w h hn h0
  · exact refArea5_pre A n c b w h hn h0
end Go.Proofs.YtmiejaohkgemnaaDoor
