/-
  LogOpens: the walk.
-/
import Derived.Test.YtmiejaohkgemnaaDoorLogKeep
import Derived.Test.YtmiejaohkgemnaaDoorMLogIn
import Derived.Test.YtmiejaohkgemnaaDoorMRefLogC
namespace Go.Proofs.YtmiejaohkgemnaaDoor
open Go.RowKit
open Pk Sh
set_option linter.unusedVariables false
set_option maxRecDepth 100000

theorem opens_sync (a b : List UInt8) : (Lg.PA a b).sync [] = (⟨-1, a, b, (a.length : Int), (b.length : Int)⟩, 0) := by
  unfold PD.sync
  rfl
theorem opens_crash (a b : List UInt8) (p : Int) : PD.crash ⟨-1, a, b, (a.length : Int), (b.length : Int)⟩ [] p = ⟨p, a, b, (a.length : Int), (b.length : Int)⟩ := by
  have h0 : ∀ l : List UInt8, PD.left l (l.length : Int) 0 = l.length := by intro l; unfold PD.left; simp
  unfold PD.crash
  simp [h0]
set_option maxHeartbeats 6400000 in
theorem logOpens_walk (w : World) (hT : Tab w) (v0 : Value) (a : List UInt8) (h0 : InBh w v0 a) (v1 : Value) (b : List UInt8) (h1 : InBh w v1 b) (p : Int) (hp : (Lit.int .i64 p).wf = true) :
    Calls Tryd.prog 4 #[v0, v1, .int .i64 p] w (Tr w) := by
  obtain ⟨i0, hi, hz0, hz1, hz2⟩ := info_parts info_bytes
  obtain ⟨⟨⟨A, n, c, rfl, hnc, hcm, hA, hAz⟩, has⟩, hAb⟩ := h0
  obtain ⟨⟨⟨B, m, d, rfl, hmd, hdm, hB, hBz⟩, hbs⟩, hBb⟩ := h1
  have hla : a.length = n := by simpa using hA.1
  have hlb : b.length = m := by simpa using hB.1
  have HPW := Lib.hid (wf_i64 hp)
  have HAB := Lib.hid (show ∀ x, A = some x → x.block < w.heap.size from fun x e => hAb x n c (by rw [e]))
  have HBB := Lib.hid (show ∀ x, B = some x → x.block < w.heap.size from fun x e => hBb x m d (by rw [e]))
  have HSA := Lib.hid (show Sl w A n c a from ⟨hnc, hcm, hA, hAz⟩)
  have HSB := Lib.hid (show Sl w B m d b from ⟨hmd, hdm, hB, hBz⟩)
  have HA := Lib.hid hA
  have HB := Lib.hid hB
  have HLA := Lib.hid hla
  have HLB := Lib.hid hlb
  have HT := Lib.hid hT
  have HAL := Lib.hid (alive5 w hT)
  have y1 : (n : Int) ≤ 140737488355328 := by omega
  have y2 : (m : Int) ≤ 140737488355328 := by omega
  clear hA hB hla hlb hnc hcm hAz hmd hdm hBz has hbs hT hp hAb hBb
  go_enter Tryd.func4, Tryd.ntmps4
  go_wp2_with fail
  refine HAL.out.mono ?_
  rintro e w2 ⟨rfl, hb1⟩
  have HB2 := Lib.hid hb1
  clear hb1 HAL
  by_cases hg : n + m ≤ 5000
  · have HG := Lib.hid hg
    have y3 : ¬ (5000 : Int) < (n : Int) + (m : Int) := by omega
    have HN := Lib.hid (disk_new (-1) w2 (by omega))
    clear hg
    go_wp2_with fail
    refine HN.out.mono ?_
    rintro e w3 hm
    obtain ⟨gd, F3, rfl, hon, _, _⟩ := Made.on HB2.out HB2.out.size hm
    have HCA := Lib.hid (copyBytes_any A n c a w3 (HA.out.below hon.be) (by have := HG.out; omega))
    have HON := Lib.hid hon
    clear hm hon HN HB2
    go_wp2_with fail
    refine HCA.out.mono ?_
    rintro e w4 ⟨A4, n4, c4, rfl, ho4, hb4⟩
    have hon4 := HON.out.kept hb4
    have hst := stay_1' (F := F3) (base := w3.heap.size) (Sl.own ho4) (own_block_at ho4) HON.out.lt hb4.size w4.heap.size rfl
    have hon5 := hon4.alloc (.cells #[.slice A4 n4 c4] 32)
    have hap := disk_append gd 0 (PD.new (-1)) F3 (some ⟨w4.heap.size, 0, none⟩) 1 1 [a] _ hon5.dk hst (by have := HG.out; have := HLA.out; simp [PD.new]; omega) (by have := HG.out; have := HLA.out; simp [PD.new]; omega) (by omega)
    rw [Lg.pa1] at hap
    have HAP := Lib.hid hap
    have HON := Lib.hid hon5
    clear ho4 hb4 hon4 hst hon5 hap HCA
    go_wp2_with fail
    refine HAP.out.mono ?_
    rintro e w6 hd
    obtain ⟨rfl, F6, hon, _, _⟩ := HON.out.did hd
    have HCB := Lib.hid (copyBytes_any B m d b w6 (HB.out.below hon.be) (by have := HG.out; omega))
    have HON := Lib.hid hon
    clear hd hon HAP
    go_wp2_with fail
    refine HCB.out.mono ?_
    rintro e w7 ⟨A7, n7, c7, rfl, ho7, hb7⟩
    have hon7 := HON.out.kept hb7
    have hst := stay_1' (F := F6) (base := w6.heap.size) (Sl.own ho7) (own_block_at ho7) HON.out.lt hb7.size w7.heap.size rfl
    have hon8 := hon7.alloc (.cells #[.slice A7 n7 c7] 32)
    have hap := disk_append gd 1 (Lg.PA a []) F6 (some ⟨w7.heap.size, 0, none⟩) 1 1 [b] _ hon8.dk hst (by have := HG.out; have := HLA.out; have := HLB.out; simp [Lg.PA]; omega) (by have := HG.out; have := HLB.out; simp [Lg.PA]; omega) (by omega)
    rw [Lg.pa2] at hap
    have HAP := Lib.hid hap
    have HON := Lib.hid hon8
    clear ho7 hb7 hon7 hst hon8 hap HCB
    go_wp2_with fail
    refine HAP.out.mono ?_
    rintro e w9 hd
    obtain ⟨rfl, F9, hon, _, _⟩ := HON.out.did hd
    have hsy := disk_sync gd (Lg.PA a b) F9 none 0 0 [] w9 hon.dk (fun w' _ => Rd.nil_ _ _) (by simp [maxLen])
    rw [opens_sync] at hsy
    have HSY := Lib.hid hsy
    have HON := Lib.hid hon
    clear hd hon hsy HAP
    go_wp2_with fail
    refine HSY.out.mono ?_
    rintro e w10 hd
    obtain ⟨rfl, F10, hon, _, _⟩ := HON.out.did hd
    have hcr := disk_crash gd _ F10 none 0 0 [] p w10 hon.dk (Rd.nil_ _ _) (by simp [maxLen]) (by simp) HPW.out (by have := HG.out; have := HLA.out; show a.length ≤ _; omega) (by have := HG.out; have := HLB.out; show b.length ≤ _; omega)
    rw [opens_crash] at hcr
    have HCR := Lib.hid hcr
    have HON := Lib.hid hon
    clear hd hon hcr HSY
    go_wp2_with fail
    refine HCR.out.mono ?_
    rintro e w11 hm
    obtain ⟨gc, F11, rfl, hon, hF11, hb11⟩ := Made.on HON.out.be HON.out.sz hm
    obtain ⟨P, hP⟩ : ∃ P : PD, P = ⟨p, a, b, (a.length : Int), (b.length : Int)⟩ := ⟨_, rfl⟩
    rw [← hP] at hon
    have hpl : P.d0.length ≤ 5000 ∧ P.d1.length ≤ 5000 := by rw [hP]; exact ⟨by show a.length ≤ 5000; have := HLA.out; have := HG.out; omega, by show b.length ≤ 5000; have := HLB.out; have := HG.out; omega⟩
    have hon12 := hon.alloc (.cells #[.int .i64 p, .slice A n c, .slice B m d, .int .i64 n, .int .i64 m] 36)
    have hop := log_open gc P F11 _ hon12.dk (Tab.on HT.out hon12 HT.out.1) (below_pos hon12 HT.out.1) (by omega) (by omega)
    obtain ⟨r, hr⟩ : ∃ r, r = Lg.opn P := ⟨_, rfl⟩
    rw [← hr] at hop
    have hln := Lg.len_opn P
    rw [← hr] at hln
    have HLN := Lib.hid (show r.1.D.d0.length ≤ 5031 ∧ r.1.D.d1.length ≤ 5031 by omega)
    have HRO := Lib.hid (show ∀ W, Below w.heap.size w W → Calls Tryd.prog 15 #[.agg #[.int .i64 p, .slice A n c, .slice B m d, .int .i64 n, .int .i64 m]] W (LogS A B r W) from fun W hW => by
      have h := refOpen P A B n c m d W (by rw [hP]; exact HSA.out.below hW) (by rw [hP]; exact HSB.out.below hW) (by rw [hP]; exact HPW.out) (fun x e => Nat.lt_of_lt_of_le (HAB.out x e) hW.size) (fun x e => Nat.lt_of_lt_of_le (HBB.out x e) hW.size) (by omega) (by omega)
      rw [← hr] at h
      rw [show P.power = p by rw [hP], show P.s0 = (n : Int) by rw [hP, ← HLA.out], show P.s1 = (m : Int) by rw [hP, ← HLB.out]] at h
      exact h)
    have HGO := Lib.hid (show r.2 = 0 → Lg.Good r.1 from fun h => by rw [hr] at h ⊢; exact Lg.opn_good h)
    have hk8 := Bk.new w11 36 [.int .i64 p, .slice A n c, .slice B m d, .int .i64 n, .int .i64 m]
    have hng : ¬ F11 w11.heap.size := fun hf => absurd (hon.lt _ hf) (Nat.lt_irrefl _)
    have HNG := Lib.hid hng
    have HK8 := Lib.hid hk8
    have HON := Lib.hid hon12
    have HOP := Lib.hid hop
    have HP := Lib.hid hP
    have HPL := Lib.hid hpl
    clear hm hon hF11 hb11 hP hpl hon12 hop hk8 hng hr hln HCR
    go_wp2_with fail
    refine HOP.out.mono ?_
    rintro e w13 ho
    have HB13 := Lib.hid (show ∃ F13, (∀ i, F13 i → F11 i ∨ (w11.alloc (.cells #[.int .i64 p, .slice A n c, .slice B m d, .int .i64 n, .int .i64 m] 36)).heap.size ≤ i) ∧ On w.heap.size w w13 F13 gc r.1.D ∧ Bk w13 w11.heap.size 36 [.int .i64 p, .slice A n c, .slice B m d, .int .i64 n, .int .i64 m] ∧ w11.heap.size < w13.heap.size from by
      rcases HON.out.open_ ho with ⟨_, _, F13, hon, hF, hc⟩ | ⟨_, g1, F13, _, hl, hF, hc, _⟩
      · exact ⟨F13, hF, hon, hc.bk HK8.out HNG.out, (hc.bk HK8.out HNG.out).lt⟩
      · exact ⟨F13, hF, hl.on, hc.bk HK8.out HNG.out, (hc.bk HK8.out HNG.out).lt⟩)
    have ho := HON.out.open_ ho
    have hk13 : Bk w13 w11.heap.size 36 [.int .i64 p, .slice A n c, .slice B m d, .int .i64 n, .int .i64 m] := by obtain ⟨_, _, _, h, _⟩ := HB13.out; exact h
    obtain ⟨p0, p1, p2, p3, p4⟩ := hk13.five
    have hbe : Below w.heap.size w w13 := by obtain ⟨_, _, h, _⟩ := HB13.out; exact h.be
    have HRW := Lib.hid (HRO.out w13 hbe)
    have HBE := Lib.hid hbe
    clear hk13 hbe HOP HON HK8 HNG HRO
    rcases ho with ⟨hz, rfl, F13, hon, _, _⟩ | ⟨hz, g1, F13, rfl, hl, _, _, _⟩
    · have HON := Lib.hid hon
      have y4 : (r.2 != r.2) = false := by simp
      have y5 : (r.2 == r.2) = true := by simp
      have y6 : (r.2 != 0) = true := by simp [hz]
      clear hz hon
      go_wp2_with fail
      refine HRW.out.mono ?_
      rintro e w14 ⟨D0, m0, e0, D1, m1, e1, L, lc, rfl, s0, s1, hb14, ho14, f0, f1⟩
      have hbc := (Below.refl w14.heap.size w14).alloc (Nat.le_refl _) (.cells (lgC r.1.D.power D0 m0 e0 D1 m1 e1 r.1.D.s0 r.1.D.s1 r.1.a r.1.gen r.1.n L r.1.list.length lc).toArray 39)
      have HSA2 := Lib.hid (show ∀ W, Below (w14.alloc (.cells (lgC r.1.D.power D0 m0 e0 D1 m1 e1 r.1.D.s0 r.1.D.s1 r.1.a r.1.gen r.1.n L r.1.list.length lc).toArray 39)).heap.size (w14.alloc (.cells (lgC r.1.D.power D0 m0 e0 D1 m1 e1 r.1.D.s0 r.1.D.s1 r.1.a r.1.gen r.1.n L r.1.list.length lc).toArray 39)) W → Calls Tryd.prog 24 #[.pointer (some ⟨gc, 0, none⟩), .agg #[.int .i64 r.1.D.power, .slice D0 m0 e0, .slice D1 m1 e1, .int .i64 r.1.D.s0, .int .i64 r.1.D.s1]] W (Tr W) from fun W hW =>
        same5_any gc r.1.D F13 D0 D1 m0 e0 m1 e1 W (((HON.out.kept hb14).kept hbc).kept hW).dk ((s0.below hbc).below hW) ((s1.below hbc).below hW) (by have := HLN.out; omega) (by have := HLN.out; omega))
      have HKL := Lib.hid (Bk.new w14 39 (lgC r.1.D.power D0 m0 e0 D1 m1 e1 r.1.D.s0 r.1.D.s1 r.1.a r.1.gen r.1.n L r.1.list.length lc))
      have HBZ := Lib.hid (below_next HBE.out (below_next hb14 (hbc) hb14.size) HBE.out.size)
      clear s0 s1 hb14 ho14 f0 f1 hbc p0 p1 p2 p3 p4 HRW
      unfold lgC at HSA2 HKL HBZ ⊢
      go_wp2_with fail
      refine (HSA2.out _ (Below.refl _ _)).mono ?_
      rintro e w15 ⟨rfl, hb15⟩
      have hk := HKL.out.kept hb15
      obtain ⟨q0, q1, q2, q3, q4, _, _, _, _⟩ := hk.nine
      have HSA3 := Lib.hid (HSA2.out w15 hb15)
      have HB15 := Lib.hid (below_next HBZ.out hb15 HBZ.out.size)
      clear hk hb15 HSA2
      go_wp2_with fail
      refine HSA3.out.mono ?_
      rintro e w16 ⟨rfl, hb16⟩
      have HB16 := Lib.hid (below_next HB15.out hb16 HB15.out.size)
      clear hb16 HSA3
      go_wp2_with fail
      go_ret
      exact ⟨rfl, HB16.out⟩
    · have HL := Lib.hid hl
      have HGOOD := Lib.hid (HGO.out hz)
      have hli := Lg.list_le (HGO.out hz)
      have hdl := PD.data_le (P := r.1.D) (N := 5031) (by have := HLN.out; omega) (by have := HLN.out; omega) r.1.a
      have HLL := Lib.hid (show r.1.list.length ≤ 5031 by omega)
      have y4 : ((0 : Int) != r.2) = false := by simp [hz]
      clear hz hl hli hdl HGO
      go_wp2_with fail
      refine HRW.out.mono ?_
      rintro e w14 ⟨D0, m0, e0, D1, m1, e1, L, lc, rfl, s0, s1, hb14, ho14, f0, f1⟩
      have hbc := (Below.refl w14.heap.size w14).alloc (Nat.le_refl _) (.cells (lgC r.1.D.power D0 m0 e0 D1 m1 e1 r.1.D.s0 r.1.D.s1 r.1.a r.1.gen r.1.n L r.1.list.length lc).toArray 39)
      have HSA2 := Lib.hid (show Calls Tryd.prog 24 #[.pointer (some ⟨gc, 0, none⟩), .agg #[.int .i64 r.1.D.power, .slice D0 m0 e0, .slice D1 m1 e1, .int .i64 r.1.D.s0, .int .i64 r.1.D.s1]] (w14.alloc (.cells (lgC r.1.D.power D0 m0 e0 D1 m1 e1 r.1.D.s0 r.1.D.s1 r.1.a r.1.gen r.1.n L r.1.list.length lc).toArray 39)) (Tr (w14.alloc (.cells (lgC r.1.D.power D0 m0 e0 D1 m1 e1 r.1.D.s0 r.1.D.s1 r.1.a r.1.gen r.1.n L r.1.list.length lc).toArray 39))) from
        same5_any gc r.1.D F13 D0 D1 m0 e0 m1 e1 _ ((HL.out.kept hb14).kept hbc).lo.dk (s0.below hbc) (s1.below hbc) (by have := HLN.out; omega) (by have := HLN.out; omega))
      have HKL := Lib.hid (Bk.new w14 39 (lgC r.1.D.power D0 m0 e0 D1 m1 e1 r.1.D.s0 r.1.D.s1 r.1.a r.1.gen r.1.n L r.1.list.length lc))
      have HBZ := Lib.hid (below_next hb14 hbc hb14.size)
      have HRD := Lib.hid (ho14.rd.below hbc)
      clear s0 s1 hb14 ho14 f0 f1 hbc p0 p1 p2 p3 p4 HRW
      unfold lgC at HSA2 HKL HBZ HRD ⊢
      go_wp2_with fail
      refine HSA2.out.mono ?_
      rintro e w15 ⟨rfl, hb15⟩
      have hk := HKL.out.kept hb15
      obtain ⟨_, _, _, _, _, _, _, q7, q8⟩ := hk.nine
      have HK := Lib.hid hk
      have hbz := below_next HBZ.out hb15 HBZ.out.size
      have HL := Lib.hid (HL.out.kept hbz)
      have HRD := Lib.hid (HRD.out.below hb15)
      have HB15 := Lib.hid (below_next HBE.out hbz HBE.out.size)
      have HRC := Lib.hid (show ∀ W, Below w15.heap.size w15 W → Calls Tryd.prog 28 #[.pointer (some ⟨g1, 0, none⟩)] W (fun e w' => ∃ A5 n5 c5, e = .returned (.slice A5 n5 c5) ∧ RdRows w' A5 n5 r.1.list ∧ Below w15.heap.size w15 w') from fun W hW =>
        (records_any gc g1 r.1 F13 W (HL.out.kept hW).lo HGOOD.out (by have := HLN.out; omega) (by have := HLN.out; omega) (by have := HLL.out; omega)).mono fun e w' ⟨A5, n5, c5, he, ho, hb⟩ => ⟨A5, n5, c5, he, ho.rd, below_next hW hb hW.size⟩)
      have HSR := Lib.hid (show ∀ A5 n5 c5 W, Below w15.heap.size w15 W → RdRows W A5 n5 r.1.list → Calls Tryd.prog 23 #[.slice A5 n5 c5, .slice L r.1.list.length lc] W (fun e w' => e = .returned (.bool true) ∧ Below w15.heap.size w15 w') from fun A5 n5 c5 W hW ho =>
        (sameRows_self A5 L n5 r.1.list.length c5 lc W r.1.list ho (HRD.out.below hW) (by have := ho.1; have := HLL.out; simp only [maxLen]; omega)).mono fun e w' ⟨he, k, hw⟩ => ⟨he, by rw [hw]; exact below_drewN hW k⟩)
      have HLA := Lib.hid (show ∀ W, Below w15.heap.size w15 W → Calls Tryd.prog 29 #[.pointer (some ⟨g1, 0, none⟩)] W (fun e w' => e = .returned (.int .i64 r.1.n) ∧ Below w15.heap.size w15 w') from fun W hW =>
        (laid_any gc g1 r.1 F13 W (HL.out.kept hW).lo).mono fun e w' ⟨he, hw⟩ => ⟨he, by rw [hw]; exact hW⟩)
      have hw := Below.refl w15.heap.size w15
      have hlt : w14.heap.size < w15.heap.size := hk.lt
      clear hk hbz hb15 HSA2
      go_wp2_with fail
      go_region_held3 (fun w' => w'.cell? ⟨w14.heap.size, 7, none⟩ = some (.int .i64 (r.1.n : Int)) ∧ w'.cell? ⟨w14.heap.size, 8, none⟩ = some (.slice L r.1.list.length lc)) (first | go_keep | exact ⟨q7, q8⟩ | exact ⟨(HK.out.kept hw).at_ rfl, (HK.out.kept hw).at_ rfl⟩)
        (first
          | (go_at_call 28; with_reducible refine (HRC.out _ ?_).mono ?_
             focus first | with_reducible exact hw | with_reducible exact below_drew hw
             rintro e w16 ⟨A5, n5, c5, rfl, fo, hw'⟩
             replace hw := hw'
             clear hw')
          | (go_at_call 23; with_reducible refine (HSR.out _ _ _ _ ?_ ?_).mono ?_
             focus first | with_reducible exact hw | with_reducible exact below_drew hw
             focus first | with_reducible exact fo | exact fo
             rintro e w17 ⟨rfl, hw'⟩
             replace hw := hw'
             clear hw')
          | (go_at_call 29; with_reducible refine (HLA.out _ ?_).mono ?_
             focus first | with_reducible exact hw | with_reducible exact below_drew hw
             rintro e w18 ⟨rfl, hw'⟩
             replace hw := hw'
             clear hw'))
      go_wp2_with fail
      go_ret
      exact ⟨rfl, below_next HB15.out hw HB15.out.size⟩
  · have y3 : (5000 : Int) < (n : Int) + (m : Int) := by omega
    clear hg
    go_wp2_with fail
    go_ret
    exact ⟨rfl, HB2.out⟩
end Go.Proofs.YtmiejaohkgemnaaDoor
