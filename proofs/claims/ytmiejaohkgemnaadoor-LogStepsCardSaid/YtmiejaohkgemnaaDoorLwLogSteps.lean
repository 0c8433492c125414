/-
  LogSteps: the walk.
-/
import Derived.Test.YtmiejaohkgemnaaDoorMLogTwo
import Derived.Test.YtmiejaohkgemnaaDoorMRefLogD
import Derived.Test.YtmiejaohkgemnaaDoorMLaw
import Derived.Deep.CutBlock
import Derived.Deep.CutRange
namespace Go.Proofs.YtmiejaohkgemnaaDoor
open Go.RowKit
open Pk Sh
set_option linter.unusedVariables false
set_option maxRecDepth 100000

/-- how the loop over the script stands -/
def St5 (w : World) (gm : Nat) (ops : List Step5) (k : Nat) (vd vl : Value) (wr : World) : Prop :=
  ∃ gd g F L D0 m0 e0 D1 m1 e1 R rc, vd = .pointer (some ⟨gd, 0, none⟩) ∧ vl = .pointer (some ⟨g, 0, none⟩) ∧ LOn w.heap.size w wr F gd g L ∧ Ml wr (fun i => F i ∨ i = g) gm L D0 m0 e0 D1 m1 e1 R rc ∧ Iv ops k L
theorem pd_new (p : Int) : PD.new p = ⟨p, [], [], 0, 0⟩ := rfl
set_option maxHeartbeats 6400000 in
theorem logSteps_walk (w : World) (hT : Tab w) (p : Int) (hp : (Lit.int .i64 p).wf = true) (v0 : Value) (ops0 : List Step5) (h0 : InSteps w v0 ops0) :
    Calls Tryd.prog 3 #[.int .i64 p, v0] w (Tr w) := by
  obtain ⟨A, n0, c, rfl, hnc, hcm, hA, hAz⟩ := h0
  have HA := Lib.hid hA
  have HPW := Lib.hid (wf_i64 hp)
  have HAL := Lib.hid (alive5 w hT)
  have HNC := Lib.hid hnc
  have HCM := Lib.hid hcm
  have HT := Lib.hid hT
  clear hA hAz hp hnc hcm hT
  go_enter Tryd.func3, Tryd.ntmps3
  go_wp2_with fail
  refine HAL.out.mono ?_
  rintro e w1 ⟨rfl, hb1⟩
  have HB1 := Lib.hid hb1
  have HCU := Lib.hid (cut5 A n0 c ops0 w1 (HA.out.below hb1) HNC.out HCM.out)
  clear hb1 HAL
  go_wp2_with fail
  refine HCU.out.mono ?_
  rintro e w2 ⟨n1, rfl, hr, hn40, hn01, hw2⟩
  have hb2 : Below w.heap.size w w2 := by rw [hw2]; exact HB1.out
  have HRW := Lib.hid (show RdSteps w A n1 (ops0.take 40) from by
    have hl := hr.1
    refine ⟨hl, fun k o hk => ?_⟩
    rw [List.getElem?_take] at hk
    split at hk
    · exact HA.out.2 k o hk
    · cases hk)
  have HGR := Lib.hid (great5 A n1 c (ops0.take 40) w2 (by rw [hw2]; exact hr) hn40)
  have HN40 := Lib.hid hn40
  have HB2 := Lib.hid hb2
  generalize ops0.take 40 = ops at *
  clear hr hn40 hn01 HCU HA hw2 HB1 hb2
  go_wp2_with fail
  refine HGR.out.mono ?_
  rintro e w3 ⟨gr, rfl, hgr, hw3⟩
  have HB3 := Lib.hid (show Below w.heap.size w w3 by rw [hw3]; exact HB2.out)
  clear hw3 HB2
  cases gr
  · have HW := Lib.hid (hgr rfl)
    have HN := Lib.hid (disk_new p w3 HPW.out)
    clear hgr HGR
    go_wp2_with fail
    refine HN.out.mono ?_
    rintro e w4 hm
    obtain ⟨gd, F, rfl, hon, hF, _⟩ := Made.on HB3.out HB3.out.size hm
    obtain ⟨r, hr⟩ : ∃ r, r = Lg.opn (PD.new p) := ⟨_, rfl⟩
    have hop := log_open gd (PD.new p) F w4 hon.dk (Tab.on HT.out hon HT.out.1) (below_pos hon HT.out.1) (by simp [PD.new]) (by simp [PD.new])
    rw [← hr] at hop
    have HRO := Lib.hid (show ∀ W, Calls Tryd.prog 15 #[.agg #[.int .i64 p, .slice none 0 0, .slice none 0 0, .int .i64 0, .int .i64 0]] W (LogS none none r W) from fun W => by
      rw [hr]
      exact refOpen (PD.new p) none none 0 0 0 0 W (Sl.nil_ _) (Sl.nil_ _) HPW.out (fun a e => by cases e) (fun a e => by cases e) (by simp [PD.new]) (by simp [PD.new]))
    have hiv : r.2 = 0 → Iv ops 0 r.1 := fun h => ⟨by rw [hr] at h ⊢; exact Lg.opn_good h, by
      rw [hr]
      have := Lg.md_opn (N := 1) (B := 0) (D := PD.new p) ⟨Lg.Wh.nil_ 1, Lg.Wh.nil_ 1⟩ (by simp [PD.new]) (by simp [PD.new]) HPW.out (Nat.le_refl 1) (by omega)
      exact this.more (Nat.le_refl _) (by unfold Bd; omega)⟩
    have HIV := Lib.hid hiv
    have HON := Lib.hid hon
    have HOP := Lib.hid hop
    clear hm hon hF hop hr hiv HN HB3
    go_wp2_with fail
    refine HOP.out.mono ?_
    rintro e w5 ho
    rcases HON.out.open_ ho with ⟨hz, rfl, F5, hon, _, _⟩ | ⟨hz, g1, F5, rfl, hl, _, _, _⟩
    · have HON := Lib.hid hon
      have y4 : (r.2 != r.2) = false := by simp
      have y5 : (r.2 == r.2) = true := by simp
      have y6 : (r.2 != 0) = true := by simp [hz]
      clear ho hz hon HOP HIV
      go_wp2_with fail
      refine (HRO.out _).mono ?_
      rintro e w6 ⟨D0, m0, e0, D1, m1, e1, R, rc, rfl, s0, s1, hb6, ho6, f0, f1⟩
      have HB6 := Lib.hid (below_next HON.out.be hb6 HON.out.sz)
      have HBZ := Lib.hid ((HB6.out.alloc HB6.out.size (.cells (lgC r.1.D.power D0 m0 e0 D1 m1 e1 r.1.D.s0 r.1.D.s1 r.1.a r.1.gen r.1.n R r.1.list.length rc).toArray 39)))
      unfold lgC at HBZ ⊢
      clear s0 s1 hb6 ho6 f0 f1 HRO
      go_wp2_with fail
      go_ret
      exact ⟨rfl, HBZ.out⟩
    · have HL := Lib.hid hl
      have HI := Lib.hid (HIV.out hz)
      have y4 : ((0 : Int) != r.2) = false := by simp [hz]
      clear ho hz hl HOP HIV HON
      go_wp2_with fail
      refine (HRO.out _).mono ?_
      rintro e w6B ⟨D0, m0, e0, D1, m1, e1, R, rc, rfl, s0, s1, hb6, ho6, f0, f1⟩
      have hbc := (Below.refl w6B.heap.size w6B).alloc (Nat.le_refl _) (.cells (lgC r.1.D.power D0 m0 e0 D1 m1 e1 r.1.D.s0 r.1.D.s1 r.1.a r.1.gen r.1.n R r.1.list.length rc).toArray 39)
      have HAT := Lib.hid (show St5 w w6B.heap.size ops 0 (.pointer (some ⟨gd, 0, none⟩)) (.pointer (some ⟨g1, 0, none⟩)) (w6B.alloc (.cells (lgC r.1.D.power D0 m0 e0 D1 m1 e1 r.1.D.s0 r.1.D.s1 r.1.a r.1.gen r.1.n R r.1.list.length rc).toArray 39)) from by
        have hl6 := HL.out.kept hb6
        have hfl : ∀ i, (F5 i ∨ i = g1) → i < w5.heap.size := fun i hi => hi.elim (HL.out.lt i) (fun e => by rw [e]; exact HL.out.lo.bk.lt)
        refine ⟨gd, g1, F5, r.1, D0, m0, e0, D1, m1, e1, R, rc, rfl, rfl, hl6.alloc _, ⟨Bk.new w6B 39 _, s0.below hbc, s1.below hbc, fun hf => by have := hfl _ hf; have := hb6.size; omega, fun a e => ?_, fun a e => ?_, ((ho6.off' (F := fun i => F5 i ∨ i = g1) hfl).less (G := fun i => (F5 i ∨ i = g1) ∨ i = w6B.heap.size) (fun i hi => hi.imp id (fun e => by omega))).below hbc⟩, HI.out⟩
        · rcases f0 with q | q
          · rw [q] at e; cases e
          · have h1 := q a e
            exact ⟨fun hf => by have := hfl _ hf; omega, by omega, by simp; omega⟩
        · rcases f1 with q | q
          · rw [q] at e; cases e
          · have h1 := q a e
            exact ⟨fun hf => by have := hfl _ hf; omega, by omega, by simp; omega⟩)
      have HGM := Lib.hid (show w.heap.size ≤ w6B.heap.size from Nat.le_trans HL.out.sz hb6.size)
      unfold lgC at HAT ⊢
      clear s0 s1 hb6 ho6 f0 f1 hbc HRO HL HI
      go_wp2_with fail
      go_loopw [5, 6, 10] (fun d l i wr => ∃ k : Nat, k ≤ n1 ∧ i = .int .i64 k ∧ St5 w w6B.heap.size ops k d l wr) (fun _ _ i _ => n1 - (intOf i).toNat)
      case atStart => exact ⟨0, Nat.zero_le _, rfl, HAT.out⟩
      case round =>
        clear HAT
        obtain ⟨k, hk, rfl, gd, g, F, L, D0, m0, e0, D1, m1, e1, R, rc, rfl, rfl, hl, hm, hi⟩ := hrel
        rename World => wr
        by_cases hkn : k < n1
        · have hkl : k < ops.length := by rw [HRW.out.1]; exact hkn
          obtain ⟨x, rfl, hxb, hca⟩ := HRW.out.2 k ops[k] (List.getElem?_eq_getElem hkl)
          obtain ⟨B, p', pc, C, q0, qc, x0', x1', x2', x3', _, hwn, hRr, hI, hIz⟩ := hca.four
          have hbe := hl.be
          have cw : ∀ {a : Addr} {v : Value}, w.cell? a = some v → wr.cell? a = some v := fun h => (hbe.cell (cell_lt h)).trans h
          have x0 := cw x0'
          have x1 := cw x1'
          have x2 := cw x2'
          have x3 := cw x3'
          have HWN := Lib.hid (wf_i64 hwn)
          have HKN := Lib.hid hkn
          have HBN := Lib.hid (bd_next hkl)
          have HBL := Lib.hid (bd_le (k := k) (ops := ops) (by have := HN40.out; omega) HW.out)
          have hwt := weight5_at ops k hkl
          have y1 : (0 : Int) ≤ (k : Int) := by omega
          have y2 : (k : Int) < (n1 : Int) := by omega
          have y3 : (n1 : Int) ≤ 40 := by have := HN40.out; omega
          have w1' : IntKind.i64.wrap ((k : Int) + 1) = (k : Int) + 1 := by simp only [IntKind.wrap, IntKind.bits, IntKind.signed]; simp; omega
          generalize ops[k] = o at *
          obtain ⟨B', p'', pc', eB, hp1, hp2, hRd, _, hRz⟩ := hRr
          injection eB with eB1 eB2 eB3
          subst eB1 eB2 eB3
          obtain ⟨C', q0', qc', eC, hq1, hq2, hRi, hIw, _⟩ := hI
          injection eC with eC1 eC2 eC3
          subst eC1 eC2 eC3
          have HRD := Lib.hid hRd
          have HRI := Lib.hid hRi
          have HIW := Lib.hid (show ∀ z ∈ o.keeps, -9223372036854775808 ≤ z ∧ z ≤ 9223372036854775807 from fun z hz => wf_i64 (hIw z hz))
          have HSM := Lib.hid (show rowsW o.rows ≤ 3000 ∧ o.keeps.length ≤ 3000 ∧ o.rows.length = p' ∧ o.keeps.length = q0 by
            have := HW.out
            exact ⟨by omega, by omega, hRd.1, by simpa using hRi.1⟩)
          obtain ⟨wb, hwb⟩ : ∃ wb, wb = wr.alloc (.cells #[.int .i64 o.what, .int .i64 o.n, .slice B p' pc, .slice C q0 qc] 44) := ⟨_, rfl⟩
          have hbb : Below wr.heap.size wr wb := by rw [hwb]; exact (Below.refl _ _).alloc (Nat.le_refl _) _
          have hkop : Bk wb wr.heap.size 44 [.int .i64 o.what, .int .i64 o.n, .slice B p' pc, .slice C q0 qc] := by rw [hwb]; exact Bk.new _ _ _
          have hng : ¬ F wr.heap.size := fun hf => by have := hl.lt _ hf; omega
          have hgl : wr.heap.size ≠ g := by have := hl.lo.bk.lt; omega
          have hgml : wr.heap.size ≠ w6B.heap.size := by have := hm.bk.lt; omega
          have hmb : Ml wb (Fh F g wr.heap.size) w6B.heap.size L D0 m0 e0 D1 m1 e1 R rc := hm.chg (Chg.of_below (fun i => F i ∨ i = g) hbb) (fun i hi => hi.imp id (fun e => by omega))
          have hlb := hl.kept hbb
          have HCR := Lib.hid (copyRows_any B p' pc o.rows wb (HRD.out.below hlb.be) (by have := HSM.out.1; rw [total_rowsW]; omega))
          have HWB := Lib.hid hwb
          have HHN := Lib.hid (And.intro hng (And.intro hgl hgml))
          have HI := Lib.hid hi
          have HLB := Lib.hid hlb
          have HMB := Lib.hid hmb
          have HKO := Lib.hid hkop
          have HSZ := Lib.hid (show w.heap.size ≤ wr.heap.size from hl.sz)
          clear hkl hca x0' x1' x2' x3' hwn hbe cw hRi hIw hIz hRz hp1 hp2 hq1 hq2 hRd hwt hwb hbb hkop hng hgl hgml hmb hlb hl hm hi hk hkn
          go_wp2_with fail
          rw [← HWB.out]
          refine HCR.out.mono ?_
          rintro e w5 ⟨A5, n5, c5, rfl, ho5, hb5⟩
          have hn5 : n5 = p' := by rw [← ho5.1]; exact HSM.out.2.2.1
          subst hn5
          have hlt5 : ∀ i, (Fh F g wr.heap.size i ∨ i = w6B.heap.size) → i < wb.heap.size := fun i hi => by
            rcases hi with ((hi | rfl) | rfl) | rfl
            · exact HLB.out.lt i hi
            · exact HLB.out.lo.bk.lt
            · exact HKO.out.lt
            · exact HMB.out.bk.lt
          have HRO := Lib.hid (ho5.off' (F := fun i => Fh F g wr.heap.size i ∨ i = w6B.heap.size) hlt5)
          have HL5 := Lib.hid (HLB.out.kept hb5)
          have HM5 := Lib.hid (HMB.out.kept hb5)
          have hk5 := HKO.out.kept hb5
          have HK5 := Lib.hid hk5
          obtain ⟨t0, t1, t2, t3⟩ : w5.cell? ⟨wr.heap.size, 0, none⟩ = some (.int .i64 o.what) ∧ w5.cell? ⟨wr.heap.size, 1, none⟩ = some (.int .i64 o.n) ∧ w5.cell? ⟨wr.heap.size, 2, none⟩ = some (.slice B n5 pc) ∧ w5.cell? ⟨wr.heap.size, 3, none⟩ = some (.slice C q0 qc) := ⟨hk5.at_ rfl, hk5.at_ rfl, hk5.at_ rfl, hk5.at_ rfl⟩
          clear ho5 hb5 hlt5 hk5 HCR x0 x1 x2 x3
          have HLEN := Lib.hid (show L.list.length ≤ 42000 ∧ rowsW L.list ≤ 42000 ∧ L.D.d0.length ≤ 42000 ∧ L.D.d1.length ≤ 42000 ∧ L.gen ≤ 41 ∧ (∀ l ∈ o.rows, l.length ≤ 65536) ∧ (0 ≤ L.a ∧ L.a ≤ 1) from by
            have hB := HBL.out
            have h0 := HI.out.2.l0
            have h1 := HI.out.2.l1
            have hd := PD.data_le (P := L.D) (N := Bd ops k) h0 h1 L.a
            have h5 := Lg.list_le HI.out.1
            have h6 := Lg.list_rows HI.out.1
            have hg := HI.out.2.gen
            have hk := HKN.out
            have hn := HN40.out
            exact ⟨by omega, by omega, by omega, by omega, by omega, fun l hl => by have := rows_each HSM.out.1 l hl; omega, by rcases HI.out.1.a with e | e <;> omega⟩)
          have HFL := Lib.hid (fun g p => Lg.frames_le g p o.rows HLEN.out.2.2.2.2.2.1)
          go_upto_block 2 with fail
          go_cut [12, 13] from 73 to 113 (fun e f wx => Mid5 w w6B.heap.size wr.heap.size gd g (k + 2) (Bd ops k + 31 + 13 * rowsW o.rows) o.n (.slice B n5 pc) (.slice C q0 qc) A5 n5 o.rows e f wx)
          case first =>
            by_cases hw1 : o.what = 1
            · have y4 : (o.what == 1) = true := by simp [hw1]
              clear hw1
              obtain ⟨r, hr⟩ : ∃ r, r = L.add o.rows := ⟨_, rfl⟩
              have hpr := add_any gd g L F A5 n5 c5 o.rows w5 HL5.out.lo (HRO.out.less (fun i hi => .inl (.inl (.inl (.inl hi))))) HI.out.1.g (by have := HSM.out; have := rows_len o.rows; omega) (by have := HLEN.out; omega) (by have := HLEN.out; have := HFL.out L.gen (L.list.length + 1); have := HSM.out; omega) (by have := HLEN.out; have := HFL.out L.gen (L.list.length + 1); have := HSM.out; omega)
              rw [← hr] at hpr
              have HPR := Lib.hid hpr
              have hmd : Lg.Md (k + 2) (Bd ops k + 31 + 13 * rowsW o.rows) (L.add o.rows).1 := (Lg.md_add HI.out.2 HI.out.1).more (by omega) (by omega)
              rw [← hr] at hmd
              have HMD := Lib.hid hmd
              have HGD := Lib.hid (show Lg.Good r.1 by rw [hr]; exact Lg.add_good HI.out.1)
              have HRE := Lib.hid hr
              clear hr hpr hmd
              go_wp2_with fail
              refine HPR.out.mono ?_
              rintro e w6' hd
              obtain ⟨rfl, F6, hl6, hF6, hc6⟩ := HL5.out.did hd
              obtain ⟨w6, hw6⟩ : ∃ x, x = w6' := ⟨_, rfl⟩
              subst hw6
              have hFh : ∀ i, Fh F6 g wr.heap.size i → Fh F g wr.heap.size i ∨ w5.heap.size ≤ i := fun i hi => by
                rcases hi with (hi | hi) | hi
                · exact (hF6 i hi).imp (fun q => .inl (.inl q)) id
                · exact .inl (.inl (.inr hi))
                · exact .inl (.inr hi)
              have hcF := hc6.more (G := Fh F g wr.heap.size) (fun i hi => .inl (.inl hi))
              have hk6 := hc6.bk HK5.out (fun q => q.elim HHN.out.1 HHN.out.2.1)
              have h16 : ¬ F6 wr.heap.size := fun q => (hF6 _ q).elim HHN.out.1 (fun q => by have := HK5.out.lt; omega)
              have HM6 := Lib.hid (HM5.out.chg hcF hFh)
              have HRO6 := Lib.hid (HRO.out.step (hcF.more (G := fun i => Fh F g wr.heap.size i ∨ i = w6B.heap.size) (fun i hi => .inl (.inl hi))) (F' := fun i => Fh F6 g wr.heap.size i ∨ i = w6B.heap.size) (fun i hi => hi.elim (fun q => (hFh i q).imp .inl id) (fun q => .inl (.inr q))))
              have hrf := refLogAdd L D0 D1 R m0 e0 m1 e1 rc B n5 pc o.rows w6 HM6.out.s0 HM6.out.s1 HM6.out.rw.rd (HRD.out.below hl6.be) HI.out.2.pw (fun a e => (HM6.out.o0 a e).2.2) (fun a e => (HM6.out.o1 a e).2.2) (by have := HSM.out; have := rows_len o.rows; omega) (by have := HLEN.out; omega) HI.out.1.g (by rw [total_rowsW]; have := HSM.out; omega) (by rw [total_rowsW]; have := HLEN.out; omega) (by have := HLEN.out; have := HFL.out L.gen (L.list.length + 1); have := HSM.out; omega) (by have := HLEN.out; have := HFL.out L.gen (L.list.length + 1); have := HSM.out; omega)
              rw [← HRE.out] at hrf
              unfold lgC at hrf
              have HRF := Lib.hid hrf
              have HL6 := Lib.hid hl6
              have HK6 := Lib.hid hk6
              have H16 := Lib.hid h16
              have hmk := HM6.out.bk
              unfold lgC at hmk
              obtain ⟨z0, z1, z2, z3, z4, z5, z6, z7, z8⟩ := hmk.nine
              clear t0 t1 t2 t3
              obtain ⟨t0, t1, t2, t3⟩ : w6.cell? ⟨wr.heap.size, 0, none⟩ = some (.int .i64 o.what) ∧ w6.cell? ⟨wr.heap.size, 1, none⟩ = some (.int .i64 o.n) ∧ w6.cell? ⟨wr.heap.size, 2, none⟩ = some (.slice B n5 pc) ∧ w6.cell? ⟨wr.heap.size, 3, none⟩ = some (.slice C q0 qc) := ⟨hk6.at_ rfl, hk6.at_ rfl, hk6.at_ rfl, hk6.at_ rfl⟩
              clear hd hl6 hF6 hc6 hFh hcF hk6 h16 hrf hmk HPR HRO HL5 HM5 HK5
              go_wp2_with fail
              refine HRF.out.mono ?_
              rintro e w7 ⟨E0, k0, d0, E1, k1, d1, R', rc', rfl, s0, s1, hb7, ho7, f0, f1⟩
              have HEND := Lib.hid (mid5_end (n := o.n) (rv := .slice B n5 pc) (kv := .slice C q0 qc) HL6.out HM6.out HK6.out H16.out HHN.out.2.1 HHN.out.2.2 HGM.out HT.out.1 HRO6.out s0 s1 hb7 ho7 f0 f1 HMD.out)
              have hmk := HM6.out.bk.kept hb7
              unfold lgC at hmk
              have hkk := HK6.out.kept hb7
              clear z0 z1 z2 z3 z4 z5 z6 z7 z8 t0 t1 t2 t3
              obtain ⟨z0, z1, z2, z3, z4, z5, z6, z7, z8⟩ := hmk.nine
              obtain ⟨u0, u1, u2, u3, u4, u5, u6, u7, u8⟩ := hmk.nine_free
              obtain ⟨t0, t1, t2, t3⟩ : w7.cell? ⟨wr.heap.size, 0, none⟩ = some (.int .i64 o.what) ∧ w7.cell? ⟨wr.heap.size, 1, none⟩ = some (.int .i64 o.n) ∧ w7.cell? ⟨wr.heap.size, 2, none⟩ = some (.slice B n5 pc) ∧ w7.cell? ⟨wr.heap.size, 3, none⟩ = some (.slice C q0 qc) := ⟨hkk.at_ rfl, hkk.at_ rfl, hkk.at_ rfl, hkk.at_ rfl⟩
              have tf := hkk.frozen 0
              have hne := HHN.out.2.2
              clear s0 s1 hb7 ho7 f0 f1 hmk hkk HRF HL6 HM6 HK6 HRO6
              unfold lgC
              go_wp2_with fail
              go_meet
              obtain ⟨FF, e1, e2, e3, e4, e5, e6, e7, e8⟩ := HEND.out
              exact ⟨r, FF, E0, k0, d0, E1, k1, d1, R', rc', o.what, rfl, rfl, e1, e2, e3, e4, e5, e6, .inr HGD.out, e7, e8⟩
            · have y4 : (o.what == 1) = false := by simp [hw1]
              by_cases hw2 : o.what = 2
              · have y5 : (o.what == 2) = true := by simp [hw2]
                clear hw1 hw2
                obtain ⟨r, hr⟩ : ∃ r, r = L.sync := ⟨_, rfl⟩
                have hpr := sync_log gd g L F w5 HL5.out.lo
                rw [← hr] at hpr
                have HPR := Lib.hid hpr
                have hmd : Lg.Md (k + 2) (Bd ops k + 31 + 13 * rowsW o.rows) (L.sync).1 := (Lg.md_sync HI.out.2).more (by omega) (by omega)
                rw [← hr] at hmd
                have HMD := Lib.hid hmd
                have HGD := Lib.hid (show Lg.Good r.1 by rw [hr]; exact Lg.sync_good HI.out.1)
                have HRE := Lib.hid hr
                clear hr hpr hmd
                go_wp2_with fail
                refine HPR.out.mono ?_
                rintro e w6' hd
                obtain ⟨rfl, F6, hl6, hF6, hc6⟩ := HL5.out.did hd
                obtain ⟨w6, hw6⟩ : ∃ x, x = w6' := ⟨_, rfl⟩
                subst hw6
                have hFh : ∀ i, Fh F6 g wr.heap.size i → Fh F g wr.heap.size i ∨ w5.heap.size ≤ i := fun i hi => by
                  rcases hi with (hi | hi) | hi
                  · exact (hF6 i hi).imp (fun q => .inl (.inl q)) id
                  · exact .inl (.inl (.inr hi))
                  · exact .inl (.inr hi)
                have hcF := hc6.more (G := Fh F g wr.heap.size) (fun i hi => .inl (.inl hi))
                have hk6 := hc6.bk HK5.out (fun q => q.elim HHN.out.1 HHN.out.2.1)
                have h16 : ¬ F6 wr.heap.size := fun q => (hF6 _ q).elim HHN.out.1 (fun q => by have := HK5.out.lt; omega)
                have HM6 := Lib.hid (HM5.out.chg hcF hFh)
                have HRO6 := Lib.hid (HRO.out.step (hcF.more (G := fun i => Fh F g wr.heap.size i ∨ i = w6B.heap.size) (fun i hi => .inl (.inl hi))) (F' := fun i => Fh F6 g wr.heap.size i ∨ i = w6B.heap.size) (fun i hi => hi.elim (fun q => (hFh i q).imp .inl id) (fun q => .inl (.inr q))))
                have hrf := refLogSync L D0 D1 R m0 e0 m1 e1 rc w6 HM6.out.s0 HM6.out.s1 HI.out.2.pw (fun a e => (HM6.out.o0 a e).2.2) (fun a e => (HM6.out.o1 a e).2.2)
                rw [← HRE.out] at hrf
                unfold lgC at hrf
                have HRF := Lib.hid hrf
                have HL6 := Lib.hid hl6
                have HK6 := Lib.hid hk6
                have H16 := Lib.hid h16
                have hmk := HM6.out.bk
                unfold lgC at hmk
                obtain ⟨z0, z1, z2, z3, z4, z5, z6, z7, z8⟩ := hmk.nine
                clear t0 t1 t2 t3
                obtain ⟨t0, t1, t2, t3⟩ : w6.cell? ⟨wr.heap.size, 0, none⟩ = some (.int .i64 o.what) ∧ w6.cell? ⟨wr.heap.size, 1, none⟩ = some (.int .i64 o.n) ∧ w6.cell? ⟨wr.heap.size, 2, none⟩ = some (.slice B n5 pc) ∧ w6.cell? ⟨wr.heap.size, 3, none⟩ = some (.slice C q0 qc) := ⟨hk6.at_ rfl, hk6.at_ rfl, hk6.at_ rfl, hk6.at_ rfl⟩
                clear hd hl6 hF6 hc6 hFh hcF hk6 h16 hrf hmk HPR HRO HL5 HM5 HK5
                go_wp2_with fail
                refine HRF.out.mono ?_
                rintro e w7 ⟨E0, k0, d0, E1, k1, d1, R', rc', rfl, s0, s1, hb7, ho7, f0, f1⟩
                have HEND := Lib.hid (mid5_end (n := o.n) (rv := .slice B n5 pc) (kv := .slice C q0 qc) HL6.out HM6.out HK6.out H16.out HHN.out.2.1 HHN.out.2.2 HGM.out HT.out.1 HRO6.out s0 s1 hb7 ho7 f0 f1 HMD.out)
                have hmk := HM6.out.bk.kept hb7
                unfold lgC at hmk
                have hkk := HK6.out.kept hb7
                clear z0 z1 z2 z3 z4 z5 z6 z7 z8 t0 t1 t2 t3
                obtain ⟨z0, z1, z2, z3, z4, z5, z6, z7, z8⟩ := hmk.nine
                obtain ⟨u0, u1, u2, u3, u4, u5, u6, u7, u8⟩ := hmk.nine_free
                obtain ⟨t0, t1, t2, t3⟩ : w7.cell? ⟨wr.heap.size, 0, none⟩ = some (.int .i64 o.what) ∧ w7.cell? ⟨wr.heap.size, 1, none⟩ = some (.int .i64 o.n) ∧ w7.cell? ⟨wr.heap.size, 2, none⟩ = some (.slice B n5 pc) ∧ w7.cell? ⟨wr.heap.size, 3, none⟩ = some (.slice C q0 qc) := ⟨hkk.at_ rfl, hkk.at_ rfl, hkk.at_ rfl, hkk.at_ rfl⟩
                have tf := hkk.frozen 0
                have hne := HHN.out.2.2
                clear s0 s1 hb7 ho7 f0 f1 hmk hkk HRF HL6 HM6 HK6 HRO6
                unfold lgC
                go_wp2_with fail
                go_meet
                obtain ⟨FF, e1, e2, e3, e4, e5, e6, e7, e8⟩ := HEND.out
                exact ⟨r, FF, E0, k0, d0, E1, k1, d1, R', rc', o.what, rfl, rfl, e1, e2, e3, e4, e5, e6, .inr HGD.out, e7, e8⟩
              · have y5 : (o.what == 2) = false := by simp [hw2]
                by_cases hw3 : o.what = 3
                · have y6 : (o.what == 3) = true := by simp [hw3]
                  clear hw1 hw2 hw3
                  obtain ⟨r, hr⟩ : ∃ r, r = L.lay o.rows := ⟨_, rfl⟩
                  have hpr := lay_any gd g L F A5 n5 c5 o.rows w5 HL5.out.lo (HRO.out.less (fun i hi => .inl (.inl (.inl (.inl hi))))) HLEN.out.2.2.2.2.2.2 (by have := HLEN.out; omega) (by have := HSM.out; have := rows_len o.rows; omega) (by have h := Lg.whole_le (g := L.gen + 1) (n := o.rows.length) (ls := o.rows) (by have := HLEN.out; omega) (by have := rows_len o.rows; have := HSM.out; omega) HLEN.out.2.2.2.2.2.1; have := HLEN.out; have := HSM.out; omega) (by have h := Lg.whole_le (g := L.gen + 1) (n := o.rows.length) (ls := o.rows) (by have := HLEN.out; omega) (by have := rows_len o.rows; have := HSM.out; omega) HLEN.out.2.2.2.2.2.1; have := HLEN.out; have := HSM.out; omega)
                  rw [← hr] at hpr
                  have HPR := Lib.hid hpr
                  have hmd : Lg.Md (k + 2) (Bd ops k + 31 + 13 * rowsW o.rows) (L.lay o.rows).1 := (Lg.md_lay HI.out.2 (by have := HKN.out; have := HN40.out; omega) (by have := rows_len o.rows; have := HSM.out; omega)).more (by omega) (by omega)
                  rw [← hr] at hmd
                  have HMD := Lib.hid hmd
                  have HCD := Lib.hid (show r.2 = 0 ∨ r.2 = 13 ∨ r.2 = 40 by rw [hr]; exact lay_code HI.out.1.a)
                  have HGD := Lib.hid (show r.2 = 0 ∨ r.2 = 13 → Lg.Good r.1 from fun h => by rw [hr] at h ⊢; exact Lg.lay_good HI.out.1 (by have := HLEN.out; omega) (by have := rows_len o.rows; have := HSM.out; omega) h)
                  have HRE := Lib.hid hr
                  clear hr hpr hmd
                  go_wp2_with fail
                  refine HPR.out.mono ?_
                  rintro e w6' hd
                  obtain ⟨rfl, F6, hl6, hF6, hc6⟩ := HL5.out.did hd
                  obtain ⟨w6, hw6⟩ : ∃ x, x = w6' := ⟨_, rfl⟩
                  subst hw6
                  have hFh : ∀ i, Fh F6 g wr.heap.size i → Fh F g wr.heap.size i ∨ w5.heap.size ≤ i := fun i hi => by
                    rcases hi with (hi | hi) | hi
                    · exact (hF6 i hi).imp (fun q => .inl (.inl q)) id
                    · exact .inl (.inl (.inr hi))
                    · exact .inl (.inr hi)
                  have hcF := hc6.more (G := Fh F g wr.heap.size) (fun i hi => .inl (.inl hi))
                  have hk6 := hc6.bk HK5.out (fun q => q.elim HHN.out.1 HHN.out.2.1)
                  have h16 : ¬ F6 wr.heap.size := fun q => (hF6 _ q).elim HHN.out.1 (fun q => by have := HK5.out.lt; omega)
                  have HM6 := Lib.hid (HM5.out.chg hcF hFh)
                  have HRO6 := Lib.hid (HRO.out.step (hcF.more (G := fun i => Fh F g wr.heap.size i ∨ i = w6B.heap.size) (fun i hi => .inl (.inl hi))) (F' := fun i => Fh F6 g wr.heap.size i ∨ i = w6B.heap.size) (fun i hi => hi.elim (fun q => (hFh i q).imp .inl id) (fun q => .inl (.inr q))))
                  have hrf := refLogLay L D0 D1 R m0 e0 m1 e1 rc B n5 pc o.rows w6 HM6.out.s0 HM6.out.s1 (HRD.out.below hl6.be) HI.out.2.pw (fun a e => (HM6.out.o0 a e).2.2) (fun a e => (HM6.out.o1 a e).2.2) HLEN.out.2.2.2.2.2.2 (by have := HSM.out; have := rows_len o.rows; omega) (by have := HLEN.out; omega) (by rw [total_rowsW]; have := HSM.out; omega) (by have h := Lg.whole_le (g := L.gen + 1) (n := o.rows.length) (ls := o.rows) (by have := HLEN.out; omega) (by have := rows_len o.rows; have := HSM.out; omega) HLEN.out.2.2.2.2.2.1; have := HLEN.out; have := HSM.out; omega) (by have h := Lg.whole_le (g := L.gen + 1) (n := o.rows.length) (ls := o.rows) (by have := HLEN.out; omega) (by have := rows_len o.rows; have := HSM.out; omega) HLEN.out.2.2.2.2.2.1; have := HLEN.out; have := HSM.out; omega)
                  rw [← HRE.out] at hrf
                  unfold lgC at hrf
                  have HRF := Lib.hid hrf
                  have HL6 := Lib.hid hl6
                  have HK6 := Lib.hid hk6
                  have H16 := Lib.hid h16
                  have hmk := HM6.out.bk
                  unfold lgC at hmk
                  obtain ⟨z0, z1, z2, z3, z4, z5, z6, z7, z8⟩ := hmk.nine
                  clear t0 t1 t2 t3
                  obtain ⟨t0, t1, t2, t3⟩ : w6.cell? ⟨wr.heap.size, 0, none⟩ = some (.int .i64 o.what) ∧ w6.cell? ⟨wr.heap.size, 1, none⟩ = some (.int .i64 o.n) ∧ w6.cell? ⟨wr.heap.size, 2, none⟩ = some (.slice B n5 pc) ∧ w6.cell? ⟨wr.heap.size, 3, none⟩ = some (.slice C q0 qc) := ⟨hk6.at_ rfl, hk6.at_ rfl, hk6.at_ rfl, hk6.at_ rfl⟩
                  clear hd hl6 hF6 hc6 hFh hcF hk6 h16 hrf hmk HPR HRO HL5 HM5 HK5
                  go_wp2_with fail
                  refine HRF.out.mono ?_
                  rintro e w7 ⟨E0, k0, d0, E1, k1, d1, R', rc', rfl, s0, s1, hb7, ho7, f0, f1⟩
                  have HEND := Lib.hid (mid5_end (n := o.n) (rv := .slice B n5 pc) (kv := .slice C q0 qc) HL6.out HM6.out HK6.out H16.out HHN.out.2.1 HHN.out.2.2 HGM.out HT.out.1 HRO6.out s0 s1 hb7 ho7 f0 f1 HMD.out)
                  have hmk := HM6.out.bk.kept hb7
                  unfold lgC at hmk
                  have hkk := HK6.out.kept hb7
                  clear z0 z1 z2 z3 z4 z5 z6 z7 z8 t0 t1 t2 t3
                  obtain ⟨z0, z1, z2, z3, z4, z5, z6, z7, z8⟩ := hmk.nine
                  obtain ⟨u0, u1, u2, u3, u4, u5, u6, u7, u8⟩ := hmk.nine_free
                  obtain ⟨t0, t1, t2, t3⟩ : w7.cell? ⟨wr.heap.size, 0, none⟩ = some (.int .i64 o.what) ∧ w7.cell? ⟨wr.heap.size, 1, none⟩ = some (.int .i64 o.n) ∧ w7.cell? ⟨wr.heap.size, 2, none⟩ = some (.slice B n5 pc) ∧ w7.cell? ⟨wr.heap.size, 3, none⟩ = some (.slice C q0 qc) := ⟨hkk.at_ rfl, hkk.at_ rfl, hkk.at_ rfl, hkk.at_ rfl⟩
                  have tf := hkk.frozen 0
                  have hne := HHN.out.2.2
                  clear s0 s1 hb7 ho7 f0 f1 hmk hkk HRF HL6 HM6 HK6 HRO6
                  unfold lgC
                  by_cases h40 : r.2 = 40
                  · have y7 : (r.2 == 40) = true := by simp [h40]
                    have y8 : (r.2 == r.2) = true := by simp
                    have hne' : ¬ w6B.heap.size = wr.heap.size := fun e => HHN.out.2.2 e.symm
                    clear h40
                    go_wp2_with fail
                    go_meet
                    obtain ⟨FF, e1, e2, e3, e4, e5, e6, e7, e8⟩ := HEND.out
                    obtain ⟨j1, j2, j3, j4⟩ := mid5_set e1 e2 e3 e4 e5 HSZ.out HT.out.1 e8 4
                    exact ⟨r, FF, E0, k0, d0, E1, k1, d1, R', rc', 4, rfl, rfl, j1, j2, j3, e4, e5, e6, .inl rfl, e7, j4⟩
                  · have y7 : (r.2 == 40) = false := by simp [h40]
                    have HG2 := Lib.hid (HGD.out (by have := HCD.out; omega))
                    clear h40
                    go_wp2_with fail
                    go_meet
                    obtain ⟨FF, e1, e2, e3, e4, e5, e6, e7, e8⟩ := HEND.out
                    exact ⟨r, FF, E0, k0, d0, E1, k1, d1, R', rc', o.what, rfl, rfl, e1, e2, e3, e4, e5, e6, .inr HG2.out, e7, e8⟩
                · have y6 : (o.what == 3) = false := by simp [hw3]
                  clear hw1 hw2 hw3
                  go_wp2_with fail
                  go_meet
                  exact ⟨(L, 0), F, D0, m0, e0, D1, m1, e1, R, rc, o.what, rfl, rfl, HL5.out, HM5.out, HK5.out, HHN.out.1, HHN.out.2.1, HHN.out.2.2, .inr HI.out.1, HI.out.2.more (by omega) (by omega), HRO.out⟩
          case rest =>
            obtain ⟨r, F6, E0, k0, d0, E1, k1, d1, R', rc', wh, rfl, rfl, hl, hm, hko, h1, h2, h3, hgd, hmd, hro⟩ := hcut
            have hmk := hm.bk
            unfold lgC at hmk
            obtain ⟨z0, z1, z2, z3, z4, z5, z6, z7, z8⟩ := hmk.nine
            have t2 : wc.cell? ⟨wr.heap.size, 2, none⟩ = some (.slice B n5 pc) := hko.at_ rfl
            have y4 : (r.2 != r.2) = false := by simp
            have HSR := Lib.hid (show Calls Tryd.prog 23 #[.slice A5 n5 c5, .slice B n5 pc] wc (fun e w' => e = .returned (.bool true) ∧ Below wc.heap.size wc w') from (sameRows_self A5 B n5 n5 c5 pc wc o.rows hro.rd (HRD.out.below hl.be) (by have := HSM.out; have := rows_len o.rows; simp only [maxLen]; omega)).mono fun e w' ⟨he, q, hw⟩ => ⟨he, by rw [hw]; exact below_drewN (Below.refl _ _) q⟩)
            have HL := Lib.hid hl
            have HM := Lib.hid hm
            have HK := Lib.hid hko
            have HH := Lib.hid (And.intro h1 (And.intro h2 h3))
            have HGD := Lib.hid hgd
            have HMD := Lib.hid hmd
            clear hl hm hko h1 h2 h3 hgd hmd hro hmk HL5 HM5 HK5 HRO HI HLB HMB HKO HLEN HFL
            go_wp2_with fail
            refine HSR.out.mono ?_
            rintro e w8 ⟨rfl, hb8⟩
            have hm8 := HM.out.kept hb8
            have hk8 := HK.out.kept hb8
            have HSD := Lib.hid (same5_any gd r.1.D F6 E0 E1 k0 d0 k1 d1 w8 (HL.out.kept hb8).lo.dk hm8.s0 hm8.s1 (by have := HMD.out.l0; have := HBL.out; have := HSM.out; omega) (by have := HMD.out.l1; have := HBL.out; have := HSM.out; omega))
            have hmk := hm8.bk
            unfold lgC at hmk
            clear z0 z1 z2 z3 z4 z5 z6 z7 z8 t2
            obtain ⟨z0, z1, z2, z3, z4, z5, z6, z7, z8⟩ := hmk.nine
            have HL := Lib.hid (HL.out.kept hb8)
            have HM := Lib.hid hm8
            have HK := Lib.hid hk8
            clear hb8 hm8 hk8 hmk HSR
            go_wp2_with fail
            refine HSD.out.mono ?_
            rintro e w9 ⟨rfl, hb9⟩
            have HL := Lib.hid (HL.out.kept hb9)
            have hm9 := HM.out.kept hb9
            have hk9 := HK.out.kept hb9
            have HM := Lib.hid hm9
            have HK := Lib.hid hk9
            have hmk := hm9.bk
            unfold lgC at hmk
            clear z0 z1 z2 z3 z4 z5 z6 z7 z8
            obtain ⟨z0, z1, z2, z3, z4, z5, z6, z7, z8⟩ := hmk.nine
            obtain ⟨t0, t1, t2, t3⟩ : w9.cell? ⟨wr.heap.size, 0, none⟩ = some (.int .i64 wh) ∧ w9.cell? ⟨wr.heap.size, 1, none⟩ = some (.int .i64 o.n) ∧ w9.cell? ⟨wr.heap.size, 2, none⟩ = some (.slice B n5 pc) ∧ w9.cell? ⟨wr.heap.size, 3, none⟩ = some (.slice C q0 qc) := ⟨hk9.at_ rfl, hk9.at_ rfl, hk9.at_ rfl, hk9.at_ rfl⟩
            clear hb9 hm9 hk9 hmk HSD
            go_upto_if 133 with fail
            go_cut [5, 6, 15, 16, 17, 18] from 133 to 178 (fun vd vl _ _ _ _ wx => St5 w w6B.heap.size ops (k + 1) vd vl wx)
            case first =>
              by_cases h4 : wh = 4
              · have y5 : (wh == 4) = true := by simp [h4]
                clear h4
                have HCI := Lib.hid (show ∀ W, Below w9.heap.size w9 W → Calls Tryd.prog 26 #[.slice C q0 qc] W (fun e w' => ∃ A c, e = .returned (.slice A q0 c) ∧ (OwnI w' w9.heap.size A q0 c o.keeps ∧ Below w9.heap.size w9 w')) from fun W hW =>
                  (copyInts_any C q0 qc o.keeps W (HRI.out.below (HL.out.kept hW).be) (by have := HSM.out; omega)).mono fun e w' ⟨⟨A, c, he, ho⟩, hbl⟩ => by
                    refine ⟨A, c, he, ⟨ho.1, ?_⟩, below_next hW hbl hW.size⟩
                    rcases ho.2 with hn | ⟨g, cap, cur, e, hg, r⟩
                    · exact .inl hn
                    · exact .inr ⟨g, cap, cur, e, Nat.le_trans hW.size hg, r⟩)
                obtain ⟨P2, hP2⟩ : ∃ P2, P2 = r.1.D.crash o.keeps o.n := ⟨_, rfl⟩
                have hlc := r.1.D.len_crash o.keeps o.n
                rw [← hP2] at hlc
                have HP2 := Lib.hid hP2
                have HLC := Lib.hid (show P2.d0.length ≤ 85000 ∧ P2.d1.length ≤ 85000 ∧ r.1.D.d0.length ≤ 85000 ∧ r.1.D.d1.length ≤ 85000 by have := HMD.out.l0; have := HMD.out.l1; have := HBL.out; have := HSM.out; omega)
                have HCH := Lib.hid (show ∀ W A c, Below w9.heap.size w9 W → OwnI W w9.heap.size A q0 c o.keeps → Calls Tryd.prog 25 #[.pointer (some ⟨gd, 0, none⟩), .slice A q0 c, .int .i64 o.n] W (fun e w' => ∃ g2 F2, e = .returned (.pointer (some ⟨g2, 0, none⟩)) ∧ (Dk w' F2 g2 P2 ∧ (∀ i, F2 i → w9.heap.size ≤ i) ∧ Below w9.heap.size w9 w')) from fun W A c hW ho => by
                  rw [HP2.out]
                  exact (disk_crash gd r.1.D F6 A q0 c o.keeps o.n W (HL.out.kept hW).lo.dk ho.rd (by have := HSM.out; simp only [maxLen]; omega) HIW.out HWN.out (by have := HLC.out; omega) (by have := HLC.out; omega)).mono fun e w' ⟨g2, F2, he, hd, hF2, hbl⟩ => ⟨g2, F2, he, hd, fun i hi => Nat.le_trans hW.size (hF2 i hi), below_next hW hbl hW.size⟩)
                clear hP2 hlc
                go_wp2_with fail
                have hw := Below.refl w9.heap.size w9
                have HK9 := HK
                go_region_held3 (fun w' => w'.cell? ⟨wr.heap.size, 1, none⟩ = some (.int .i64 o.n) ∧ w'.cell? ⟨wr.heap.size, 3, none⟩ = some (.slice C q0 qc)) (first | go_keep | exact ⟨t1, t3⟩ | exact ⟨(HK9.out.kept hw).at_ rfl, (HK9.out.kept hw).at_ rfl⟩)
                  (first
                    | (go_at_call 26; with_reducible refine (HCI.out _ ?_).mono ?_
                       focus first | with_reducible exact hw | with_reducible exact below_drew hw
                       rintro e w10 ⟨A10, c10, rfl, fo, hw'⟩
                       replace hw := hw'
                       clear hw')
                    | (go_at_call 25; with_reducible refine (HCH.out _ _ _ ?_ ?_).mono ?_
                       focus first | with_reducible exact hw | with_reducible exact below_drew hw
                       focus first | with_reducible exact fo | exact fo
                       rintro e w11 ⟨g2, F2, rfl, hdk, hF2, hw'⟩
                       replace hw := hw'
                       clear hw'))
                all_goals
                  have hl11 := HL.out.kept hw
                  have hon : On w.heap.size w w11 F2 g2 P2 := ⟨hdk, fun i hi => Nat.le_trans HL.out.sz (hF2 i hi), hl11.be, hl11.sz⟩
                  obtain ⟨rr, hrr⟩ : ∃ rr, rr = Lg.opn P2 := ⟨_, rfl⟩
                  have hop := log_open g2 P2 F2 w11 hon.dk (Tab.on HT.out hon HT.out.1) (below_pos hon HT.out.1) (by have := HLC.out; omega) (by have := HLC.out; omega)
                  rw [← hrr] at hop
                  have HRR := Lib.hid hrr
                  have HOP := Lib.hid hop
                  have HON := Lib.hid hon
                  have HF2 := Lib.hid hF2
                  have HM11 := Lib.hid (HM.out.kept hw)
                  have HK11 := Lib.hid (HK.out.kept hw)
                  have HS11 := Lib.hid hw.size
                  clear hl11 hon hrr hop hdk hF2 hw fo t0 t1 t2 t3 z0 z1 z2 z3 z4 z5 z6 z7 z8
                  go_wp2_with fail
                  refine HOP.out.mono ?_
                  rintro e w12 ho
                  have hcall := HON.out.open_ ho
                  have hc12 : Chg F2 w11 w12 := by
                    rcases hcall with ⟨_, _, _, _, _, hc⟩ | ⟨_, _, _, _, _, _, hc, _⟩
                    · exact hc
                    · exact hc
                  have hFn : ∀ i, F2 i → ¬ Fh F6 g wr.heap.size i ∧ i ≠ w6B.heap.size := fun i hi => by
                    have h9 := HF2.out i hi
                    refine ⟨fun q => ?_, by have := HM.out.bk.lt; omega⟩
                    rcases q with (q | rfl) | rfl
                    · have := HL.out.lt i q; omega
                    · have := HL.out.lo.bk.lt; omega
                    · have := HK.out.lt; omega
                  have hm12 : Bk w12 w6B.heap.size 39 _ := hc12.bk HM11.out.bk (fun q => (hFn _ q).2 rfl)
                  have hs0 : Sl w12 E0 k0 d0 r.1.D.d0 := hc12.sl HM11.out.s0 (fun a e q => by have := HF2.out _ q; have := (HM.out.o0 a e).2.2; omega)
                  have hs1 : Sl w12 E1 k1 d1 r.1.D.d1 := hc12.sl HM11.out.s1 (fun a e q => by have := HF2.out _ q; have := (HM.out.o1 a e).2.2; omega)
                  have hk12 := hc12.bk HK11.out (fun q => (hFn _ q).1 (.inr rfl))
                  have hbe12 : Below w.heap.size w w12 := by
                    rcases hcall with ⟨_, _, _, h, _⟩ | ⟨_, _, _, _, h, _⟩
                    · exact h.be
                    · exact h.be
                  have hft : ∀ i, Fh F6 g wr.heap.size i ∨ True := fun i => .inr trivial
                  have HRC := Lib.hid (refCrash_any r.1.D o.n E0 E1 k0 d0 k1 d1 C q0 qc o.keeps w12 HL.out.lo.dk.fine hs0 hs1 (HRI.out.below hbe12) (by have := HSM.out; simp only [maxLen]; omega) HIW.out (by have := HLC.out; omega) (by have := HLC.out; omega))
                  have HBE12 := Lib.hid hbe12
                  have HM12 := Lib.hid hm12
                  unfold lgC at hm12
                  obtain ⟨z0, z1, z2, z3, z4, z5, z6, z7, z8⟩ := hm12.nine
                  obtain ⟨t0, t1, t2, t3⟩ : w12.cell? ⟨wr.heap.size, 0, none⟩ = some (.int .i64 wh) ∧ w12.cell? ⟨wr.heap.size, 1, none⟩ = some (.int .i64 o.n) ∧ w12.cell? ⟨wr.heap.size, 2, none⟩ = some (.slice B n5 pc) ∧ w12.cell? ⟨wr.heap.size, 3, none⟩ = some (.slice C q0 qc) := ⟨hk12.at_ rfl, hk12.at_ rfl, hk12.at_ rfl, hk12.at_ rfl⟩
                  rw [← HP2.out] at HRC
                  clear ho hc12 hFn hm12 hs0 hs1 hk12 hbe12 hft HOP
                  rcases hcall with ⟨hz, rfl, F3, hon3, _, _⟩ | ⟨hz, g3, F3, rfl, hl3, hF3, _, hg3⟩
                  · have y6 : (rr.2 != rr.2) = false := by simp
                    have y7 : (rr.2 == rr.2) = true := by simp
                    have y8 : (rr.2 != 0) = true := by simp [hz]
                    clear hz hon3
                    go_wp2_with fail
                    refine HRC.out.mono ?_
                    rintro e w13 ⟨B0, b0, x0, B1, b1, x1, rfl, ho0, ho1, hb13⟩
                    have HRO := Lib.hid (show Calls Tryd.prog 15 #[.agg #[.int .i64 P2.power, .slice B0 b0 x0, .slice B1 b1 x1, .int .i64 P2.s0, .int .i64 P2.s1]] w13 (LogS B0 B1 rr w13) from by
                      rw [HRR.out]
                      exact refOpen P2 B0 B1 b0 x0 b1 x1 w13 (Sl.own ho0) (Sl.own ho1) (by rw [HP2.out]; exact HWN.out) (fun a e => (own_le ho0 a e).2) (fun a e => (own_le ho1 a e).2) (by have := HLC.out; omega) (by have := HLC.out; omega))
                    have HW0 := Lib.hid (fun a e => own_le ho0 a e)
                    have HW1 := Lib.hid (fun a e => own_le ho1 a e)
                    have HB13 := Lib.hid hb13
                    clear ho0 ho1 hb13 HRC
                    go_wp2_with fail
                    refine HRO.out.mono ?_
                    rintro e w14 ⟨G0, j0, l0, G1, j1, l1, RR, rrc, rfl, s0, s1, hb14, ho14, f0, f1⟩
                    have HBZ := Lib.hid ((below_next (below_next HBE12.out HB13.out HBE12.out.size) hb14 (Nat.le_trans HBE12.out.size HB13.out.size)).alloc (Nat.le_trans HBE12.out.size (Nat.le_trans HB13.out.size hb14.size)) (.cells (lgC rr.1.D.power G0 j0 l0 G1 j1 l1 rr.1.D.s0 rr.1.D.s1 rr.1.a rr.1.gen rr.1.n RR rr.1.list.length rrc).toArray 39))
                    unfold lgC at HBZ ⊢
                    clear s0 s1 hb14 ho14 f0 f1 HRO z0 z1 z2 z3 z4 z5 z6 z7 z8 t0 t1 t2 t3
                    go_wp2_with fail
                    go_ret
                    exact ⟨rfl, HBZ.out⟩
                  · have y6 : ((0 : Int) != rr.2) = false := by simp [hz]
                    have HG3 := Lib.hid (show Lg.Good rr.1 by rw [HRR.out] at hz ⊢; exact Lg.opn_good hz)
                    have HMD3 := Lib.hid (show Lg.Md (k + 2) (Bd ops k + 31 + 13 * rowsW o.rows + 31) rr.1 from by
                      rw [HRR.out, HP2.out]
                      have hlc := r.1.D.len_crash o.keeps o.n
                      exact Lg.md_opn (HMD.out.wh.crash _ _) (Nat.le_trans hlc.1 HMD.out.l0) (Nat.le_trans hlc.2 HMD.out.l1) HWN.out (by omega) (by have := HKN.out; have := HN40.out; omega))
                    have hgl3 := hl3.lo.bk.lt
                    have hgm9 : w6B.heap.size < w9.heap.size := HM.out.bk.lt
                    have HGG := Lib.hid (show (∀ i, (F3 i ∨ i = g3) → i < w12.heap.size) ∧ ¬ (F3 w6B.heap.size ∨ w6B.heap.size = g3) from ⟨fun i hi => hi.elim (hl3.lt i) (fun e => e ▸ hgl3), fun q => by
                      have h11 := HS11.out
                      rcases q with q | q
                      · rcases hF3 _ q with q | q
                        · have := HF2.out _ q; omega
                        · omega
                      · omega⟩)
                    have HL3 := Lib.hid hl3
                    clear hz hl3 hF3 hg3 hgl3 hgm9
                    go_wp2_with fail
                    refine HRC.out.mono ?_
                    rintro e w13 ⟨B0, b0, x0, B1, b1, x1, rfl, ho0, ho1, hb13⟩
                    have HRO := Lib.hid (show Calls Tryd.prog 15 #[.agg #[.int .i64 P2.power, .slice B0 b0 x0, .slice B1 b1 x1, .int .i64 P2.s0, .int .i64 P2.s1]] w13 (LogS B0 B1 rr w13) from by
                      rw [HRR.out]
                      exact refOpen P2 B0 B1 b0 x0 b1 x1 w13 (Sl.own ho0) (Sl.own ho1) (by rw [HP2.out]; exact HWN.out) (fun a e => (own_le ho0 a e).2) (fun a e => (own_le ho1 a e).2) (by have := HLC.out; omega) (by have := HLC.out; omega))
                    have HW0 := Lib.hid (fun a e => own_le ho0 a e)
                    have HW1 := Lib.hid (fun a e => own_le ho1 a e)
                    have HB13 := Lib.hid hb13
                    clear ho0 ho1 hb13 HRC
                    go_wp2_with fail
                    refine HRO.out.mono ?_
                    rintro e w14 ⟨G0, j0, l0, G1, j1, l1, RR, rrc, rfl, s0, s1, hb14, ho14, f0, f1⟩
                    have hkb := (HM12.out.kept HB13.out).kept hb14
                    have HLN := Lib.hid ((HL3.out.kept HB13.out).kept hb14)
                    have HMN := Lib.hid (ml_put (F := fun i => F3 i ∨ i = g3) (L := rr.1) (rc := rrc) hkb s0 s1 (ho14.off' (fun i hi => hi.elim (fun q => Nat.lt_of_lt_of_le (HGG.out.1 i q) HB13.out.size) (fun e => by have := HM12.out.lt; have := HB13.out.size; omega))) HGG.out.2
                      (fun a e => by
                        have hm := HM12.out.lt
                        have h13 := HB13.out.size
                        have h14 := hb14.size
                        have hw : w12.heap.size ≤ a.block ∧ a.block < w14.heap.size := by
                          rcases f0 with q | q
                          · rw [q] at e; have := HW0.out a e; omega
                          · have := q a e; omega
                        exact ⟨fun hf => by have := HGG.out.1 _ hf; omega, by omega, hw.2⟩)
                      (fun a e => by
                        have hm := HM12.out.lt
                        have h13 := HB13.out.size
                        have h14 := hb14.size
                        have hw : w12.heap.size ≤ a.block ∧ a.block < w14.heap.size := by
                          rcases f1 with q | q
                          · rw [q] at e; have := HW1.out a e; omega
                          · have := q a e; omega
                        exact ⟨fun hf => by have := HGG.out.1 _ hf; omega, by omega, hw.2⟩))
                    have hlt14 : w6B.heap.size < w14.heap.size := hkb.lt
                    clear z0 z1 z2 z3 z4 z5 z6 z7 z8 t0 t1 t2 t3 s0 s1 hb14 ho14 f0 f1 HRO
                    unfold lgC at hkb
                    obtain ⟨z0, z1, z2, z3, z4, z5, z6, z7, z8⟩ := hkb.nine
                    obtain ⟨u0, u1, u2, u3, u4, u5, u6, u7, u8⟩ := hkb.nine_free
                    clear hkb
                    unfold lgC
                    go_wp2_with fail
                    go_meet
                    have hcn := nine_chg (F := fun i => i = w6B.heap.size) (X := w14) (g := w6B.heap.size) rfl (.int .i64 rr.1.D.power) (.slice G0 j0 l0) (.slice G1 j1 l1) (.int .i64 rr.1.D.s0) (.int .i64 rr.1.D.s1) (.int .i64 rr.1.a) (.int .i64 (rr.1.gen : Int)) (.int .i64 (rr.1.n : Int)) (.slice RR rr.1.list.length rrc)
                    exact ⟨g2, g3, F3, rr.1, G0, j0, l0, G1, j1, l1, RR, rrc, rfl, rfl, (HLN.out.other hcn (fun i e => by have := HGM.out; omega) (fun i hf e => HGG.out.2 (.inl (e ▸ hf))) (fun e => HGG.out.2 (.inr e.symm)) HT.out.1).alloc _, HMN.out.kept ((Below.refl _ _).alloc (Nat.le_refl _) _), HG3.out, HMD3.out.more (by omega) (by have := HBN.out; omega)⟩
              · have y5 : (wh == 4) = false := by simp [h4]
                have HG := Lib.hid (HGD.out.resolve_left h4)
                clear h4
                go_wp2_with fail
                go_meet
                exact ⟨gd, g, F6, r.1, E0, k0, d0, E1, k1, d1, R', rc', rfl, rfl, HL.out, HM.out.chg (Chg.refl _ _) (fun i hi => .inl (.inl hi)), HG.out, HMD.out.more (by omega) (by have := HBN.out; omega)⟩
            case rest =>
              clear HMD HGD HH HK HM HL t0 t1 t2 t3 z0 z1 z2 z3 z4 z5 z6 z7 z8 y4
              obtain ⟨gd', g', F', L', G0, j0, l0, G1, j1, l1, RR, rrc, rfl, rfl, hl, hm, hi⟩ := hcut
              rename World => wx
              have hB1 := bd_le (k := k + 1) (ops := ops) (by have := HN40.out; have := HKN.out; omega) HW.out
              have hli := Lg.list_le hi.1
              have hdl := PD.data_le (P := L'.D) (N := Bd ops (k + 1)) hi.2.l0 hi.2.l1 L'.a
              have HLL := Lib.hid (show L'.list.length ≤ 42000 ∧ L'.D.d0.length ≤ 42000 ∧ L'.D.d1.length ≤ 42000 by have := hi.2.l0; have := hi.2.l1; omega)
              have hmk := hm.bk
              unfold lgC at hmk
              obtain ⟨z0, z1, z2, z3, z4, z5, z6, z7, z8⟩ := hmk.nine
              have HMK := Lib.hid hmk
              have HL := Lib.hid hl
              have HM := Lib.hid hm
              have HI := Lib.hid hi
              have yn : ((L'.n : Int) != (L'.n : Int)) = false := by simp
              have HRC := Lib.hid (show ∀ W, Below wx.heap.size wx W → Calls Tryd.prog 28 #[.pointer (some ⟨g', 0, none⟩)] W (fun e w' => ∃ A5 n5 c5, e = .returned (.slice A5 n5 c5) ∧ RdRows w' A5 n5 L'.list ∧ Below wx.heap.size wx w') from fun W hW =>
                (records_any gd' g' L' F' W (HL.out.kept hW).lo HI.out.1 (by have := HLL.out; omega) (by have := HLL.out; omega) (by have := HLL.out; omega)).mono fun e w' ⟨A5, n5, c5, he, ho, hb⟩ => ⟨A5, n5, c5, he, ho.rd, below_next hW hb hW.size⟩)
              have HSR := Lib.hid (show ∀ A5 n5 c5 W, Below wx.heap.size wx W → RdRows W A5 n5 L'.list → Calls Tryd.prog 23 #[.slice A5 n5 c5, .slice RR L'.list.length rrc] W (fun e w' => e = .returned (.bool true) ∧ Below wx.heap.size wx w') from fun A5 n5 c5 W hW ho =>
                (sameRows_self A5 RR n5 L'.list.length c5 rrc W L'.list ho (HM.out.rw.rd.below hW) (by have := ho.1; have := HLL.out; simp only [maxLen]; omega)).mono fun e w' ⟨he, q, hw⟩ => ⟨he, by rw [hw]; exact below_drewN hW q⟩)
              have HLA := Lib.hid (show ∀ W, Below wx.heap.size wx W → Calls Tryd.prog 29 #[.pointer (some ⟨g', 0, none⟩)] W (fun e w' => e = .returned (.int .i64 L'.n) ∧ Below wx.heap.size wx w') from fun W hW =>
                (laid_any gd' g' L' F' W (HL.out.kept hW).lo).mono fun e w' ⟨he, hw⟩ => ⟨he, by rw [hw]; exact hW⟩)
              have HSD := Lib.hid (show ∀ W, Below wx.heap.size wx W → Calls Tryd.prog 24 #[.pointer (some ⟨gd', 0, none⟩), .agg #[.int .i64 L'.D.power, .slice G0 j0 l0, .slice G1 j1 l1, .int .i64 L'.D.s0, .int .i64 L'.D.s1]] W (fun e w' => e = .returned (.bool true) ∧ Below wx.heap.size wx w') from fun W hW =>
                (same5_any gd' L'.D F' G0 G1 j0 l0 j1 l1 W (HL.out.kept hW).lo.dk (HM.out.s0.below hW) (HM.out.s1.below hW) (by have := HLL.out; omega) (by have := HLL.out; omega)).mono fun e w' ⟨he, hb⟩ => ⟨he, below_next hW hb hW.size⟩)
              have hw := Below.refl wx.heap.size wx
              clear hB1 hli hdl hmk hl hm hi
              go_wp2_with fail
              go_region_held3 (fun w' => w'.cell? ⟨w6B.heap.size, 0, none⟩ = some (.int .i64 L'.D.power) ∧ w'.cell? ⟨w6B.heap.size, 1, none⟩ = some (.slice G0 j0 l0) ∧ w'.cell? ⟨w6B.heap.size, 2, none⟩ = some (.slice G1 j1 l1) ∧ w'.cell? ⟨w6B.heap.size, 3, none⟩ = some (.int .i64 L'.D.s0) ∧ w'.cell? ⟨w6B.heap.size, 4, none⟩ = some (.int .i64 L'.D.s1) ∧ w'.cell? ⟨w6B.heap.size, 7, none⟩ = some (.int .i64 (L'.n : Int)) ∧ w'.cell? ⟨w6B.heap.size, 8, none⟩ = some (.slice RR L'.list.length rrc))
                (first | go_keep | exact ⟨z0, z1, z2, z3, z4, z7, z8⟩ | exact ⟨(HMK.out.kept hw).at_ rfl, (HMK.out.kept hw).at_ rfl, (HMK.out.kept hw).at_ rfl, (HMK.out.kept hw).at_ rfl, (HMK.out.kept hw).at_ rfl, (HMK.out.kept hw).at_ rfl, (HMK.out.kept hw).at_ rfl⟩)
                (first
                  | (go_at_call 28; with_reducible refine (HRC.out _ ?_).mono ?_
                     focus first | with_reducible exact hw | with_reducible exact below_drew hw
                     rintro e w16 ⟨A6, n6, c6, rfl, fo, hw'⟩
                     replace hw := hw'
                     clear hw')
                  | (go_at_call 23; with_reducible refine (HSR.out _ _ _ _ ?_ ?_).mono ?_
                     focus first | with_reducible exact hw | with_reducible exact below_drew hw
                     focus first | with_reducible exact fo | exact fo
                     rintro e w17 ⟨rfl, hw'⟩
                     replace hw := hw'
                     clear hw')
                  | (go_at_call 29; with_reducible refine (HLA.out _ ?_).mono ?_
                     focus first | with_reducible exact hw | with_reducible exact below_drew hw
                     rintro e w18 ⟨rfl, hw'⟩
                     replace hw := hw'
                     clear hw')
                  | (go_at_call 24; with_reducible refine (HSD.out _ ?_).mono ?_
                     focus first | with_reducible exact hw | with_reducible exact below_drew hw
                     rintro e w19 ⟨rfl, hw'⟩
                     replace hw := hw'
                     clear hw'))
              clear z0 z1 z2 z3 z4 z5 z6 z7 z8
              go_wp2_with fail
              go_roundw
              case rel => exact ⟨k + 1, by have := HKN.out; omega, by go_num, gd', g', F', L', G0, j0, l0, G1, j1, l1, RR, rrc, rfl, rfl, HL.out.kept hw, HM.out.kept hw, HI.out⟩
              case measure => have := HKN.out; simp [intOf]; omega
        · have y2 : ¬ (k : Int) < (n1 : Int) := by omega
          have HBF := Lib.hid hl.be
          clear hl hm hi hkn hk
          go_wp2_with fail
          go_ret
          exact ⟨rfl, HBF.out⟩
  · clear hgr HGR
    go_wp2_with fail
    go_ret
    exact ⟨rfl, HB3.out⟩
end Go.Proofs.YtmiejaohkgemnaaDoor
