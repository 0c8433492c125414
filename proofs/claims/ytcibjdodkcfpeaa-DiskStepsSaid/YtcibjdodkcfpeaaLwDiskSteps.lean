/-
  DiskSteps: the walk.
-/
import Derived.Test.YtcibjdodkcfpeaaDiskDoes
import Derived.Test.YtcibjdodkcfpeaaLwDiskPower
import Derived.Deep.RegionHeld3
namespace Go.Proofs.Ytcibjdodkcfpeaa
open Go.RowKit
set_option linter.unusedVariables false

theorem RdCalls.nums_wf {w : World} {A : Option Addr} {n k : Nat} {ops : List Call} (h : RdCalls w A n ops) (hk : k < ops.length) : ∀ x ∈ ops[k].areas, -9223372036854775808 ≤ x ∧ x ≤ 9223372036854775807 := by
  obtain ⟨x, e, _, hc⟩ := h.2 k ops[k] (List.getElem?_eq_getElem hk)
  obtain ⟨B, p, pc, C, q, qc, _, _, _, _, _, _, _, _, _, hI, _⟩ := hc
  obtain ⟨_, _, _, _, _, _, _, hw, _⟩ := hI
  exact fun x hx => wf_i64 (hw x hx)
/-- the document's disk in the block gm, and that it has nothing in common with F -/
structure Mo (w : World) (F : Nat → Prop) (gm : Nat) (P : PD) (A0 : Option Addr) (n0 c0 : Nat) (A1 : Option Addr) (n1 c1 : Nat) : Prop where
  bk : Bk w gm 32 [.int .i64 P.power, .slice A0 n0 c0, .slice A1 n1 c1, .int .i64 P.s0, .int .i64 P.s1]
  s0 : Sl w A0 n0 c0 P.d0
  s1 : Sl w A1 n1 c1 P.d1
  off : ¬ F gm
  o0 : ∀ a, A0 = some a → ¬ F a.block ∧ a.block ≠ gm ∧ a.block < w.heap.size
  o1 : ∀ a, A1 = some a → ¬ F a.block ∧ a.block ≠ gm ∧ a.block < w.heap.size
theorem Mo.kept {w w' : World} {F : Nat → Prop} {gm : Nat} {P : PD} {A0 A1 : Option Addr} {n0 c0 n1 c1 : Nat} (h : Mo w F gm P A0 n0 c0 A1 n1 c1) (hb : Below w.heap.size w w') : Mo w' F gm P A0 n0 c0 A1 n1 c1 :=
  ⟨h.bk.kept hb, h.s0.below hb, h.s1.below hb, h.off, fun a e => ⟨(h.o0 a e).1, (h.o0 a e).2.1, Nat.lt_of_lt_of_le (h.o0 a e).2.2 hb.size⟩, fun a e => ⟨(h.o1 a e).1, (h.o1 a e).2.1, Nat.lt_of_lt_of_le (h.o1 a e).2.2 hb.size⟩⟩
/-- behind a call on the other disk -/
theorem Mo.chg {w w' : World} {F F' : Nat → Prop} {gm : Nat} {P : PD} {A0 A1 : Option Addr} {n0 c0 n1 c1 : Nat} (h : Mo w F gm P A0 n0 c0 A1 n1 c1) (hc : Chg F w w') (hF : ∀ i, F' i → F i ∨ w.heap.size ≤ i) : Mo w' F' gm P A0 n0 c0 A1 n1 c1 := by
  have hg := h.bk.lt
  refine ⟨hc.bk h.bk h.off, hc.sl h.s0 (fun a e => (h.o0 a e).1), hc.sl h.s1 (fun a e => (h.o1 a e).1), fun hf => (hF gm hf).elim h.off (by omega), fun a e => ⟨fun hf => ?_, (h.o0 a e).2.1, Nat.lt_of_lt_of_le (h.o0 a e).2.2 hc.size⟩, fun a e => ⟨fun hf => ?_, (h.o1 a e).2.1, Nat.lt_of_lt_of_le (h.o1 a e).2.2 hc.size⟩⟩
  · have := h.o0 a e
    rcases hF _ hf with q | q
    · exact this.1 q
    · omega
  · have := h.o1 a e
    rcases hF _ hf with q | q
    · exact this.1 q
    · omega
/-- the document's disk stored anew into its block -/
theorem Mo.put {w w' : World} {F : Nat → Prop} {gm : Nat} {P Q : PD} {A0 A1 B0 B1 : Option Addr} {n0 c0 n1 c1 m0 e0 m1 e1 : Nat} (h : Mo w F gm P A0 n0 c0 A1 n1 c1) (hF : ∀ i, F i → i < w.heap.size) (hb : Below w.heap.size w w') (h0 : Sl w' B0 m0 e0 Q.d0) (h1 : Sl w' B1 m1 e1 Q.d1)
    (f0 : B0 = A0 ∨ ∀ a, B0 = some a → w.heap.size ≤ a.block ∧ a.block < w'.heap.size) (f1 : B1 = A1 ∨ ∀ a, B1 = some a → w.heap.size ≤ a.block ∧ a.block < w'.heap.size) :
    Mo (((((w'.setCell ⟨gm, 0, none⟩ (.int .i64 Q.power)).setCell ⟨gm, 1, none⟩ (.slice B0 m0 e0)).setCell ⟨gm, 2, none⟩ (.slice B1 m1 e1)).setCell ⟨gm, 3, none⟩ (.int .i64 Q.s0)).setCell ⟨gm, 4, none⟩ (.int .i64 Q.s1)) F gm Q B0 m0 e0 B1 m1 e1 := by
  have hg := h.bk.lt
  have n0' : ∀ a, B0 = some a → ¬ F a.block ∧ a.block ≠ gm ∧ a.block < w'.heap.size := fun a e => by
    rcases f0 with q | q
    · rw [q] at e; exact ⟨(h.o0 a e).1, (h.o0 a e).2.1, Nat.lt_of_lt_of_le (h.o0 a e).2.2 hb.size⟩
    · have := q a e; exact ⟨fun hf => by have := hF _ hf; omega, by omega, this.2⟩
  have n1' : ∀ a, B1 = some a → ¬ F a.block ∧ a.block ≠ gm ∧ a.block < w'.heap.size := fun a e => by
    rcases f1 with q | q
    · rw [q] at e; exact ⟨(h.o1 a e).1, (h.o1 a e).2.1, Nat.lt_of_lt_of_le (h.o1 a e).2.2 hb.size⟩
    · have := q a e; exact ⟨fun hf => by have := hF _ hf; omega, by omega, this.2⟩
  have hc := five_chg (F := fun i => i = gm) (X := w') (g := gm) rfl (.int .i64 Q.power) (.slice B0 m0 e0) (.slice B1 m1 e1) (.int .i64 Q.s0) (.int .i64 Q.s1)
  refine ⟨five_set (h.bk.kept hb) _ _ _ _ _, hc.sl h0 (fun a e => (n0' a e).2.1), hc.sl h1 (fun a e => (n1' a e).2.1), h.off, fun a e => ⟨(n0' a e).1, (n0' a e).2.1, Nat.lt_of_lt_of_le (n0' a e).2.2 hc.size⟩, fun a e => ⟨(n1' a e).1, (n1' a e).2.1, Nat.lt_of_lt_of_le (n1' a e).2.2 hc.size⟩⟩
/-- how the loop over the script stands -/
def StAt (w : World) (gm : Nat) (ops : List Call) (k : Nat) (d : Value) (wr : World) : Prop :=
  ∃ g F P A0 n0 c0 A1 n1 c1, d = .pointer (some ⟨g, 0, none⟩) ∧ On w.heap.size w wr F g P ∧ Mo wr F gm P A0 n0 c0 A1 n1 c1 ∧ Small P ops k ∧ (-9223372036854775808 ≤ P.power ∧ P.power ≤ 9223372036854775807)
set_option maxHeartbeats 3200000 in
theorem diskSteps_walk (w : World) (p : Int) (hp : (Lit.int .i64 p).wf = true) (v0 : Value) (ops0 : List Call) (h0 : InCalls w v0 ops0) :
    Calls Try.prog 3 #[.int .i64 p, v0] w (Tr w) := by
  obtain ⟨A, n0, c, rfl, hnc, hcm, hA, hAz⟩ := h0
  have HA := Lib.hid hA
  have HPW := Lib.hid (wf_i64 hp)
  have HAL := Lib.hid (alive_ok w)
  have HNC := Lib.hid hnc
  have HCM := Lib.hid hcm
  clear hA hAz hp hnc hcm
  go_enter Try.func3, Try.ntmps3
  go_wp2_with fail
  refine HAL.out.mono ?_
  rintro e w1 ⟨rfl, hb1⟩
  have HB1 := Lib.hid hb1
  have HCU := Lib.hid (cut_any A n0 c ops0 w1 (HA.out.below hb1) HNC.out HCM.out)
  clear hb1 HAL
  go_wp2_with fail
  refine HCU.out.mono ?_
  rintro e w2 ⟨n1, rfl, hr, hn60, hn01, rfl⟩
  have HGR := Lib.hid (great_any A n1 c (ops0.take 60) w2 hr hn60)
  have HN60 := Lib.hid hn60
  have HRW := Lib.hid (cut_same HA.out hr.1)
  generalize ops0.take 60 = ops at *
  clear hr hn60 hn01 HCU HA
  go_wp2_with fail
  refine HGR.out.mono ?_
  rintro e w3 ⟨gr, rfl, hgr, rfl⟩
  have HBE := HB1
  cases gr
  · have HW := Lib.hid (hgr rfl)
    have HN := Lib.hid (disk_new p w3 HPW.out)
    clear hgr HGR
    go_wp2_with fail
    refine HN.out.mono ?_
    rintro e w4 hm
    obtain ⟨g, F, rfl, hon, hF, _⟩ := Made.on HBE.out HBE.out.size hm
    have HAT := Lib.hid (show StAt w w4.heap.size ops 0 (.pointer (some ⟨g, 0, none⟩)) (w4.alloc (.cells #[.int .i64 p, .slice none 0 0, .slice none 0 0, .int .i64 0, .int .i64 0] 32)) from
      ⟨g, F, PD.new p, none, 0, 0, none, 0, 0, rfl, hon.alloc _, ⟨Bk.new _ _ _, Sl.nil_ _, Sl.nil_ _, fun hf => by have := hon.lt _ hf; omega, fun a e => by (cases e), fun a e => by (cases e)⟩, by simp [Small, PD.new], HPW.out⟩)
    have HGM := Lib.hid (show w.heap.size ≤ w4.heap.size from hon.sz)
    clear hm hon hF HBE HB1 HN
    go_wp2_with fail
    go_loopw [5, 7] (fun d i wr => ∃ k : Nat, k ≤ n1 ∧ i = .int .i64 k ∧ StAt w w4.heap.size ops k d wr) (fun _ i _ => n1 - (intOf i).toNat)
    case atStart => exact ⟨0, Nat.zero_le _, rfl, HAT.out⟩
    case round =>
      clear HAT
      obtain ⟨k, hk, rfl, g, F, P, A0, n0, c0, A1, n1', c1, rfl, hon, hmo, hsm, hpw⟩ := hrel
      have HON := Lib.hid hon
      have HMO := Lib.hid hmo
      have HSM := Lib.hid hsm
      have HPP := Lib.hid hpw
      by_cases hkn : k < n1
      · have hkl : k < ops.length := by rw [HRW.out.1]; exact hkn
        have HWF := Lib.hid (HRW.out.nums_wf hkl)
        obtain ⟨x, R, r, rc, S, s, sc, rfl, h5, _, _, hwn⟩ := HRW.out.at_ hkl
        have H5 := Lib.hid h5
        have HWN := Lib.hid (wf_i64 hwn)
        have h5r := h5.below hon.be
        have hRd := h5r.rows
        have hRi := h5r.nums
        have x0 := h5r.c0
        have x1 := h5r.c1
        have x2 := h5r.c2
        have x3 := h5r.c3
        have x4 := h5r.c4
        have HKN := Lib.hid hkn
        have y4 : (0 : Int) ≤ (k : Int) := by omega
        have y5 : (k : Int) < (n1 : Int) := by omega
        have y6 : (n1 : Int) ≤ 60 := by have := HN60.out; omega
        have w1' : IntKind.i64.wrap ((k : Int) + 1) = (k : Int) + 1 := by simp only [IntKind.wrap, IntKind.bits, IntKind.signed]; simp; omega
        have hwt := weight_at ops k hkl
        have hfl := flat_rowsW ops[k].parts
        have htl := total_len ops[k].parts
        have htr := total_rowsW ops[k].parts
        have hlr : ops[k].parts.length = r := hRd.1
        have hli : ops[k].areas.length = s := by simpa using hRi.1
        have HLN := Lib.hid (show P.d0.length + ops[k].parts.flatten.length ≤ 5000 ∧ P.d1.length + ops[k].parts.flatten.length ≤ 5000 ∧ r ≤ 5000 ∧ s ≤ 5000 by
          have := HW.out
          obtain ⟨s0, s1⟩ := hsm
          omega)
        obtain ⟨wb, hwb⟩ : ∃ wb, wb = wr.alloc (.cells #[.int .i64 ops[k].what, .int .i64 ops[k].area, .int .i64 ops[k].n, .slice R r rc, .slice S s sc] 36) := ⟨_, rfl⟩
        have hbb : Below wr.heap.size wr wb := by rw [hwb]; exact (Below.refl _ _).alloc (Nat.le_refl _) _
        have KB := Lib.hid (show Bk wb wr.heap.size 36 [.int .i64 ops[k].what, .int .i64 ops[k].area, .int .i64 ops[k].n, .slice R r rc, .slice S s sc] by rw [hwb]; exact Bk.new _ _ _)
        have HOB := Lib.hid (hon.kept hbb)
        have HMB := Lib.hid (hmo.kept hbb)
        have HBB := Lib.hid hbb
        have HWB := Lib.hid hwb
        have HNG := Lib.hid (show ¬ F wr.heap.size from fun hf => by have := hon.lt _ hf; omega)
        have HGW := Lib.hid (show w4.heap.size < wr.heap.size from hmo.bk.lt)
        have HLA := Lib.hid (hsm.next hkl)
        have HLS := Lib.hid (hsm.stay hkl)
        have HAC := Lib.hid (fun wx F2 (hR : RdRows wx R r ops[k].parts) (hI : Rd wx S s (ops[k].areas.map iv)) (hdk : Dk wx F2 g P) => act_at (g := g) (pc := rc) (qc := sc) hkl HW.out hsm hdk hR hI)
        by_cases h4 : ops[k].what = 4
        · have y3 : (ops[k].what == 4) = true := by simp [h4]
          generalize ops[k] = o at *
          clear hon hmo hsm hpw h5 h5r hRd hRi hkl hwb hbb h4 hk hkn hwt hfl htl htr hlr hli hwn HAC
          have HCI := Lib.hid (show ∀ W, Below wb.heap.size wb W → Calls Try.prog 14 #[.slice S s sc] W (fun e w' => ∃ A c, e = .returned (.slice A s c) ∧ (OwnI w' wb.heap.size A s c o.areas ∧ Below wb.heap.size wb w')) from fun W hW =>
            (copyInts_any S s sc o.areas W ((H5.out.below (HOB.out.kept hW).be).nums) (by have := HLN.out; omega)).mono fun e w' ⟨⟨A, c, he, ho⟩, hbl⟩ => by
              refine ⟨A, c, he, ⟨ho.1, ?_⟩, below_next hW hbl hW.size⟩
              rcases ho.2 with hn | ⟨g, cap, cur, e, hg, r⟩
              · exact .inl hn
              · exact .inr ⟨g, cap, cur, e, Nat.le_trans hW.size hg, r⟩)
          have HCR := Lib.hid (show ∀ W A c, Below wb.heap.size wb W → OwnI W wb.heap.size A s c o.areas → Calls Try.prog 13 #[.pointer (some ⟨g, 0, none⟩), .slice A s c, .int .i64 o.n] W (fun e w' => ∃ g2 F2, e = .returned (.pointer (some ⟨g2, 0, none⟩)) ∧ (Dk w' F2 g2 (P.crash o.areas o.n) ∧ (∀ i, F2 i → wb.heap.size ≤ i) ∧ Below wb.heap.size wb w')) from fun W A c hW ho =>
            (disk_crash g P F A s c o.areas o.n W (HOB.out.kept hW).dk ho.rd (by have := HLN.out; simp only [maxLen]; omega) HWF.out HWN.out (by have := HLN.out; omega) (by have := HLN.out; omega)).mono fun e w' ⟨g2, F2, he, hd, hF2, hbl⟩ => ⟨g2, F2, he, hd, fun i hi => Nat.le_trans hW.size (hF2 i hi), below_next hW hbl hW.size⟩)
          obtain ⟨t0, t1, t2, t3, t4⟩ := KB.out.five
          go_wp2_with fail
          rw [← HWB.out]
          have hw := Below.refl wb.heap.size wb
          go_region_held3 (fun w' => w'.cell? ⟨wr.heap.size, 2, none⟩ = some (.int .i64 o.n) ∧ w'.cell? ⟨wr.heap.size, 4, none⟩ = some (.slice S s sc)) (first | go_keep | exact ⟨t2, t4⟩ | exact ⟨KC.out.five.2.2.1, KC.out.five.2.2.2.2⟩ | exact ⟨KA.out.five.2.2.1, KA.out.five.2.2.2.2⟩)
            (first
              | (go_at_call 14; with_reducible refine (HCI.out _ ?_).mono ?_
                 focus first | with_reducible exact hw | with_reducible exact below_drew hw
                 rintro e w5 ⟨A5, c5, rfl, hx⟩
                 have HX := Lib.hid hx
                 have KA := Lib.hid (KB.out.kept hx.2)
                 replace hw := hx.2
                 clear hx)
              | (go_at_call 13; with_reducible refine (HCR.out _ _ _ ?_ ?_).mono ?_
                 focus first | with_reducible exact hw | with_reducible exact below_drew hw
                 focus first | with_reducible exact HX.out.1 | exact HX.out.1
                 rintro e w6 ⟨g2, F2, rfl, hx⟩
                 have HY := Lib.hid hx
                 have KC := Lib.hid (KB.out.kept hx.2.2)
                 replace hw := hx.2.2
                 clear hx))
          all_goals
            obtain ⟨hd2, hF2, hbl⟩ := HY.out
            have HOD := Lib.hid hd2
            have HF2 := Lib.hid hF2
            have hm6 := HMB.out.kept hbl
            have HM6 := Lib.hid (show Mo w6 F2 w4.heap.size P A0 n0 c0 A1 n1' c1 from ⟨hm6.bk, hm6.s0, hm6.s1, fun hf => by have := hF2 _ hf; have := HMB.out.bk.lt; omega, fun a e => ⟨fun hf => by have := hF2 _ hf; have := (HMB.out.o0 a e).2.2; omega, (hm6.o0 a e).2⟩, fun a e => ⟨fun hf => by have := hF2 _ hf; have := (HMB.out.o1 a e).2.2; omega, (hm6.o1 a e).2⟩⟩)
            have HB6 := Lib.hid (HOB.out.kept hbl).be
            have HSZ6 := Lib.hid (HOB.out.kept hbl).sz
            have HBL := Lib.hid hbl
            have HRC := Lib.hid (refCrash_any P o.n A0 A1 n0 c0 n1' c1 S s sc o.areas w6 HOB.out.dk.fine hm6.s0 hm6.s1 (H5.out.below HB6.out).nums (by have := HLN.out; simp only [maxLen]; omega) HWF.out (by have := HLN.out; omega) (by have := HLN.out; omega))
            obtain ⟨q0, q1, q2, q3, q4⟩ := hm6.bk.five
            obtain ⟨f0, f1, f2, f3, f4⟩ := KC.out.five
            obtain ⟨Q, hQ⟩ : ∃ Q, Q = P.crash o.areas o.n := ⟨_, rfl⟩
            rw [← hQ] at HRC HOD
            have HQQ := Lib.hid hQ
            clear hd2 hF2 hbl hm6 hQ t0 t1 t2 t3 t4
            go_wp2_with fail
            refine HRC.out.mono ?_
            rintro e w7 ⟨B0, m0, e0, B1, m1, e1, rfl, ho0, ho1, hb7⟩
            have kg := HM6.out.bk.kept hb7
            have v0 := kg.frozen 0
            have v1 := kg.frozen 1
            have v2 := kg.frozen 2
            have v3 := kg.frozen 3
            have v4 := kg.frozen 4
            clear q0 q1 q2 q3 q4 f0 f1 f2 f3 f4
            obtain ⟨q0, q1, q2, q3, q4⟩ := kg.five
            have HMZ := Lib.hid (HM6.out.put (Q := Q) HOD.out.lt hb7 (Sl.own ho0) (Sl.own ho1) (.inr (fun a e => own_le ho0 a e)) (.inr (fun a e => own_le ho1 a e)))
            have HOZ := Lib.hid ((show On w.heap.size w w7 F2 g2 Q from ⟨HOD.out.kept hb7, fun i hi => by have := HF2.out i hi; have := HOB.out.sz; omega, below_next HB6.out hb7 HSZ6.out, Nat.le_trans HSZ6.out hb7.size⟩).other (five_chg (F := fun i => i = w4.heap.size) (X := w7) (g := w4.heap.size) rfl (.int .i64 Q.power) (.slice B0 m0 e0) (.slice B1 m1 e1) (.int .i64 Q.s0) (.int .i64 Q.s1)) (fun i e => by rw [e]; exact HGM.out) (fun i hf e => by rw [e] at hf; exact HM6.out.off hf))
            have HSQ := Lib.hid (show Small Q ops (k + 1) by
              have h := P.len_crash o.areas o.n
              rw [← HQQ.out] at h
              obtain ⟨s0, s1⟩ := HLS.out
              exact ⟨by omega, by omega⟩)
            have HPQ := Lib.hid (show -9223372036854775808 ≤ Q.power ∧ Q.power ≤ 9223372036854775807 by rw [HQQ.out]; exact HWN.out)
            have HQL := Lib.hid (show Q.d0.length ≤ 5000 ∧ Q.d1.length ≤ 5000 by
              have h := P.len_crash o.areas o.n
              rw [← HQQ.out] at h
              have := HLN.out
              omega)
            obtain ⟨w8, hw8⟩ : ∃ w8, w8 = (((((w7.setCell ⟨w4.heap.size, 0, none⟩ (.int .i64 Q.power)).setCell ⟨w4.heap.size, 1, none⟩ (.slice B0 m0 e0)).setCell ⟨w4.heap.size, 2, none⟩ (.slice B1 m1 e1)).setCell ⟨w4.heap.size, 3, none⟩ (.int .i64 Q.s0)).setCell ⟨w4.heap.size, 4, none⟩ (.int .i64 Q.s1)) := ⟨_, rfl⟩
            rw [← hw8] at HMZ HOZ
            have HSA := Lib.hid (same_any g2 Q F2 B0 B1 m0 e0 m1 e1 w8 HOZ.out.dk HMZ.out.s0 HMZ.out.s1 (by have := HQL.out; omega) (by have := HQL.out; omega))
            have HW8 := Lib.hid hw8
            clear ho0 ho1 hb7 kg hw8 HRC
            go_wp2_with fail
            rw [← HW8.out]
            refine HSA.out.mono ?_
            rintro e w9 ⟨rfl, hb9⟩
            have HAT := Lib.hid (show StAt w w4.heap.size ops (k + 1) (.pointer (some ⟨g2, 0, none⟩)) w9 from ⟨g2, F2, Q, B0, m0, e0, B1, m1, e1, rfl, HOZ.out.kept hb9, HMZ.out.kept hb9, HSQ.out, HPQ.out⟩)
            clear hb9
            go_wp2_with fail
            go_roundw
            case rel => exact ⟨k + 1, by have := HKN.out; omega, by go_num, HAT.out⟩
            case measure => have := HKN.out; simp [intOf]; omega
        · have y3 : (ops[k].what == 4) = false := by simp [h4]
          have HDO := Lib.hid (does_any P A0 A1 n0 c0 n1' c1 ops[k] R S r rc s sc wb HMB.out.s0 HMB.out.s1 (hRd.below hbb) (hRi.below hbb) hpw (fun a e => (HMB.out.o0 a e).2.2) (fun a e => (HMB.out.o1 a e).2.2) (by have := HLN.out; omega) (by have := HLN.out; omega) (by have := HLN.out; omega) (by have := HLN.out; omega))
          generalize ops[k] = o at *
          clear hon hmo hsm hpw h5 h5r hRd hRi hkl hwb hbb h4 hk hkn hwt hfl htl htr hlr hli hwn
          obtain ⟨t0, t1, t2, t3, t4⟩ := KB.out.five
          obtain ⟨q0, q1, q2, q3, q4⟩ := (show Bk (wr.alloc (.cells #[.int .i64 o.what, .int .i64 o.area, .int .i64 o.n, .slice R r rc, .slice S s sc] 36)) w4.heap.size 32 [.int .i64 P.power, .slice A0 n0 c0, .slice A1 n1' c1, .int .i64 P.s0, .int .i64 P.s1] by rw [← HWB.out]; exact HMB.out.bk).five
          obtain ⟨rr, hrr⟩ : ∃ rr, rr = P.act o := ⟨_, rfl⟩
          have HRR := Lib.hid hrr
          rw [← hrr] at HDO
          clear hrr
          go_wp2_with fail
          rw [← HWB.out]
          refine HDO.out.mono ?_
          rintro e w5 ⟨B0, m0, e0, B1, m1, e1, rfl, hs0, hs1, hb5, f0, f1⟩
          obtain ⟨Q, hQ⟩ : ∃ Q, Q = rr.1 := ⟨_, rfl⟩
          rw [← hQ] at hs0 hs1 ⊢
          have HQQ := Lib.hid hQ
          have hb5a := below_next hb5 ((Below.refl w5.heap.size w5).alloc (Nat.le_refl _) (.cells #[.int .i64 Q.power, .slice B0 m0 e0, .slice B1 m1 e1, .int .i64 Q.s0, .int .i64 Q.s1] 32)) hb5.size
          have kg := HMB.out.bk.kept hb5a
          have ko := KB.out.kept hb5a
          have hS5 := five_chg (F := fun i => i = w4.heap.size) (X := (w5.alloc (.cells #[.int .i64 Q.power, .slice B0 m0 e0, .slice B1 m1 e1, .int .i64 Q.s0, .int .i64 Q.s1] 32))) (g := w4.heap.size) rfl (.int .i64 Q.power) (.slice B0 m0 e0) (.slice B1 m1 e1) (.int .i64 Q.s0) (.int .i64 Q.s1)
          have ko6 := hS5.bk ko (by have := HGW.out; omega)
          clear q0 q1 q2 q3 q4 t0 t1 t2 t3 t4 hQ
          obtain ⟨q0, q1, q2, q3, q4⟩ := kg.five
          obtain ⟨t0, t1, t2, t3, t4⟩ := ko6.five
          have v0 := kg.frozen 0
          have v1 := kg.frozen 1
          have v2 := kg.frozen 2
          have v3 := kg.frozen 3
          have v4 := kg.frozen 4
          have hon5 := HOB.out.kept hb5a
          have HSZ5 := Lib.hid (show w5.heap.size ≤ (w5.alloc (.cells #[.int .i64 Q.power, .slice B0 m0 e0, .slice B1 m1 e1, .int .i64 Q.s0, .int .i64 Q.s1] 32)).heap.size by simp)
          have hmo6 := HMB.out.put (Q := Q) HOB.out.lt hb5a (hs0.alloc _) (hs1.alloc _) (f0.imp id (fun f a e => ⟨(f a e).1, Nat.lt_of_lt_of_le (f a e).2 HSZ5.out⟩)) (f1.imp id (fun f a e => ⟨(f a e).1, Nat.lt_of_lt_of_le (f a e).2 HSZ5.out⟩))
          have hon6 := hon5.other hS5 (fun i e => by rw [e]; exact HGM.out) (fun i hf e => by rw [e] at hf; exact HMB.out.off hf)
          obtain ⟨w6, hw6⟩ : ∃ w6, w6 = ((((((w5.alloc (.cells #[.int .i64 Q.power, .slice B0 m0 e0, .slice B1 m1 e1, .int .i64 Q.s0, .int .i64 Q.s1] 32)).setCell ⟨w4.heap.size, 0, none⟩ (.int .i64 Q.power)).setCell ⟨w4.heap.size, 1, none⟩ (.slice B0 m0 e0)).setCell ⟨w4.heap.size, 2, none⟩ (.slice B1 m1 e1)).setCell ⟨w4.heap.size, 3, none⟩ (.int .i64 Q.s0)).setCell ⟨w4.heap.size, 4, none⟩ (.int .i64 Q.s1)) := ⟨_, rfl⟩
          rw [← hw6] at hmo6 hon6
          have HMO6 := Lib.hid hmo6
          have HON6 := Lib.hid hon6
          have HW6 := Lib.hid hw6
          have hh5 := H5.out.below hon6.be
          have HAC6 := Lib.hid (HAC.out w6 F hh5.rows hh5.nums hon6.dk)
          obtain ⟨er, her⟩ : ∃ er, er = rr.2 := ⟨_, rfl⟩
          rw [← her]
          have HER := Lib.hid her
          clear hs0 hs1 hb5 f0 f1 hb5a kg ko hS5 ko6 hon5 hmo6 hon6 hw6 hh5 her HAC
          go_wp2_with fail
          rw [← HW6.out]
          refine HAC6.out.mono ?_
          rintro e w7 hd
          obtain ⟨rfl, F7, hon7, hF7, hc7⟩ := HON6.out.did hd
          rw [← HRR.out] at hon7 ⊢
          rw [← HQQ.out] at hon7
          rw [← HER.out]
          have hbne : (er != er) = false := by simp
          have HMZ := Lib.hid (HMO6.out.chg hc7 hF7)
          have HOZ := Lib.hid hon7
          have HSQ := Lib.hid (show Small Q ops (k + 1) by
            have h := HLA.out
            rw [← HRR.out, ← HQQ.out] at h
            exact h)
          have HPQ := Lib.hid (show -9223372036854775808 ≤ Q.power ∧ Q.power ≤ 9223372036854775807 from by
            obtain ⟨_, _, _, _, _, _, hh⟩ := hon7.dk
            exact hh.pw)
          have HQL := Lib.hid (show Q.d0.length ≤ 5000 ∧ Q.d1.length ≤ 5000 by
            obtain ⟨s0, s1⟩ := HSQ.out
            have := weight_take_le ops (k + 1)
            have := HW.out
            omega)
          have HSA := Lib.hid (same_any g Q F7 B0 B1 m0 e0 m1 e1 w7 HOZ.out.dk HMZ.out.s0 HMZ.out.s1 (by have := HQL.out; omega) (by have := HQL.out; omega))
          clear hd hon7 hF7 hc7 q0 q1 q2 q3 q4 t0 t1 t2 t3 t4 v0 v1 v2 v3 v4 HAC6
          obtain ⟨z0, z1, z2, z3, z4⟩ := HMZ.out.bk.five
          go_wp2_with fail
          refine HSA.out.mono ?_
          rintro e w9 ⟨rfl, hb9⟩
          have HAT := Lib.hid (show StAt w w4.heap.size ops (k + 1) (.pointer (some ⟨g, 0, none⟩)) w9 from ⟨g, F7, Q, B0, m0, e0, B1, m1, e1, rfl, HOZ.out.kept hb9, HMZ.out.kept hb9, HSQ.out, HPQ.out⟩)
          clear hb9 z0 z1 z2 z3 z4
          go_wp2_with fail
          go_roundw
          case rel => exact ⟨k + 1, by have := HKN.out; omega, by go_num, HAT.out⟩
          case measure => have := HKN.out; simp [intOf]; omega
      · have y4 : ¬ (k : Int) < (n1 : Int) := by omega
        have HBE := Lib.hid hon.be
        clear hon hmo hsm hkn hk
        go_wp2_with fail
        go_ret
        exact ⟨rfl, HBE.out⟩
  · clear hgr HGR
    go_wp2_with fail
    go_ret
    exact ⟨rfl, HBE.out⟩
end Go.Proofs.Ytcibjdodkcfpeaa
