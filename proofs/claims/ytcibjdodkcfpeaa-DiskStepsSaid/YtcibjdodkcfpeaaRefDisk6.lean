/-
  The document's own disk: Crash. Walks; no statement.
-/
import Derived.Test.YtcibjdodkcfpeaaRefDisk5
import Derived.Test.YtcibjdodkcfpeaaDiskCrash
import Derived.Deep.RegionHeld3
import Derived.Deep.QuietTactic
import Derived.BigQuiet
namespace Go.Proofs.Ytcibjdodkcfpeaa
open Go.RowKit
set_option linter.unusedVariables false

theorem results_cell1 {fn : Func} {p : Tmp} {ty : TypeId} (h : fn.results = #[.cell p ty]) (tmps : Array Value) (P : Program) (w : World) :
    (results fn tmps).run P w = ((asAddr (tmps.getD p undef)).run P w).andThen fun a w1 => (loadVar ty a).run P w1 := by
  simp only [results, h]
  simp [Sem.run_bind, Result.andThen]
theorem results_row1 {P : Program} {fn : Func} {p : Tmp} {ty : TypeId} (h : fn.results = #[.cell p ty]) (tmps : Array Value) (w : World) (g : Nat) (t : TypeId) (cs : List Value) (d : TypeDesc)
    (hp : tmps.getD p undef = .pointer (some ⟨g, 0, none⟩)) (hg : Bk w g t cs)
    (hu : P.underlying ty = some d) (hd : (match d with | .struct _ | .array _ _ => true | _ => false) = true) (hi : (P.info? ty).map (·.size) = some cs.toArray.size) :
    (results fn tmps).run P w = .ok (.agg cs.toArray) w := by
  rw [results_cell1 h, hp]
  simp only [asAddr, Sem.run_pure, Result.andThen_ok, run_loadVar_row w g t ty cs.toArray (0, 0) d hg hu hd hi]
/-- a disk as a call hands it back, its bytes new -/
def DiskN (P : PD) (w : World) (e : Ending) (w' : World) : Prop :=
  ∃ B0 n0 c0 B1 n1 c1, e = .returned (.agg #[.int .i64 P.power, .slice B0 n0 c0, .slice B1 n1 c1, .int .i64 P.s0, .int .i64 P.s1]) ∧ OwnB w' w.heap.size B0 n0 c0 P.d0 ∧ OwnB w' w.heap.size B1 n1 c1 P.d1 ∧ Below w.heap.size w w'
/-- how the loop over the areas stands -/
def RCr (w : World) (dk zs : List Value) (pw : Int) (l0 l1 : List UInt8) (wr : World) : Prop :=
  ∃ B0 m0 e0 B1 m1 e1, Bk wr w.heap.size 32 dk ∧ Bk wr (w.heap.size + 1) 32 zs ∧ Bk wr (w.heap.size + 1 + 1) 32 [.int .i64 pw, .slice B0 m0 e0, .slice B1 m1 e1, .int .i64 l0.length, .int .i64 l1.length] ∧
    OwnB wr w.heap.size B0 m0 e0 l0 ∧ OwnB wr w.heap.size B1 m1 e1 l1 ∧ Below w.heap.size w wr
theorem RCr.drew {w wr : World} {dk zs : List Value} {pw : Int} {l0 l1 : List UInt8} (h : RCr w dk zs pw l0 l1 wr) : RCr w dk zs pw l0 l1 wr.drew := by
  obtain ⟨B0, m0, e0, B1, m1, e1, k0, k1, k2, h0, h1, hb⟩ := h
  exact ⟨B0, m0, e0, B1, m1, e1, k0, k1, k2, h0, h1, below_drew hb⟩
theorem rc_0 {w wr w4 : World} {dk zs : List Value} {base m c m0 e0 m1 e1 : Nat} {A B0 B1 : Option Addr} {sx pw : Int} {lo r : List UInt8} (k0 : Bk wr w.heap.size 32 dk) (k1 : Bk wr (w.heap.size + 1) 32 zs)
    (kb : Bk wr (w.heap.size + 1 + 1) 32 [.int .i64 pw, .slice B0 m0 e0, .slice B1 m1 e1, .int .i64 sx, .int .i64 lo.length])
    (hoo : OwnB wr w.heap.size B1 m1 e1 lo) (hbl : Below w.heap.size w wr) (h4 : Below wr.heap.size wr w4) (ho : OwnB w4 base A m c r) (hbase : wr.heap.size ≤ base) :
    RCr w dk zs pw r lo ((w4.setCell ⟨w.heap.size + 1 + 1, 1, none⟩ (.slice A m c)).setCell ⟨w.heap.size + 1 + 1, 3, none⟩ (.int .i64 (m : Int))) := by
  have k4 := kb.kept h4
  have hgr := grown_set (grown_set (grown_refl w4 (some (w.heap.size + 1 + 1))) 1 (.slice A m c)) 3 (.int .i64 (m : Int))
  have hlen := ho.len
  have hn := (ho.more (Nat.le_trans hbl.size hbase)).off k4 (by decide) hgr
  have hold := (hoo.below h4).off k4 (by decide) hgr
  have kk := (k4.set 1 (.slice A m c)).set 3 (.int .i64 (m : Int))
  refine ⟨A, m, c, B1, m1, e1, (k0.kept h4).grown hgr (by simp <;> omega), (k1.kept h4).grown hgr (by simp <;> omega), by rw [hlen]; exact kk, hn, hold, below_set (below_set (below_next hbl h4 hbl.size) (Nat.le_add_right _ 2) 1 _) (Nat.le_add_right _ 2) 3 _⟩
theorem rc_1 {w wr w4 : World} {dk zs : List Value} {base m c m0 e0 m1 e1 : Nat} {A B0 B1 : Option Addr} {sx pw : Int} {lo r : List UInt8} (k0 : Bk wr w.heap.size 32 dk) (k1 : Bk wr (w.heap.size + 1) 32 zs)
    (kb : Bk wr (w.heap.size + 1 + 1) 32 [.int .i64 pw, .slice B0 m0 e0, .slice B1 m1 e1, .int .i64 lo.length, .int .i64 sx])
    (hoo : OwnB wr w.heap.size B0 m0 e0 lo) (hbl : Below w.heap.size w wr) (h4 : Below wr.heap.size wr w4) (ho : OwnB w4 base A m c r) (hbase : wr.heap.size ≤ base) :
    RCr w dk zs pw lo r ((w4.setCell ⟨w.heap.size + 1 + 1, 2, none⟩ (.slice A m c)).setCell ⟨w.heap.size + 1 + 1, 4, none⟩ (.int .i64 (m : Int))) := by
  have k4 := kb.kept h4
  have hgr := grown_set (grown_set (grown_refl w4 (some (w.heap.size + 1 + 1))) 2 (.slice A m c)) 4 (.int .i64 (m : Int))
  have hlen := ho.len
  have hn := (ho.more (Nat.le_trans hbl.size hbase)).off k4 (by decide) hgr
  have hold := (hoo.below h4).off k4 (by decide) hgr
  have kk := (k4.set 2 (.slice A m c)).set 4 (.int .i64 (m : Int))
  refine ⟨B0, m0, e0, A, m, c, (k0.kept h4).grown hgr (by simp <;> omega), (k1.kept h4).grown hgr (by simp <;> omega), by rw [hlen]; exact kk, hold, hn, below_set (below_set (below_next hbl h4 hbl.size) (Nat.le_add_right _ 2) 2 _) (Nat.le_add_right _ 2) 4 _⟩
set_option maxHeartbeats 3200000 in
theorem refCrash (p pw : Int) (a0 a1 : Nat) (A0 A1 : Option Addr) (n0 c0 n1 c1 : Nat) (l0 l1 : List UInt8) (C : Option Addr) (q qc : Nat) (ks : List Int) (w : World) (h0 : Sl w A0 n0 c0 l0) (h1 : Sl w A1 n1 c1 l1) (hC : Rd w C q (ks.map iv)) (hq : q ≤ maxLen) (hks : ∀ x ∈ ks, -9223372036854775808 ≤ x ∧ x ≤ 9223372036854775807) (ha0 : a0 ≤ n0) (ha1 : a1 ≤ n1) (b0 : n0 ≤ 1099511627776) (b1 : n1 ≤ 1099511627776) :
    Calls Try.prog 15 #[.agg #[.int .i64 p, .slice A0 n0 c0, .slice A1 n1 c1, .int .i64 (a0 : Int), .int .i64 (a1 : Int)], .slice C q qc, .int .i64 pw] w (DiskN (PD.crash ⟨p, l0, l1, a0, a1⟩ ks pw) w) := by
  unfold maxLen at hq
  have hkl : ks.length = q := by simpa using hC.1
  obtain ⟨x0, hx0⟩ : ∃ x, x = ks.getD 0 0 := ⟨_, rfl⟩
  obtain ⟨x1, hx1⟩ : ∃ x, x = ks.getD 1 0 := ⟨_, rfl⟩
  have hw0 : -9223372036854775808 ≤ x0 ∧ x0 ≤ 9223372036854775807 := by
    rw [hx0]
    by_cases hk : 0 < ks.length
    · exact hks _ (getD_mem hk)
    · rw [List.getD, List.getElem?_eq_none (by omega)]; simp
  have hw1 : -9223372036854775808 ≤ x1 ∧ x1 ≤ 9223372036854775807 := by
    rw [hx1]
    by_cases hk : 1 < ks.length
    · exact hks _ (getD_mem hk)
    · rw [List.getD, List.getElem?_eq_none (by omega)]; simp
  have el0 := h0.len
  have el1 := h1.len
  obtain ⟨r0, hr0⟩ : ∃ r, r = l0.take (PD.left l0 a0 x0) := ⟨_, rfl⟩
  obtain ⟨r1, hr1⟩ : ∃ r, r = l1.take (PD.left l1 a1 x1) := ⟨_, rfl⟩
  have HRL0 := Lib.hid (show r0.length = PD.left l0 a0 x0 by rw [hr0, List.length_take]; have := left_le l0 a0 x0 (by omega) (by omega); omega)
  have HLV0 := Lib.hid (left_eq l0 a0 x0 (by omega) (by omega))
  have HMN0 := Lib.hid (left_le l0 a0 x0 (by omega) (by omega))
  have HRV0 := Lib.hid hr0
  have HCAP0 := Lib.hid h0.1
  have HS0 := Lib.hid h0
  have HX0 := Lib.hid hx0
  have HRL1 := Lib.hid (show r1.length = PD.left l1 a1 x1 by rw [hr1, List.length_take]; have := left_le l1 a1 x1 (by omega) (by omega); omega)
  have HLV1 := Lib.hid (left_eq l1 a1 x1 (by omega) (by omega))
  have HMN1 := Lib.hid (left_le l1 a1 x1 (by omega) (by omega))
  have HRV1 := Lib.hid hr1
  have HCAP1 := Lib.hid h1.1
  have HS1 := Lib.hid h1
  have HX1 := Lib.hid hx1
  have HPC := Lib.hid (show PD.crash ⟨p, l0, l1, a0, a1⟩ ks pw = ⟨pw, r0, r1, r0.length, r1.length⟩ by rw [hr0, hr1, hx0, hx1]; rfl)
  rw [HPC.out]
  have HRD := Lib.hid hC
  have HKL := Lib.hid hkl
  generalize PD.left l0 a0 x0 = m0 at *
  generalize PD.left l1 a1 x1 = m1 at *
  rw [el0] at HLV0 HMN0
  rw [el1] at HLV1 HMN1
  have hb3 := (((Below.refl w.heap.size w).alloc (Nat.le_refl _) (.cells #[.int .i64 p, .slice A0 n0 c0, .slice A1 n1 c1, .int .i64 (a0 : Int), .int .i64 (a1 : Int)] 32)).alloc (by simp) (.cells #[.int .i64 0, .slice none 0 0, .slice none 0 0, .int .i64 0, .int .i64 0] 32)).alloc (by simp; omega) (.cells #[.int .i64 pw, .slice none 0 0, .slice none 0 0, .int .i64 0, .int .i64 0] 32)
  have HAT := Lib.hid (show RCr w [.int .i64 p, .slice A0 n0 c0, .slice A1 n1 c1, .int .i64 (a0 : Int), .int .i64 (a1 : Int)] [.int .i64 0, .slice none 0 0, .slice none 0 0, .int .i64 0, .int .i64 0] pw [] [] (((w.alloc (.cells #[.int .i64 p, .slice A0 n0 c0, .slice A1 n1 c1, .int .i64 (a0 : Int), .int .i64 (a1 : Int)] 32)).alloc (.cells #[.int .i64 0, .slice none 0 0, .slice none 0 0, .int .i64 0, .int .i64 0] 32)).alloc (.cells #[.int .i64 pw, .slice none 0 0, .slice none 0 0, .int .i64 0, .int .i64 0] 32)) from
    ⟨none, 0, 0, none, 0, 0, ((Bk.new w 32 [.int .i64 p, .slice A0 n0 c0, .slice A1 n1 c1, .int .i64 (a0 : Int), .int .i64 (a1 : Int)]).alloc _).alloc _, (bk_new2 w (.cells #[.int .i64 p, .slice A0 n0 c0, .slice A1 n1 c1, .int .i64 (a0 : Int), .int .i64 (a1 : Int)] 32) [.int .i64 0, .slice none 0 0, .slice none 0 0, .int .i64 0, .int .i64 0] 32).alloc _, by
      have := Bk.new ((w.alloc (.cells #[.int .i64 p, .slice A0 n0 c0, .slice A1 n1 c1, .int .i64 (a0 : Int), .int .i64 (a1 : Int)] 32)).alloc (.cells #[.int .i64 0, .slice none 0 0, .slice none 0 0, .int .i64 0, .int .i64 0] 32)) 32 [.int .i64 pw, .slice none 0 0, .slice none 0 0, .int .i64 0, .int .i64 0]
      simpa using this, OwnB.nil_ _ _, OwnB.nil_ _ _, hb3⟩)
  clear h0 h1 hC hks hkl hx0 hx1 hr0 hr1 el0 el1 hb3
  go_enter Try.func15, Try.ntmps15
  go_wp2_with fail
  go_loopw [8] (fun i wr => ∃ k : Nat, k ≤ 2 ∧ i = .int .i64 k ∧ RCr w [.int .i64 p, .slice A0 n0 c0, .slice A1 n1 c1, .int .i64 (a0 : Int), .int .i64 (a1 : Int)] [.int .i64 0, .slice none 0 0, .slice none 0 0, .int .i64 0, .int .i64 0] pw (if 0 < k then r0 else []) (if 1 < k then r1 else []) wr) (fun i _ => 2 - (intOf i).toNat)
  case atStart => exact ⟨0, by omega, rfl, HAT.out⟩
  case round =>
    obtain ⟨k, hk, rfl, hcr⟩ := hrel
    have hkc : k = 0 ∨ k = 1 ∨ k = 2 := by omega
    clear hk HAT
    rcases hkc with rfl | rfl | rfl
    · have hcr : RCr w [.int .i64 p, .slice A0 n0 c0, .slice A1 n1 c1, .int .i64 (a0 : Int), .int .i64 (a1 : Int)] [.int .i64 0, .slice none 0 0, .slice none 0 0, .int .i64 0, .int .i64 0] pw [] [] wr := by simpa using hcr
      obtain ⟨B0, p0, e0, B1, p1, e1, k0, k1, kb, ho0, ho1, hbl⟩ := hcr
      have KB := Lib.hid kb
      have K0 := Lib.hid k0
      have K1 := Lib.hid k1
      have HO0 := Lib.hid ho0
      have HO1 := Lib.hid ho1
      obtain ⟨q0, q1, q2, q3, q4⟩ := k0.five
      have wa : IntKind.i64.wrap ((n0 : Int) - (a0 : Int)) = (n0 : Int) - (a0 : Int) := by simp only [IntKind.wrap, IntKind.bits, IntKind.signed]; simp; omega
      clear ho0 ho1 kb k0 k1
      have hno : x0 ≤ 0 → ∀ (z : True), m0 = a0 := fun hx _ => by have := HLV0.out; omega
      by_cases hn : 0 < q
      · have y : (0 : Int) < (q : Int) := by omega
        obtain ⟨a, rfl, hal, hc⟩ := (HRD.out.below hbl).at_ hn
        have gx : (ks.map iv).getD 0 undef = .int .i64 x0 := by
          rw [HX0.out]
          have : 0 < ks.length := by rw [HKL.out]; exact hn
          simp [iv, List.getD, this]
        rw [gx] at hc
        replace hc : wr.cell? a = some (.int .i64 x0) := by simpa [Addr.add] using hc
        clear gx hn
        by_cases hx : 0 < x0
        · by_cases hx2 : (n0 : Int) - (a0 : Int) < x0
          · have hxd : decide ((n0 : Int) - (a0 : Int) < x0) = true := by simpa using hx2
            clear hno
            go_wp2_with fail
            go_quiet (fail)
            rename Nat => nq1
            go_wp2_with fail
            go_quiet (fail)
            go_wp2_with fail
            obtain ⟨wA, hwA⟩ : ∃ wA, wA = ((wr.drewN nq1).drewN nq) := ⟨_, rfl⟩
            rw [← hwA]
            have wK : IntKind.i64.wrap ((a0 : Int) + ((n0 : Int) - (a0 : Int))) = (m0 : Int) := by
              have := HLV0.out
              have := HMN0.out
              have e : (a0 : Int) + ((n0 : Int) - (a0 : Int)) = (m0 : Int) := by omega
              rw [e]
              simp only [IntKind.wrap, IntKind.bits, IntKind.signed]; simp; omega
            have hw : Below wr.heap.size wr wA := by rw [hwA]; exact below_drewN (below_drewN (Below.refl _ _) nq1) nq
            have KS := Lib.hid (show Bk wA w.heap.size 32 [.int .i64 p, .slice A0 n0 c0, .slice A1 n1 c1, .int .i64 (a0 : Int), .int .i64 (a1 : Int)] by rw [hwA]; exact (K0.out.drewN nq1).drewN nq)
            have sl1 := KS.out.five.2.1
            have sl3 := KS.out.five.2.2.2.1
            have HCL := Lib.hid (show ∀ W, Below wr.heap.size wr W → Calls Try.prog 22 #[.slice A0 m0 c0] W (Fresh1 r0 W) from fun W hW => by
              have ho := ((HS0.out.below hbl).below hW).rd.front (k := m0) HMN0.out
              rw [← List.map_take, ← HRV0.out] at ho
              have := HMN0.out
              exact copyBytes_any A0 m0 c0 r0 W ho (by omega))
            have z2 : (m0 : Int) ≤ (c0 : Int) := by have := HMN0.out; have := HCAP0.out; omega
            have z3 : (0 : Int) ≤ (m0 : Int) := by omega
            clear hwA
            go_region_held3 (fun w' => w'.cell? ⟨w.heap.size, 1, none⟩ = some (.slice A0 n0 c0) ∧ w'.cell? ⟨w.heap.size, 3, none⟩ = some (.int .i64 (a0 : Int))) (first | go_keep | exact ⟨sl1, sl3⟩ | exact ⟨KS4.out.five.2.1, KS4.out.five.2.2.2.1⟩ | exact ⟨(KS4.out.far (p := ⟨w.heap.size + 1 + 1, 1, none⟩) (by simp <;> omega) _).five.2.1, (KS4.out.far (p := ⟨w.heap.size + 1 + 1, 1, none⟩) (by simp <;> omega) _).five.2.2.2.1⟩)
              (first
                | (go_at_call 22; with_reducible refine (HCL.out _ ?_).mono ?_
                   focus first | with_reducible exact hw | with_reducible exact below_drew hw
                   rintro e w4 ⟨A4, m4, c4, rfl, ho4, hb4⟩
                   have hm4 : m4 = m0 := by have := ho4.len; have := HRL0.out; omega
                   rw [hm4]
                   rw [hm4] at ho4
                   clear hm4
                   have H4 := Lib.hid (show ∃ base, OwnB w4 base A4 m0 c4 r0 ∧ wr.heap.size ≤ base ∧ Below wr.heap.size wr w4 from ⟨_, ho4, by first | exact hw.size | exact (below_drew hw).size, by first | exact below_next hw hb4 hw.size | exact below_next (below_drew hw) hb4 (below_drew hw).size⟩)
                   have k4 := KB.out.kept (by first | exact below_next hw hb4 hw.size | exact below_next (below_drew hw) hb4 (below_drew hw).size)
                   have KS4 : Hid (Bk w4 w.heap.size 32 [.int .i64 p, .slice A0 n0 c0, .slice A1 n1 c1, .int .i64 (a0 : Int), .int .i64 (a1 : Int)]) := Lib.hid (by first | exact KS.out.kept hb4 | exact bk_keptD KS.out hb4)
                   obtain ⟨t0, t1, t2, t3, t4⟩ := k4.five
                   have v1 := k4.frozen 1
                   have v2 := k4.frozen 2
                   have v3 := k4.frozen 3
                   have v4 := k4.frozen 4
                   clear ho4 hb4 k4))
            all_goals
              go_wp2_with fail
              obtain ⟨base, ho4, hbase, h4⟩ := H4.out
              have hcn := Lib.hid (rc_0 K0.out K1.out KB.out HO1.out hbl h4 ho4 hbase)
              go_roundw
              case rel => exact ⟨1, by omega, by go_num, by first | (have := hcn.out; simpa using this) | (have := hcn.out.drew; simpa using this)⟩
              case measure => simp [intOf]
          · have hxd : decide ((n0 : Int) - (a0 : Int) < x0) = false := by simpa using hx2
            clear hno
            go_wp2_with fail
            go_quiet (fail)
            go_wp2_with fail
            obtain ⟨wA, hwA⟩ : ∃ wA, wA = (wr.drewN nq) := ⟨_, rfl⟩
            rw [← hwA]
            have wK : IntKind.i64.wrap ((a0 : Int) + x0) = (m0 : Int) := by
              have := HLV0.out
              have := HMN0.out
              have e : (a0 : Int) + x0 = (m0 : Int) := by omega
              rw [e]
              simp only [IntKind.wrap, IntKind.bits, IntKind.signed]; simp; omega
            have hw : Below wr.heap.size wr wA := by rw [hwA]; exact below_drewN (Below.refl _ _) nq
            have KS := Lib.hid (show Bk wA w.heap.size 32 [.int .i64 p, .slice A0 n0 c0, .slice A1 n1 c1, .int .i64 (a0 : Int), .int .i64 (a1 : Int)] by rw [hwA]; exact K0.out.drewN nq)
            have sl1 := KS.out.five.2.1
            have sl3 := KS.out.five.2.2.2.1
            have HCL := Lib.hid (show ∀ W, Below wr.heap.size wr W → Calls Try.prog 22 #[.slice A0 m0 c0] W (Fresh1 r0 W) from fun W hW => by
              have ho := ((HS0.out.below hbl).below hW).rd.front (k := m0) HMN0.out
              rw [← List.map_take, ← HRV0.out] at ho
              have := HMN0.out
              exact copyBytes_any A0 m0 c0 r0 W ho (by omega))
            have z2 : (m0 : Int) ≤ (c0 : Int) := by have := HMN0.out; have := HCAP0.out; omega
            have z3 : (0 : Int) ≤ (m0 : Int) := by omega
            clear hwA
            go_region_held3 (fun w' => w'.cell? ⟨w.heap.size, 1, none⟩ = some (.slice A0 n0 c0) ∧ w'.cell? ⟨w.heap.size, 3, none⟩ = some (.int .i64 (a0 : Int))) (first | go_keep | exact ⟨sl1, sl3⟩ | exact ⟨KS4.out.five.2.1, KS4.out.five.2.2.2.1⟩ | exact ⟨(KS4.out.far (p := ⟨w.heap.size + 1 + 1, 1, none⟩) (by simp <;> omega) _).five.2.1, (KS4.out.far (p := ⟨w.heap.size + 1 + 1, 1, none⟩) (by simp <;> omega) _).five.2.2.2.1⟩)
              (first
                | (go_at_call 22; with_reducible refine (HCL.out _ ?_).mono ?_
                   focus first | with_reducible exact hw | with_reducible exact below_drew hw
                   rintro e w4 ⟨A4, m4, c4, rfl, ho4, hb4⟩
                   have hm4 : m4 = m0 := by have := ho4.len; have := HRL0.out; omega
                   rw [hm4]
                   rw [hm4] at ho4
                   clear hm4
                   have H4 := Lib.hid (show ∃ base, OwnB w4 base A4 m0 c4 r0 ∧ wr.heap.size ≤ base ∧ Below wr.heap.size wr w4 from ⟨_, ho4, by first | exact hw.size | exact (below_drew hw).size, by first | exact below_next hw hb4 hw.size | exact below_next (below_drew hw) hb4 (below_drew hw).size⟩)
                   have k4 := KB.out.kept (by first | exact below_next hw hb4 hw.size | exact below_next (below_drew hw) hb4 (below_drew hw).size)
                   have KS4 : Hid (Bk w4 w.heap.size 32 [.int .i64 p, .slice A0 n0 c0, .slice A1 n1 c1, .int .i64 (a0 : Int), .int .i64 (a1 : Int)]) := Lib.hid (by first | exact KS.out.kept hb4 | exact bk_keptD KS.out hb4)
                   obtain ⟨t0, t1, t2, t3, t4⟩ := k4.five
                   have v1 := k4.frozen 1
                   have v2 := k4.frozen 2
                   have v3 := k4.frozen 3
                   have v4 := k4.frozen 4
                   clear ho4 hb4 k4))
            all_goals
              go_wp2_with fail
              obtain ⟨base, ho4, hbase, h4⟩ := H4.out
              have hcn := Lib.hid (rc_0 K0.out K1.out KB.out HO1.out hbl h4 ho4 hbase)
              go_roundw
              case rel => exact ⟨1, by omega, by go_num, by first | (have := hcn.out; simpa using this) | (have := hcn.out.drew; simpa using this)⟩
              case measure => simp [intOf]
        · have e0 := Lib.hid (hno (by omega) trivial)
          have hxd : decide ((n0 : Int) - (a0 : Int) < 0) = false := by simp; omega
          clear hno
          go_wp2_with fail
          go_quiet (fail)
          go_wp2_with fail
          obtain ⟨wA, hwA⟩ : ∃ wA, wA = (wr.drewN nq) := ⟨_, rfl⟩
          rw [← hwA]
          have em : (a0 : Int) = (m0 : Int) := by have := e0.out; omega
          have wK : IntKind.i64.wrap ((a0 : Int) + 0) = (m0 : Int) := by
            have := HMN0.out
            rw [Int.add_zero, em]
            simp only [IntKind.wrap, IntKind.bits, IntKind.signed]; simp; omega
          have wK2 : IntKind.i64.wrap (a0 : Int) = (m0 : Int) := by rw [← Int.add_zero (a0 : Int)]; exact wK
          clear em
          have hw : Below wr.heap.size wr wA := by rw [hwA]; exact below_drewN (Below.refl _ _) nq
          have KS := Lib.hid (show Bk wA w.heap.size 32 [.int .i64 p, .slice A0 n0 c0, .slice A1 n1 c1, .int .i64 (a0 : Int), .int .i64 (a1 : Int)] by rw [hwA]; exact K0.out.drewN nq)
          have sl1 := KS.out.five.2.1
          have sl3 := KS.out.five.2.2.2.1
          have HCL := Lib.hid (show ∀ W, Below wr.heap.size wr W → Calls Try.prog 22 #[.slice A0 m0 c0] W (Fresh1 r0 W) from fun W hW => by
            have ho := ((HS0.out.below hbl).below hW).rd.front (k := m0) HMN0.out
            rw [← List.map_take, ← HRV0.out] at ho
            have := HMN0.out
            exact copyBytes_any A0 m0 c0 r0 W ho (by omega))
          have z2 : (m0 : Int) ≤ (c0 : Int) := by have := HMN0.out; have := HCAP0.out; omega
          have z3 : (0 : Int) ≤ (m0 : Int) := by omega
          clear hwA
          go_region_held3 (fun w' => w'.cell? ⟨w.heap.size, 1, none⟩ = some (.slice A0 n0 c0) ∧ w'.cell? ⟨w.heap.size, 3, none⟩ = some (.int .i64 (a0 : Int))) (first | go_keep | exact ⟨sl1, sl3⟩ | exact ⟨KS4.out.five.2.1, KS4.out.five.2.2.2.1⟩ | exact ⟨(KS4.out.far (p := ⟨w.heap.size + 1 + 1, 1, none⟩) (by simp <;> omega) _).five.2.1, (KS4.out.far (p := ⟨w.heap.size + 1 + 1, 1, none⟩) (by simp <;> omega) _).five.2.2.2.1⟩)
            (first
              | (go_at_call 22; with_reducible refine (HCL.out _ ?_).mono ?_
                 focus first | with_reducible exact hw | with_reducible exact below_drew hw
                 rintro e w4 ⟨A4, m4, c4, rfl, ho4, hb4⟩
                 have hm4 : m4 = m0 := by have := ho4.len; have := HRL0.out; omega
                 rw [hm4]
                 rw [hm4] at ho4
                 clear hm4
                 have H4 := Lib.hid (show ∃ base, OwnB w4 base A4 m0 c4 r0 ∧ wr.heap.size ≤ base ∧ Below wr.heap.size wr w4 from ⟨_, ho4, by first | exact hw.size | exact (below_drew hw).size, by first | exact below_next hw hb4 hw.size | exact below_next (below_drew hw) hb4 (below_drew hw).size⟩)
                 have k4 := KB.out.kept (by first | exact below_next hw hb4 hw.size | exact below_next (below_drew hw) hb4 (below_drew hw).size)
                 have KS4 : Hid (Bk w4 w.heap.size 32 [.int .i64 p, .slice A0 n0 c0, .slice A1 n1 c1, .int .i64 (a0 : Int), .int .i64 (a1 : Int)]) := Lib.hid (by first | exact KS.out.kept hb4 | exact bk_keptD KS.out hb4)
                 obtain ⟨t0, t1, t2, t3, t4⟩ := k4.five
                 have v1 := k4.frozen 1
                 have v2 := k4.frozen 2
                 have v3 := k4.frozen 3
                 have v4 := k4.frozen 4
                 clear ho4 hb4 k4))
          all_goals
            go_wp2_with fail
            obtain ⟨base, ho4, hbase, h4⟩ := H4.out
            have hcn := Lib.hid (rc_0 K0.out K1.out KB.out HO1.out hbl h4 ho4 hbase)
            go_roundw
            case rel => exact ⟨1, by omega, by go_num, by first | (have := hcn.out; simpa using this) | (have := hcn.out.drew; simpa using this)⟩
            case measure => simp [intOf]
      · have y : ¬ (0 : Int) < (q : Int) := by omega
        have hx0 : x0 = 0 := by
          rw [HX0.out, List.getD, List.getElem?_eq_none (by rw [HKL.out]; omega)]; rfl
        have e0 := Lib.hid (hno (by omega) trivial)
        have hxd : decide ((n0 : Int) - (a0 : Int) < 0) = false := by simp; omega
        clear hno hn hx0
        go_wp2_with fail
        go_quiet (fail)
        go_wp2_with fail
        obtain ⟨wA, hwA⟩ : ∃ wA, wA = (wr.drewN nq) := ⟨_, rfl⟩
        rw [← hwA]
        have em : (a0 : Int) = (m0 : Int) := by have := e0.out; omega
        have wK : IntKind.i64.wrap ((a0 : Int) + 0) = (m0 : Int) := by
          have := HMN0.out
          rw [Int.add_zero, em]
          simp only [IntKind.wrap, IntKind.bits, IntKind.signed]; simp; omega
        have wK2 : IntKind.i64.wrap (a0 : Int) = (m0 : Int) := by rw [← Int.add_zero (a0 : Int)]; exact wK
        clear em
        have hw : Below wr.heap.size wr wA := by rw [hwA]; exact below_drewN (Below.refl _ _) nq
        have KS := Lib.hid (show Bk wA w.heap.size 32 [.int .i64 p, .slice A0 n0 c0, .slice A1 n1 c1, .int .i64 (a0 : Int), .int .i64 (a1 : Int)] by rw [hwA]; exact K0.out.drewN nq)
        have sl1 := KS.out.five.2.1
        have sl3 := KS.out.five.2.2.2.1
        have HCL := Lib.hid (show ∀ W, Below wr.heap.size wr W → Calls Try.prog 22 #[.slice A0 m0 c0] W (Fresh1 r0 W) from fun W hW => by
          have ho := ((HS0.out.below hbl).below hW).rd.front (k := m0) HMN0.out
          rw [← List.map_take, ← HRV0.out] at ho
          have := HMN0.out
          exact copyBytes_any A0 m0 c0 r0 W ho (by omega))
        have z2 : (m0 : Int) ≤ (c0 : Int) := by have := HMN0.out; have := HCAP0.out; omega
        have z3 : (0 : Int) ≤ (m0 : Int) := by omega
        clear hwA
        go_region_held3 (fun w' => w'.cell? ⟨w.heap.size, 1, none⟩ = some (.slice A0 n0 c0) ∧ w'.cell? ⟨w.heap.size, 3, none⟩ = some (.int .i64 (a0 : Int))) (first | go_keep | exact ⟨sl1, sl3⟩ | exact ⟨KS4.out.five.2.1, KS4.out.five.2.2.2.1⟩ | exact ⟨(KS4.out.far (p := ⟨w.heap.size + 1 + 1, 1, none⟩) (by simp <;> omega) _).five.2.1, (KS4.out.far (p := ⟨w.heap.size + 1 + 1, 1, none⟩) (by simp <;> omega) _).five.2.2.2.1⟩)
          (first
            | (go_at_call 22; with_reducible refine (HCL.out _ ?_).mono ?_
               focus first | with_reducible exact hw | with_reducible exact below_drew hw
               rintro e w4 ⟨A4, m4, c4, rfl, ho4, hb4⟩
               have hm4 : m4 = m0 := by have := ho4.len; have := HRL0.out; omega
               rw [hm4]
               rw [hm4] at ho4
               clear hm4
               have H4 := Lib.hid (show ∃ base, OwnB w4 base A4 m0 c4 r0 ∧ wr.heap.size ≤ base ∧ Below wr.heap.size wr w4 from ⟨_, ho4, by first | exact hw.size | exact (below_drew hw).size, by first | exact below_next hw hb4 hw.size | exact below_next (below_drew hw) hb4 (below_drew hw).size⟩)
               have k4 := KB.out.kept (by first | exact below_next hw hb4 hw.size | exact below_next (below_drew hw) hb4 (below_drew hw).size)
               have KS4 : Hid (Bk w4 w.heap.size 32 [.int .i64 p, .slice A0 n0 c0, .slice A1 n1 c1, .int .i64 (a0 : Int), .int .i64 (a1 : Int)]) := Lib.hid (by first | exact KS.out.kept hb4 | exact bk_keptD KS.out hb4)
               obtain ⟨t0, t1, t2, t3, t4⟩ := k4.five
               have v1 := k4.frozen 1
               have v2 := k4.frozen 2
               have v3 := k4.frozen 3
               have v4 := k4.frozen 4
               clear ho4 hb4 k4))
        all_goals
          go_wp2_with fail
          obtain ⟨base, ho4, hbase, h4⟩ := H4.out
          have hcn := Lib.hid (rc_0 K0.out K1.out KB.out HO1.out hbl h4 ho4 hbase)
          go_roundw
          case rel => exact ⟨1, by omega, by go_num, by first | (have := hcn.out; simpa using this) | (have := hcn.out.drew; simpa using this)⟩
          case measure => simp [intOf]
    · have hcr : RCr w [.int .i64 p, .slice A0 n0 c0, .slice A1 n1 c1, .int .i64 (a0 : Int), .int .i64 (a1 : Int)] [.int .i64 0, .slice none 0 0, .slice none 0 0, .int .i64 0, .int .i64 0] pw r0 [] wr := by simpa using hcr
      obtain ⟨B0, p0, e0, B1, p1, e1, k0, k1, kb, ho0, ho1, hbl⟩ := hcr
      have KB := Lib.hid kb
      have K0 := Lib.hid k0
      have K1 := Lib.hid k1
      have HO0 := Lib.hid ho0
      have HO1 := Lib.hid ho1
      obtain ⟨q0, q1, q2, q3, q4⟩ := k0.five
      have wa : IntKind.i64.wrap ((n1 : Int) - (a1 : Int)) = (n1 : Int) - (a1 : Int) := by simp only [IntKind.wrap, IntKind.bits, IntKind.signed]; simp; omega
      clear ho0 ho1 kb k0 k1
      have hno : x1 ≤ 0 → ∀ (z : True), m1 = a1 := fun hx _ => by have := HLV1.out; omega
      by_cases hn : 1 < q
      · have y : (1 : Int) < (q : Int) := by omega
        obtain ⟨a, rfl, hal, hc⟩ := (HRD.out.below hbl).at_ hn
        have gx : (ks.map iv).getD 1 undef = .int .i64 x1 := by
          rw [HX1.out]
          have : 1 < ks.length := by rw [HKL.out]; exact hn
          simp [iv, List.getD, this]
        rw [gx] at hc
        replace hc : wr.cell? ⟨a.block, a.off + 1, none⟩ = some (.int .i64 x1) := by simpa [Addr.add] using hc
        clear gx hn
        by_cases hx : 0 < x1
        · by_cases hx2 : (n1 : Int) - (a1 : Int) < x1
          · have hxd : decide ((n1 : Int) - (a1 : Int) < x1) = true := by simpa using hx2
            clear hno
            go_wp2_with fail
            go_quiet (fail)
            rename Nat => nq1
            go_wp2_with fail
            go_quiet (fail)
            go_wp2_with fail
            obtain ⟨wA, hwA⟩ : ∃ wA, wA = ((wr.drewN nq1).drewN nq) := ⟨_, rfl⟩
            rw [← hwA]
            have wK : IntKind.i64.wrap ((a1 : Int) + ((n1 : Int) - (a1 : Int))) = (m1 : Int) := by
              have := HLV1.out
              have := HMN1.out
              have e : (a1 : Int) + ((n1 : Int) - (a1 : Int)) = (m1 : Int) := by omega
              rw [e]
              simp only [IntKind.wrap, IntKind.bits, IntKind.signed]; simp; omega
            have hw : Below wr.heap.size wr wA := by rw [hwA]; exact below_drewN (below_drewN (Below.refl _ _) nq1) nq
            have KS := Lib.hid (show Bk wA w.heap.size 32 [.int .i64 p, .slice A0 n0 c0, .slice A1 n1 c1, .int .i64 (a0 : Int), .int .i64 (a1 : Int)] by rw [hwA]; exact (K0.out.drewN nq1).drewN nq)
            have sl1 := KS.out.five.2.2.1
            have sl3 := KS.out.five.2.2.2.2
            have HCL := Lib.hid (show ∀ W, Below wr.heap.size wr W → Calls Try.prog 22 #[.slice A1 m1 c1] W (Fresh1 r1 W) from fun W hW => by
              have ho := ((HS1.out.below hbl).below hW).rd.front (k := m1) HMN1.out
              rw [← List.map_take, ← HRV1.out] at ho
              have := HMN1.out
              exact copyBytes_any A1 m1 c1 r1 W ho (by omega))
            have z2 : (m1 : Int) ≤ (c1 : Int) := by have := HMN1.out; have := HCAP1.out; omega
            have z3 : (0 : Int) ≤ (m1 : Int) := by omega
            clear hwA
            go_region_held3 (fun w' => w'.cell? ⟨w.heap.size, 2, none⟩ = some (.slice A1 n1 c1) ∧ w'.cell? ⟨w.heap.size, 4, none⟩ = some (.int .i64 (a1 : Int))) (first | go_keep | exact ⟨sl1, sl3⟩ | exact ⟨KS4.out.five.2.2.1, KS4.out.five.2.2.2.2⟩ | exact ⟨(KS4.out.far (p := ⟨w.heap.size + 1 + 1, 2, none⟩) (by simp <;> omega) _).five.2.2.1, (KS4.out.far (p := ⟨w.heap.size + 1 + 1, 2, none⟩) (by simp <;> omega) _).five.2.2.2.2⟩)
              (first
                | (go_at_call 22; with_reducible refine (HCL.out _ ?_).mono ?_
                   focus first | with_reducible exact hw | with_reducible exact below_drew hw
                   rintro e w4 ⟨A4, m4, c4, rfl, ho4, hb4⟩
                   have hm4 : m4 = m1 := by have := ho4.len; have := HRL1.out; omega
                   rw [hm4]
                   rw [hm4] at ho4
                   clear hm4
                   have H4 := Lib.hid (show ∃ base, OwnB w4 base A4 m1 c4 r1 ∧ wr.heap.size ≤ base ∧ Below wr.heap.size wr w4 from ⟨_, ho4, by first | exact hw.size | exact (below_drew hw).size, by first | exact below_next hw hb4 hw.size | exact below_next (below_drew hw) hb4 (below_drew hw).size⟩)
                   have k4 := KB.out.kept (by first | exact below_next hw hb4 hw.size | exact below_next (below_drew hw) hb4 (below_drew hw).size)
                   have KS4 : Hid (Bk w4 w.heap.size 32 [.int .i64 p, .slice A0 n0 c0, .slice A1 n1 c1, .int .i64 (a0 : Int), .int .i64 (a1 : Int)]) := Lib.hid (by first | exact KS.out.kept hb4 | exact bk_keptD KS.out hb4)
                   obtain ⟨t0, t1, t2, t3, t4⟩ := k4.five
                   have v1 := k4.frozen 1
                   have v2 := k4.frozen 2
                   have v3 := k4.frozen 3
                   have v4 := k4.frozen 4
                   clear ho4 hb4 k4))
            all_goals
              go_wp2_with fail
              obtain ⟨base, ho4, hbase, h4⟩ := H4.out
              have hcn := Lib.hid (rc_1 K0.out K1.out KB.out HO0.out hbl h4 ho4 hbase)
              go_roundw
              case rel => exact ⟨2, by omega, by go_num, by first | (have := hcn.out; simpa using this) | (have := hcn.out.drew; simpa using this)⟩
              case measure => simp [intOf]
          · have hxd : decide ((n1 : Int) - (a1 : Int) < x1) = false := by simpa using hx2
            clear hno
            go_wp2_with fail
            go_quiet (fail)
            go_wp2_with fail
            obtain ⟨wA, hwA⟩ : ∃ wA, wA = (wr.drewN nq) := ⟨_, rfl⟩
            rw [← hwA]
            have wK : IntKind.i64.wrap ((a1 : Int) + x1) = (m1 : Int) := by
              have := HLV1.out
              have := HMN1.out
              have e : (a1 : Int) + x1 = (m1 : Int) := by omega
              rw [e]
              simp only [IntKind.wrap, IntKind.bits, IntKind.signed]; simp; omega
            have hw : Below wr.heap.size wr wA := by rw [hwA]; exact below_drewN (Below.refl _ _) nq
            have KS := Lib.hid (show Bk wA w.heap.size 32 [.int .i64 p, .slice A0 n0 c0, .slice A1 n1 c1, .int .i64 (a0 : Int), .int .i64 (a1 : Int)] by rw [hwA]; exact K0.out.drewN nq)
            have sl1 := KS.out.five.2.2.1
            have sl3 := KS.out.five.2.2.2.2
            have HCL := Lib.hid (show ∀ W, Below wr.heap.size wr W → Calls Try.prog 22 #[.slice A1 m1 c1] W (Fresh1 r1 W) from fun W hW => by
              have ho := ((HS1.out.below hbl).below hW).rd.front (k := m1) HMN1.out
              rw [← List.map_take, ← HRV1.out] at ho
              have := HMN1.out
              exact copyBytes_any A1 m1 c1 r1 W ho (by omega))
            have z2 : (m1 : Int) ≤ (c1 : Int) := by have := HMN1.out; have := HCAP1.out; omega
            have z3 : (0 : Int) ≤ (m1 : Int) := by omega
            clear hwA
            go_region_held3 (fun w' => w'.cell? ⟨w.heap.size, 2, none⟩ = some (.slice A1 n1 c1) ∧ w'.cell? ⟨w.heap.size, 4, none⟩ = some (.int .i64 (a1 : Int))) (first | go_keep | exact ⟨sl1, sl3⟩ | exact ⟨KS4.out.five.2.2.1, KS4.out.five.2.2.2.2⟩ | exact ⟨(KS4.out.far (p := ⟨w.heap.size + 1 + 1, 2, none⟩) (by simp <;> omega) _).five.2.2.1, (KS4.out.far (p := ⟨w.heap.size + 1 + 1, 2, none⟩) (by simp <;> omega) _).five.2.2.2.2⟩)
              (first
                | (go_at_call 22; with_reducible refine (HCL.out _ ?_).mono ?_
                   focus first | with_reducible exact hw | with_reducible exact below_drew hw
                   rintro e w4 ⟨A4, m4, c4, rfl, ho4, hb4⟩
                   have hm4 : m4 = m1 := by have := ho4.len; have := HRL1.out; omega
                   rw [hm4]
                   rw [hm4] at ho4
                   clear hm4
                   have H4 := Lib.hid (show ∃ base, OwnB w4 base A4 m1 c4 r1 ∧ wr.heap.size ≤ base ∧ Below wr.heap.size wr w4 from ⟨_, ho4, by first | exact hw.size | exact (below_drew hw).size, by first | exact below_next hw hb4 hw.size | exact below_next (below_drew hw) hb4 (below_drew hw).size⟩)
                   have k4 := KB.out.kept (by first | exact below_next hw hb4 hw.size | exact below_next (below_drew hw) hb4 (below_drew hw).size)
                   have KS4 : Hid (Bk w4 w.heap.size 32 [.int .i64 p, .slice A0 n0 c0, .slice A1 n1 c1, .int .i64 (a0 : Int), .int .i64 (a1 : Int)]) := Lib.hid (by first | exact KS.out.kept hb4 | exact bk_keptD KS.out hb4)
                   obtain ⟨t0, t1, t2, t3, t4⟩ := k4.five
                   have v1 := k4.frozen 1
                   have v2 := k4.frozen 2
                   have v3 := k4.frozen 3
                   have v4 := k4.frozen 4
                   clear ho4 hb4 k4))
            all_goals
              go_wp2_with fail
              obtain ⟨base, ho4, hbase, h4⟩ := H4.out
              have hcn := Lib.hid (rc_1 K0.out K1.out KB.out HO0.out hbl h4 ho4 hbase)
              go_roundw
              case rel => exact ⟨2, by omega, by go_num, by first | (have := hcn.out; simpa using this) | (have := hcn.out.drew; simpa using this)⟩
              case measure => simp [intOf]
        · have e0 := Lib.hid (hno (by omega) trivial)
          have hxd : decide ((n1 : Int) - (a1 : Int) < 0) = false := by simp; omega
          clear hno
          go_wp2_with fail
          go_quiet (fail)
          go_wp2_with fail
          obtain ⟨wA, hwA⟩ : ∃ wA, wA = (wr.drewN nq) := ⟨_, rfl⟩
          rw [← hwA]
          have em : (a1 : Int) = (m1 : Int) := by have := e0.out; omega
          have wK : IntKind.i64.wrap ((a1 : Int) + 0) = (m1 : Int) := by
            have := HMN1.out
            rw [Int.add_zero, em]
            simp only [IntKind.wrap, IntKind.bits, IntKind.signed]; simp; omega
          have wK2 : IntKind.i64.wrap (a1 : Int) = (m1 : Int) := by rw [← Int.add_zero (a1 : Int)]; exact wK
          clear em
          have hw : Below wr.heap.size wr wA := by rw [hwA]; exact below_drewN (Below.refl _ _) nq
          have KS := Lib.hid (show Bk wA w.heap.size 32 [.int .i64 p, .slice A0 n0 c0, .slice A1 n1 c1, .int .i64 (a0 : Int), .int .i64 (a1 : Int)] by rw [hwA]; exact K0.out.drewN nq)
          have sl1 := KS.out.five.2.2.1
          have sl3 := KS.out.five.2.2.2.2
          have HCL := Lib.hid (show ∀ W, Below wr.heap.size wr W → Calls Try.prog 22 #[.slice A1 m1 c1] W (Fresh1 r1 W) from fun W hW => by
            have ho := ((HS1.out.below hbl).below hW).rd.front (k := m1) HMN1.out
            rw [← List.map_take, ← HRV1.out] at ho
            have := HMN1.out
            exact copyBytes_any A1 m1 c1 r1 W ho (by omega))
          have z2 : (m1 : Int) ≤ (c1 : Int) := by have := HMN1.out; have := HCAP1.out; omega
          have z3 : (0 : Int) ≤ (m1 : Int) := by omega
          clear hwA
          go_region_held3 (fun w' => w'.cell? ⟨w.heap.size, 2, none⟩ = some (.slice A1 n1 c1) ∧ w'.cell? ⟨w.heap.size, 4, none⟩ = some (.int .i64 (a1 : Int))) (first | go_keep | exact ⟨sl1, sl3⟩ | exact ⟨KS4.out.five.2.2.1, KS4.out.five.2.2.2.2⟩ | exact ⟨(KS4.out.far (p := ⟨w.heap.size + 1 + 1, 2, none⟩) (by simp <;> omega) _).five.2.2.1, (KS4.out.far (p := ⟨w.heap.size + 1 + 1, 2, none⟩) (by simp <;> omega) _).five.2.2.2.2⟩)
            (first
              | (go_at_call 22; with_reducible refine (HCL.out _ ?_).mono ?_
                 focus first | with_reducible exact hw | with_reducible exact below_drew hw
                 rintro e w4 ⟨A4, m4, c4, rfl, ho4, hb4⟩
                 have hm4 : m4 = m1 := by have := ho4.len; have := HRL1.out; omega
                 rw [hm4]
                 rw [hm4] at ho4
                 clear hm4
                 have H4 := Lib.hid (show ∃ base, OwnB w4 base A4 m1 c4 r1 ∧ wr.heap.size ≤ base ∧ Below wr.heap.size wr w4 from ⟨_, ho4, by first | exact hw.size | exact (below_drew hw).size, by first | exact below_next hw hb4 hw.size | exact below_next (below_drew hw) hb4 (below_drew hw).size⟩)
                 have k4 := KB.out.kept (by first | exact below_next hw hb4 hw.size | exact below_next (below_drew hw) hb4 (below_drew hw).size)
                 have KS4 : Hid (Bk w4 w.heap.size 32 [.int .i64 p, .slice A0 n0 c0, .slice A1 n1 c1, .int .i64 (a0 : Int), .int .i64 (a1 : Int)]) := Lib.hid (by first | exact KS.out.kept hb4 | exact bk_keptD KS.out hb4)
                 obtain ⟨t0, t1, t2, t3, t4⟩ := k4.five
                 have v1 := k4.frozen 1
                 have v2 := k4.frozen 2
                 have v3 := k4.frozen 3
                 have v4 := k4.frozen 4
                 clear ho4 hb4 k4))
          all_goals
            go_wp2_with fail
            obtain ⟨base, ho4, hbase, h4⟩ := H4.out
            have hcn := Lib.hid (rc_1 K0.out K1.out KB.out HO0.out hbl h4 ho4 hbase)
            go_roundw
            case rel => exact ⟨2, by omega, by go_num, by first | (have := hcn.out; simpa using this) | (have := hcn.out.drew; simpa using this)⟩
            case measure => simp [intOf]
      · have y : ¬ (1 : Int) < (q : Int) := by omega
        have hx0 : x1 = 0 := by
          rw [HX1.out, List.getD, List.getElem?_eq_none (by rw [HKL.out]; omega)]; rfl
        have e0 := Lib.hid (hno (by omega) trivial)
        have hxd : decide ((n1 : Int) - (a1 : Int) < 0) = false := by simp; omega
        clear hno hn hx0
        go_wp2_with fail
        go_quiet (fail)
        go_wp2_with fail
        obtain ⟨wA, hwA⟩ : ∃ wA, wA = (wr.drewN nq) := ⟨_, rfl⟩
        rw [← hwA]
        have em : (a1 : Int) = (m1 : Int) := by have := e0.out; omega
        have wK : IntKind.i64.wrap ((a1 : Int) + 0) = (m1 : Int) := by
          have := HMN1.out
          rw [Int.add_zero, em]
          simp only [IntKind.wrap, IntKind.bits, IntKind.signed]; simp; omega
        have wK2 : IntKind.i64.wrap (a1 : Int) = (m1 : Int) := by rw [← Int.add_zero (a1 : Int)]; exact wK
        clear em
        have hw : Below wr.heap.size wr wA := by rw [hwA]; exact below_drewN (Below.refl _ _) nq
        have KS := Lib.hid (show Bk wA w.heap.size 32 [.int .i64 p, .slice A0 n0 c0, .slice A1 n1 c1, .int .i64 (a0 : Int), .int .i64 (a1 : Int)] by rw [hwA]; exact K0.out.drewN nq)
        have sl1 := KS.out.five.2.2.1
        have sl3 := KS.out.five.2.2.2.2
        have HCL := Lib.hid (show ∀ W, Below wr.heap.size wr W → Calls Try.prog 22 #[.slice A1 m1 c1] W (Fresh1 r1 W) from fun W hW => by
          have ho := ((HS1.out.below hbl).below hW).rd.front (k := m1) HMN1.out
          rw [← List.map_take, ← HRV1.out] at ho
          have := HMN1.out
          exact copyBytes_any A1 m1 c1 r1 W ho (by omega))
        have z2 : (m1 : Int) ≤ (c1 : Int) := by have := HMN1.out; have := HCAP1.out; omega
        have z3 : (0 : Int) ≤ (m1 : Int) := by omega
        clear hwA
        go_region_held3 (fun w' => w'.cell? ⟨w.heap.size, 2, none⟩ = some (.slice A1 n1 c1) ∧ w'.cell? ⟨w.heap.size, 4, none⟩ = some (.int .i64 (a1 : Int))) (first | go_keep | exact ⟨sl1, sl3⟩ | exact ⟨KS4.out.five.2.2.1, KS4.out.five.2.2.2.2⟩ | exact ⟨(KS4.out.far (p := ⟨w.heap.size + 1 + 1, 2, none⟩) (by simp <;> omega) _).five.2.2.1, (KS4.out.far (p := ⟨w.heap.size + 1 + 1, 2, none⟩) (by simp <;> omega) _).five.2.2.2.2⟩)
          (first
            | (go_at_call 22; with_reducible refine (HCL.out _ ?_).mono ?_
               focus first | with_reducible exact hw | with_reducible exact below_drew hw
               rintro e w4 ⟨A4, m4, c4, rfl, ho4, hb4⟩
               have hm4 : m4 = m1 := by have := ho4.len; have := HRL1.out; omega
               rw [hm4]
               rw [hm4] at ho4
               clear hm4
               have H4 := Lib.hid (show ∃ base, OwnB w4 base A4 m1 c4 r1 ∧ wr.heap.size ≤ base ∧ Below wr.heap.size wr w4 from ⟨_, ho4, by first | exact hw.size | exact (below_drew hw).size, by first | exact below_next hw hb4 hw.size | exact below_next (below_drew hw) hb4 (below_drew hw).size⟩)
               have k4 := KB.out.kept (by first | exact below_next hw hb4 hw.size | exact below_next (below_drew hw) hb4 (below_drew hw).size)
               have KS4 : Hid (Bk w4 w.heap.size 32 [.int .i64 p, .slice A0 n0 c0, .slice A1 n1 c1, .int .i64 (a0 : Int), .int .i64 (a1 : Int)]) := Lib.hid (by first | exact KS.out.kept hb4 | exact bk_keptD KS.out hb4)
               obtain ⟨t0, t1, t2, t3, t4⟩ := k4.five
               have v1 := k4.frozen 1
               have v2 := k4.frozen 2
               have v3 := k4.frozen 3
               have v4 := k4.frozen 4
               clear ho4 hb4 k4))
        all_goals
          go_wp2_with fail
          obtain ⟨base, ho4, hbase, h4⟩ := H4.out
          have hcn := Lib.hid (rc_1 K0.out K1.out KB.out HO0.out hbl h4 ho4 hbase)
          go_roundw
          case rel => exact ⟨2, by omega, by go_num, by first | (have := hcn.out; simpa using this) | (have := hcn.out.drew; simpa using this)⟩
          case measure => simp [intOf]
    · have hcr : RCr w [.int .i64 p, .slice A0 n0 c0, .slice A1 n1 c1, .int .i64 (a0 : Int), .int .i64 (a1 : Int)] [.int .i64 0, .slice none 0 0, .slice none 0 0, .int .i64 0, .int .i64 0] pw r0 r1 wr := by simpa using hcr
      obtain ⟨B0, p0, e0, B1, p1, e1, k0, k1, kb, ho0, ho1, hbl⟩ := hcr
      have KB := Lib.hid kb
      have K1 := Lib.hid k1
      have HO0 := Lib.hid ho0
      have HO1 := Lib.hid ho1
      have HBL := Lib.hid hbl
      obtain ⟨t0, t1, t2, t3, t4⟩ := kb.five
      obtain ⟨q0, q1, q2, q3, q4⟩ := k1.five
      have u0 := k1.frozen 0
      have u1 := k1.frozen 1
      have u2 := k1.frozen 2
      have u3 := k1.frozen 3
      have u4 := k1.frozen 4
      clear k0 k1 kb ho0 ho1 hbl
      go_wp2_with fail
      have hbF := five_below (g := w.heap.size + 1) HBL.out (Nat.le_succ _) (.int .i64 pw) (.slice B0 p0 e0) (.slice B1 p1 e1) (.int .i64 (r0.length : Int)) (.int .i64 (r1.length : Int))
      have kF := five_set K1.out (.int .i64 pw) (.slice B0 p0 e0) (.slice B1 p1 e1) (.int .i64 (r0.length : Int)) (.int .i64 (r1.length : Int))
      have hgr := grown_set (grown_set (grown_set (grown_set (grown_set (grown_refl wr (some (w.heap.size + 1))) 0 (.int .i64 pw)) 1 (.slice B0 p0 e0)) 2 (.slice B1 p1 e1)) 3 (.int .i64 (r0.length : Int))) 4 (.int .i64 (r1.length : Int))
      refine bodyPost_ret_by (results_row1 rfl _ _ (w.heap.size + 1) 32 _ _ rfl kF Try.underlying32 rfl info_disk) rfl ?_
      exact ⟨B0, p0, e0, B1, p1, e1, rfl, HO0.out.off K1.out (by decide) hgr, HO1.out.off K1.out (by decide) hgr, hbF⟩
end Go.Proofs.Ytcibjdodkcfpeaa
