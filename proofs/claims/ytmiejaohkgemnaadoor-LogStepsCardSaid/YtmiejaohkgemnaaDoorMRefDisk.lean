import Derived.Test.YtmiejaohkgemnaaDoorRefDisk3
import Derived.Test.YtmiejaohkgemnaaDoorDiskSync
import Derived.RegionTactic
import Derived.ChangeAlike
import Derived.Test.YtmiejaohkgemnaaDoorDiskCrash
import Derived.Deep.RegionHeld3
import Derived.Deep.QuietTactic
import Derived.BigQuiet

/-
  The document's own disk: Sync. Walks; no statement.
-/
namespace Go.Proofs.YtmiejaohkgemnaaDoor
open Go.RowKit
set_option linter.unusedVariables false

def pick (b : Bool) (n s : Int) : Int := if b then n else s
/-- how the loop that marks the areas stands -/
def RMark (wX : World) (g : Nat) (v0 v1 v2 : Value) (n0 n1 s0 s1 : Int) (ar : List Int) (k : Nat) (wr : World) : Prop :=
  Bk wr g 36 [v0, v1, v2, .int .i64 (pick ((ar.take k).contains 0) n0 s0), .int .i64 (pick ((ar.take k).contains 1) n1 s1)] ∧ wX.grownBy wr (some g)
theorem contains_next (ar : List Int) (k : Nat) (h : k < ar.length) (v : Int) : (ar.take (k + 1)).contains v = ((ar.take k).contains v || v == ar[k]) := has_next ar v k h
theorem pick_hit (ar : List Int) (k : Nat) (h : k < ar.length) (v n s : Int) (e : v = ar[k]) : pick ((ar.take (k + 1)).contains v) n s = n := by
  rw [contains_next ar k h v]
  simp [e, pick]
theorem pick_miss (ar : List Int) (k : Nat) (h : k < ar.length) (v n s : Int) (e : v ≠ ar[k]) : pick ((ar.take (k + 1)).contains v) n s = pick ((ar.take k).contains v) n s := by
  rw [contains_next ar k h v]
  simp [e, pick]
set_option maxHeartbeats 3200000 in
theorem refSync_ok (p s0 s1 : Int) (A0 A1 : Option Addr) (n0 c0 n1 c1 : Nat) (l0 l1 : List UInt8) (C : Option Addr) (q qc : Nat) (ar : List Int) (w : World) (h0 : Sl w A0 n0 c0 l0) (h1 : Sl w A1 n1 c1 l1) (hC : Rd w C q (ar.map iv)) (hq : q ≤ maxLen) (hp : -9223372036854775808 ≤ p ∧ p ≤ 9223372036854775807) (hall : ar.all known = true) (hz : p ≠ 0) :
    Calls Tryd.prog 45 #[.agg #[.int .i64 p, .slice A0 n0 c0, .slice A1 n1 c1, .int .i64 s0, .int .i64 s1], .slice C q qc] w (DiskS A0 A1 (PD.sync ⟨p, l0, l1, s0, s1⟩ ar) w) := by
  have hb := ((Below.refl w.heap.size w).alloc (Nat.le_refl _) (.cells #[.int .i64 p, .slice A0 n0 c0, .slice A1 n1 c1, .int .i64 s0, .int .i64 s1] 36)).alloc (by simp) (.cells #[.int .i64 0, .slice none 0 0, .slice none 0 0, .int .i64 0, .int .i64 0] 36)
  have HB2 := Lib.hid hb
  have hlq : ar.length = q := by simpa using hC.1
  have HQL0 := Lib.hid hlq
  have HS0 := Lib.hid h0
  have HS1 := Lib.hid h1
  have HL0 := Lib.hid h0.len
  have HL1 := Lib.hid h1.len
  have HRC := Lib.hid hC
  have HALL := Lib.hid hall
  have HQM := Lib.hid hq
  have hm0 : n0 ≤ maxLen := Nat.le_trans h0.1 h0.2.1
  have hm1 : n1 ≤ maxLen := Nat.le_trans h1.1 h1.2.1
  unfold maxLen at hm0 hm1
  have HKB := Lib.hid ((Bk.new w 36 [.int .i64 p, .slice A0 n0 c0, .slice A1 n1 c1, .int .i64 s0, .int .i64 s1]).alloc (.cells #[.int .i64 0, .slice none 0 0, .slice none 0 0, .int .i64 0, .int .i64 0] 36))
  have HKZ := Lib.hid (bk_new2 w (.cells #[.int .i64 p, .slice A0 n0 c0, .slice A1 n1 c1, .int .i64 s0, .int .i64 s1] 36) [.int .i64 0, .slice none 0 0, .slice none 0 0, .int .i64 0, .int .i64 0] 36)
  obtain ⟨wB, hwB⟩ : ∃ wB, wB = ((w.alloc (.cells #[.int .i64 p, .slice A0 n0 c0, .slice A1 n1 c1, .int .i64 s0, .int .i64 s1] 36)).alloc (.cells #[.int .i64 0, .slice none 0 0, .slice none 0 0, .int .i64 0, .int .i64 0] 36)) := ⟨_, rfl⟩
  have HAR := Lib.hid (fun a => refArea a wB)
  have HD := Lib.hid (fun w => refDraw p s0 s1 A0 A1 n0 c0 n1 c1 w hp)
  have HE := Lib.hid (show (if p = 0 then (40 : Int) else 0) = 0 by simp [hz])
  have HR := Lib.hid (sync_eq ⟨p, l0, l1, s0, s1⟩ ar hall hz)
  rw [HR.out]
  obtain ⟨dp, hdp⟩ : ∃ dp, dp = drawn p := ⟨_, rfl⟩
  obtain ⟨Q0, hQ0⟩ : ∃ Q0 : PD, Q0 = ⟨drawn p, l0, l1, if told ar 0 then l0.length else s0, if told ar 1 then l1.length else s1⟩ := ⟨_, rfl⟩
  rw [← hQ0]
  rw [← hdp] at HD hQ0
  have HQ0 := Lib.hid hQ0
  have HWB := Lib.hid hwB
  clear h0 h1 hb hC hall hz hdp hQ0 hlq hwB HR
  have hqm : q ≤ maxLen := HQM.out
  unfold maxLen at hqm
  go_enter Tryd.func45, Tryd.ntmps45
  go_wp2_with fail
  rw [← HWB.out]
  go_loop [6] (fun i => ∃ k : Nat, k ≤ q ∧ i = .int .i64 k) (fun i => q - (intOf i).toNat)
  case atStart => exact ⟨0, Nat.zero_le _, rfl⟩
  case round =>
    obtain ⟨k, hk, rfl⟩ := hrel
    by_cases hkq : k < q
    · have hrb : Rd wB C q (ar.map iv) := HRC.out.below (by rw [HWB.out]; exact HB2.out)
      obtain ⟨x, rfl, _, hc⟩ := hrb.at_ hkq
      have hkl : k < ar.length := by rw [HQL0.out]; exact hkq
      have gx : (ar.map iv).getD k undef = .int .i64 (ar[k]'hkl) := by simp [iv, hkl]
      rw [gx] at hc
      have hkn : known (ar[k]'hkl) = true := List.all_eq_true.1 HALL.out _ (List.getElem_mem hkl)
      generalize ar[k]'hkl = z at *
      have HAZ := Lib.hid (HAR.out z)
      rw [hkn] at HAZ
      have y1 : (0 : Int) ≤ (k : Int) := by omega
      have y2 : (k : Int) < (q : Int) := by omega
      have HKQ := Lib.hid hkq
      clear gx hkn hkq hk hkl hrb
      go_wp2_with fail
      refine HAZ.out.mono ?_
      rintro e w1 ⟨rfl, rfl⟩
      go_wp2_with fail
      go_round
      case rel => exact ⟨k + 1, by have := HKQ.out; omega, by go_num⟩
      case measure => have := HKQ.out; simp [intOf]; omega
    · have y2 : ¬ (k : Int) < (q : Int) := by omega
      have kb := (show Bk wB w.heap.size 36 [.int .i64 p, .slice A0 n0 c0, .slice A1 n1 c1, .int .i64 s0, .int .i64 s1] by rw [HWB.out]; exact HKB.out)
      have kz := (show Bk wB (w.heap.size + 1) 36 [.int .i64 0, .slice none 0 0, .slice none 0 0, .int .i64 0, .int .i64 0] by rw [HWB.out]; exact HKZ.out)
      have hbB : Below w.heap.size w wB := by rw [HWB.out]; exact HB2.out
      obtain ⟨q0, q1, q2, q3, q4⟩ := kb.five
      have v0 := kb.frozen 0
      have v1 := kb.frozen 1
      have v2 := kb.frozen 2
      have v3 := kb.frozen 3
      have v4 := kb.frozen 4
      have HKB1 := Lib.hid kb
      have HKZ1 := Lib.hid kz
      have HBB := Lib.hid hbB
      have HSB := Lib.hid (show w.heap.size + 2 ≤ wB.heap.size by rw [HWB.out]; simp)
      clear kb kz hbB hkq hk
      go_wp2_with fail
      refine (HD.out _).mono ?_
      rintro e w1 ⟨rfl, hbb⟩
      rw [HE.out]
      have kb := HKB1.out.kept hbb
      have kz := HKZ1.out.kept hbb
      have HBX := Lib.hid (five_below (g := w.heap.size) (below_next HBB.out hbb HBB.out.size) (Nat.le_refl _) (.int .i64 dp) (.slice A0 n0 c0) (.slice A1 n1 c1) (.int .i64 s0) (.int .i64 s1))
      have HKBX := Lib.hid (five_set kb (.int .i64 dp) (.slice A0 n0 c0) (.slice A1 n1 c1) (.int .i64 s0) (.int .i64 s1))
      have HKZX := Lib.hid (kz.five_far (show w.heap.size + 1 ≠ w.heap.size by omega) (.int .i64 dp) (.slice A0 n0 c0) (.slice A1 n1 c1) (.int .i64 s0) (.int .i64 s1))
      clear q0 q1 q2 q3 q4 v0 v1 v2 v3 v4
      obtain ⟨q0, q1, q2, q3, q4⟩ := kb.five
      have v0 := kb.frozen 0
      have v1 := kb.frozen 1
      have v2 := kb.frozen 2
      have v3 := kb.frozen 3
      have v4 := kb.frozen 4
      have HSZ1 := Lib.hid (show w.heap.size + 2 ≤ w1.heap.size from Nat.le_trans HSB.out hbb.size)
      have HSX5 := Lib.hid (show (((((((w1.setCell ⟨w.heap.size, 0, none⟩ (.int .i64 dp)).setCell ⟨w.heap.size, 1, none⟩ (.slice A0 n0 c0)).setCell ⟨w.heap.size, 2, none⟩ (.slice A1 n1 c1)).setCell ⟨w.heap.size, 3, none⟩ (.int .i64 s0)).setCell ⟨w.heap.size, 4, none⟩ (.int .i64 s1)))).heap.size = w1.heap.size by simp)
      by_cases hq0 : q = 0
      · have yq : ((q : Int) == 0) = true := by simp [hq0]
        have har : ar = [] := List.eq_nil_of_length_eq_zero (by rw [HQL0.out]; exact hq0)
        obtain ⟨ay, hay⟩ : ∃ ay, ay = ([0, 1] : List Int) := ⟨_, rfl⟩
        have HEM0 := Lib.hid (show told ar 0 = ay.contains 0 by rw [har, hay]; rfl)
        have HEM1 := Lib.hid (show told ar 1 = ay.contains 1 by rw [har, hay]; rfl)
        have HAY := Lib.hid hay
        clear hbb kb kz hq0 har hay
        go_wp2_with fail
        obtain ⟨wX, hwX⟩ : ∃ wX, wX = ((((((w1.setCell ⟨w.heap.size, 0, none⟩ (.int .i64 dp)).setCell ⟨w.heap.size, 1, none⟩ (.slice A0 n0 c0)).setCell ⟨w.heap.size, 2, none⟩ (.slice A1 n1 c1)).setCell ⟨w.heap.size, 3, none⟩ (.int .i64 s0)).setCell ⟨w.heap.size, 4, none⟩ (.int .i64 s1))).alloc (.cells #[.int .i64 0, .int .i64 1] 3) := ⟨_, rfl⟩
        rw [← hwX]
        have HST := Lib.hid (show RMark wX w.heap.size (.int .i64 dp) (.slice A0 n0 c0) (.slice A1 n1 c1) n0 n1 s0 s1 ay 0 wX from ⟨by rw [hwX]; exact HKBX.out.alloc _, grown_refl _ _⟩)
        have HRX := Lib.hid (show Rd wX (some ⟨w1.heap.size, 0, none⟩) 2 (ay.map iv) by
          rw [hwX, HAY.out]
          have := Rd.new ((((((w1.setCell ⟨w.heap.size, 0, none⟩ (.int .i64 dp)).setCell ⟨w.heap.size, 1, none⟩ (.slice A0 n0 c0)).setCell ⟨w.heap.size, 2, none⟩ (.slice A1 n1 c1)).setCell ⟨w.heap.size, 3, none⟩ (.int .i64 s0)).setCell ⟨w.heap.size, 4, none⟩ (.int .i64 s1))) (([0, 1] : List Int).map iv) 3
          rw [HSX5.out] at this
          exact this)
        have HNE := Lib.hid (show ∀ a, (some ⟨w1.heap.size, 0, none⟩ : Option Addr) = some a → some w.heap.size ≠ some a.block from fun a e q => by
          injection e with e; subst e
          injection q with q
          have := HSZ1.out
          have q' : w.heap.size = w1.heap.size := q
          omega)
        have HKZX := Lib.hid (show Bk wX (w.heap.size + 1) 36 [.int .i64 0, .slice none 0 0, .slice none 0 0, .int .i64 0, .int .i64 0] by rw [hwX]; exact HKZX.out.alloc _)
        have HSX := Lib.hid (show w.heap.size ≤ wX.heap.size by rw [hwX]; have := HSZ1.out; simp; omega)
        have HBX := Lib.hid (show Below w.heap.size w wX by rw [hwX]; exact HBX.out.alloc (by rw [HSX5.out]; have := HSZ1.out; omega) _)
        have HQL := Lib.hid (show ay.length = 2 by rw [HAY.out]; rfl)
        have HALL := Lib.hid (show ay.all known = true by rw [HAY.out]; rfl)
        have HQM := Lib.hid (show 2 ≤ maxLen by simp [maxLen])
        clear hwX q0 q1 q2 q3 q4 v0 v1 v2 v3 v4
        go_loopw [8] (fun i wr => ∃ k : Nat, k ≤ 2 ∧ i = .int .i64 k ∧ RMark wX w.heap.size (.int .i64 dp) (.slice A0 n0 c0) (.slice A1 n1 c1) n0 n1 s0 s1 ay k wr) (fun i _ => 2 - (intOf i).toNat)
        case atStart => exact ⟨0, Nat.zero_le _, rfl, HST.out⟩
        case round =>
          obtain ⟨k, hk, rfl, kb, hg⟩ := hrel
          have HKB := Lib.hid kb
          have HG := Lib.hid hg
          obtain ⟨q0, q1, q2, q3, q4⟩ := kb.five
          have v3 := kb.frozen 3
          have v4 := kb.frozen 4
          by_cases hkq : k < 2
          · obtain ⟨x, hCx, _, hc⟩ := (HRX.out.grown hg HNE.out).at_ hkq
            injection hCx with hCx
            subst hCx
            rw [at_add, Nat.zero_add] at hc
            have hkl : k < (ay : List Int).length := by rw [HQL.out]; exact hkq
            have gx : ((ay : List Int).map iv).getD k undef = .int .i64 ((ay : List Int)[k]'hkl) := by simp [iv, hkl]
            rw [gx] at hc
            have HN0 := Lib.hid (pick_hit ay k hkl 0 n0 s0)
            have HN1 := Lib.hid (pick_hit ay k hkl 1 n1 s1)
            have HM0 := Lib.hid (pick_miss ay k hkl 0 n0 s0)
            have HM1 := Lib.hid (pick_miss ay k hkl 1 n1 s1)
            have hkn : known ((ay : List Int)[k]'hkl) = true := List.all_eq_true.1 HALL.out _ (List.getElem_mem hkl)
            generalize (ay : List Int)[k]'hkl = z at *
            have y1 : (0 : Int) ≤ (k : Int) := by omega
            have y2 : (k : Int) < 2 := by omega
            have y3 : 2 ≤ 9223372036854775807 := by have := HQM.out; simp only [maxLen] at this; omega
            have w1' : IntKind.i64.wrap ((k : Int) + 1) = (k : Int) + 1 := by simp only [IntKind.wrap, IntKind.bits, IntKind.signed]; simp; omega
            have HKQ := Lib.hid hkq
            clear gx kb hg hkq hk hkl
            rcases known_cases hkn with rfl | rfl
            · clear hkn
              go_wp2_with fail
              go_region
              go_wp2_with fail
              go_roundw
              case rel => exact ⟨k + 1, by have := HKQ.out; omega, by go_num, by
                have kb2 := HKB.out.set 3 (.int .i64 (n0 : Int))
                rw [HN0.out (by trivial), HM1.out (by decide)]
                exact kb2, grown_drew (grown_set HG.out 3 _)⟩
              case measure => have := HKQ.out; simp [intOf]; omega
            · clear hkn
              go_wp2_with fail
              go_region
              go_wp2_with fail
              go_roundw
              case rel => exact ⟨k + 1, by have := HKQ.out; omega, by go_num, by
                have kb2 := HKB.out.set 4 (.int .i64 (n1 : Int))
                rw [HM0.out (by decide), HN1.out (by trivial)]
                exact kb2, grown_drew (grown_set HG.out 4 _)⟩
              case measure => have := HKQ.out; simp [intOf]; omega
          · have y2 : ¬ (k : Int) < 2 := by omega
            have ek : (ay).take k = ay := List.take_of_length_le (by have := HQL.out; omega)
            rw [ek] at kb q3 q4
            have kz := HKZX.out.grown hg (by simp)
            have HKZR := Lib.hid kz
            obtain ⟨z0, z1, z2, z3, z4⟩ := kz.five
            have u0 := kz.frozen 0
            have u1 := kz.frozen 1
            have u2 := kz.frozen 2
            have u3 := kz.frozen 3
            have u4 := kz.frozen 4
            have hbr := below_of_grown (B := w.heap.size) hg HSX.out (fun b e => by injection e with e; omega)
            have HBR := Lib.hid (HBX.out.trans hbr)
            obtain ⟨x0, hx0⟩ : ∃ x, x = pick ((ay).contains 0) n0 s0 := ⟨_, rfl⟩
            obtain ⟨x1, hx1⟩ : ∃ x, x = pick ((ay).contains 1) n1 s1 := ⟨_, rfl⟩
            rw [← hx0, ← hx1] at kb
            rw [← hx0] at q3
            rw [← hx1] at q4
            have HX0 := Lib.hid hx0
            have HX1 := Lib.hid hx1
            clear kb hg ek hbr hkq hk hx0 hx1 kz
            go_wp2_with fail
            have hbF := five_below (g := w.heap.size + 1) HBR.out (Nat.le_succ _) (.int .i64 dp) (.slice A0 n0 c0) (.slice A1 n1 c1) (.int .i64 x0) (.int .i64 x1)
            refine bodyPost_ret_by (results_row_tmp rfl _ _ (w.heap.size + 1) 36 _ _ rfl (five_set HKZR.out _ _ _ _ _) Tryd.underlying36 rfl info_disk) rfl ?_
            have e0 : (Q0.s0 : Int) = x0 := by rw [HQ0.out, HX0.out, pick, HEM0.out, HL0.out]
            have e1 : (Q0.s1 : Int) = x1 := by rw [HQ0.out, HX1.out, pick, HEM1.out, HL1.out]
            have ed : Q0.power = dp ∧ Q0.d0 = l0 ∧ Q0.d1 = l1 := by rw [HQ0.out]; exact ⟨rfl, rfl, rfl⟩
            refine ⟨A0, n0, c0, A1, n1, c1, ?_, by rw [ed.2.1]; exact HS0.out.below hbF, by rw [ed.2.2]; exact HS1.out.below hbF, hbF, .inl rfl, .inl rfl⟩
            rw [e0, e1, ed.1]
            rfl
      · have yq : ((q : Int) == 0) = false := by simp; omega
        have har : ar.isEmpty = false := by
          cases har : ar with
          | nil => exact absurd (by rw [← HQL0.out, har]; rfl) hq0
          | cons _ _ => rfl
        have HEM0 := Lib.hid (show told ar 0 = ar.contains 0 by unfold told; rw [har]; rfl)
        have HEM1 := Lib.hid (show told ar 1 = ar.contains 1 by unfold told; rw [har]; rfl)
        have HQP := Lib.hid (show 0 < q by omega)
        clear hbb kb kz hq0 har
        go_wp2_with fail
        obtain ⟨wX, hwX⟩ : ∃ wX, wX = ((((((w1.setCell ⟨w.heap.size, 0, none⟩ (.int .i64 dp)).setCell ⟨w.heap.size, 1, none⟩ (.slice A0 n0 c0)).setCell ⟨w.heap.size, 2, none⟩ (.slice A1 n1 c1)).setCell ⟨w.heap.size, 3, none⟩ (.int .i64 s0)).setCell ⟨w.heap.size, 4, none⟩ (.int .i64 s1))) := ⟨_, rfl⟩
        rw [← hwX]
        have HST := Lib.hid (show RMark wX w.heap.size (.int .i64 dp) (.slice A0 n0 c0) (.slice A1 n1 c1) n0 n1 s0 s1 ar 0 wX from ⟨by rw [hwX]; exact HKBX.out, grown_refl _ _⟩)
        have HRX := Lib.hid (show Rd wX C q (ar.map iv) from HRC.out.below (by rw [hwX]; exact HBX.out))
        have HNE := Lib.hid (show ∀ a, C = some a → some w.heap.size ≠ some a.block from fun a e qe => by
          obtain ⟨a', e', hlt, _⟩ := HRC.out.at_ HQP.out
          rw [e] at e'
          injection e' with e'
          injection qe with qe
          subst e'
          omega)
        have HKZX := Lib.hid (show Bk wX (w.heap.size + 1) 36 [.int .i64 0, .slice none 0 0, .slice none 0 0, .int .i64 0, .int .i64 0] by rw [hwX]; exact HKZX.out)
        have HSX := Lib.hid (show w.heap.size ≤ wX.heap.size by rw [hwX, HSX5.out]; have := HSZ1.out; omega)
        have HBX := Lib.hid (show Below w.heap.size w wX by rw [hwX]; exact HBX.out)
        have HQL := HQL0
        clear hwX q0 q1 q2 q3 q4 v0 v1 v2 v3 v4
        go_loopw [8] (fun i wr => ∃ k : Nat, k ≤ q ∧ i = .int .i64 k ∧ RMark wX w.heap.size (.int .i64 dp) (.slice A0 n0 c0) (.slice A1 n1 c1) n0 n1 s0 s1 ar k wr) (fun i _ => q - (intOf i).toNat)
        case atStart => exact ⟨0, Nat.zero_le _, rfl, HST.out⟩
        case round =>
          obtain ⟨k, hk, rfl, kb, hg⟩ := hrel
          have HKB := Lib.hid kb
          have HG := Lib.hid hg
          obtain ⟨q0, q1, q2, q3, q4⟩ := kb.five
          have v3 := kb.frozen 3
          have v4 := kb.frozen 4
          by_cases hkq : k < q
          · obtain ⟨x, hCx, _, hc⟩ := (HRX.out.grown hg HNE.out).at_ hkq
            subst hCx
            have hkl : k < (ar : List Int).length := by rw [HQL.out]; exact hkq
            have gx : ((ar : List Int).map iv).getD k undef = .int .i64 ((ar : List Int)[k]'hkl) := by simp [iv, hkl]
            rw [gx] at hc
            have HN0 := Lib.hid (pick_hit ar k hkl 0 n0 s0)
            have HN1 := Lib.hid (pick_hit ar k hkl 1 n1 s1)
            have HM0 := Lib.hid (pick_miss ar k hkl 0 n0 s0)
            have HM1 := Lib.hid (pick_miss ar k hkl 1 n1 s1)
            have hkn : known ((ar : List Int)[k]'hkl) = true := List.all_eq_true.1 HALL.out _ (List.getElem_mem hkl)
            generalize (ar : List Int)[k]'hkl = z at *
            have y1 : (0 : Int) ≤ (k : Int) := by omega
            have y2 : (k : Int) < (q : Int) := by omega
            have y3 : (q : Int) ≤ 9223372036854775807 := by have := HQM.out; simp only [maxLen] at this; omega
            have w1' : IntKind.i64.wrap ((k : Int) + 1) = (k : Int) + 1 := by simp only [IntKind.wrap, IntKind.bits, IntKind.signed]; simp; omega
            have HKQ := Lib.hid hkq
            clear gx kb hg hkq hk hkl
            rcases known_cases hkn with rfl | rfl
            · clear hkn
              go_wp2_with fail
              go_region
              go_wp2_with fail
              go_roundw
              case rel => exact ⟨k + 1, by have := HKQ.out; omega, by go_num, by
                have kb2 := HKB.out.set 3 (.int .i64 (n0 : Int))
                rw [HN0.out (by trivial), HM1.out (by decide)]
                exact kb2, grown_drew (grown_set HG.out 3 _)⟩
              case measure => have := HKQ.out; simp [intOf]; omega
            · clear hkn
              go_wp2_with fail
              go_region
              go_wp2_with fail
              go_roundw
              case rel => exact ⟨k + 1, by have := HKQ.out; omega, by go_num, by
                have kb2 := HKB.out.set 4 (.int .i64 (n1 : Int))
                rw [HM0.out (by decide), HN1.out (by trivial)]
                exact kb2, grown_drew (grown_set HG.out 4 _)⟩
              case measure => have := HKQ.out; simp [intOf]; omega
          · have y2 : ¬ (k : Int) < (q : Int) := by omega
            have ek : (ar).take k = ar := List.take_of_length_le (by have := HQL.out; omega)
            rw [ek] at kb q3 q4
            have kz := HKZX.out.grown hg (by simp)
            have HKZR := Lib.hid kz
            obtain ⟨z0, z1, z2, z3, z4⟩ := kz.five
            have u0 := kz.frozen 0
            have u1 := kz.frozen 1
            have u2 := kz.frozen 2
            have u3 := kz.frozen 3
            have u4 := kz.frozen 4
            have hbr := below_of_grown (B := w.heap.size) hg HSX.out (fun b e => by injection e with e; omega)
            have HBR := Lib.hid (HBX.out.trans hbr)
            obtain ⟨x0, hx0⟩ : ∃ x, x = pick ((ar).contains 0) n0 s0 := ⟨_, rfl⟩
            obtain ⟨x1, hx1⟩ : ∃ x, x = pick ((ar).contains 1) n1 s1 := ⟨_, rfl⟩
            rw [← hx0, ← hx1] at kb
            rw [← hx0] at q3
            rw [← hx1] at q4
            have HX0 := Lib.hid hx0
            have HX1 := Lib.hid hx1
            clear kb hg ek hbr hkq hk hx0 hx1 kz
            go_wp2_with fail
            have hbF := five_below (g := w.heap.size + 1) HBR.out (Nat.le_succ _) (.int .i64 dp) (.slice A0 n0 c0) (.slice A1 n1 c1) (.int .i64 x0) (.int .i64 x1)
            refine bodyPost_ret_by (results_row_tmp rfl _ _ (w.heap.size + 1) 36 _ _ rfl (five_set HKZR.out _ _ _ _ _) Tryd.underlying36 rfl info_disk) rfl ?_
            have e0 : (Q0.s0 : Int) = x0 := by rw [HQ0.out, HX0.out, pick, HEM0.out, HL0.out]
            have e1 : (Q0.s1 : Int) = x1 := by rw [HQ0.out, HX1.out, pick, HEM1.out, HL1.out]
            have ed : Q0.power = dp ∧ Q0.d0 = l0 ∧ Q0.d1 = l1 := by rw [HQ0.out]; exact ⟨rfl, rfl, rfl⟩
            refine ⟨A0, n0, c0, A1, n1, c1, ?_, by rw [ed.2.1]; exact HS0.out.below hbF, by rw [ed.2.2]; exact HS1.out.below hbF, hbF, .inl rfl, .inl rfl⟩
            rw [e0, e1, ed.1]
            rfl
end Go.Proofs.YtmiejaohkgemnaaDoor

/-
  The document's own disk: Sync, whatever the areas. Walks; no statement.
-/
namespace Go.Proofs.YtmiejaohkgemnaaDoor
open Go.RowKit
set_option linter.unusedVariables false

set_option maxHeartbeats 1600000 in
theorem refSync_no (p s0 s1 : Int) (A0 A1 : Option Addr) (n0 c0 n1 c1 : Nat) (l0 l1 : List UInt8) (C : Option Addr) (q qc : Nat) (ar : List Int) (w : World) (h0 : Sl w A0 n0 c0 l0) (h1 : Sl w A1 n1 c1 l1) (hC : Rd w C q (ar.map iv)) (hq : q ≤ maxLen) (hp : -9223372036854775808 ≤ p ∧ p ≤ 9223372036854775807) (hall : ar.all known = false) :
    Calls Tryd.prog 45 #[.agg #[.int .i64 p, .slice A0 n0 c0, .slice A1 n1 c1, .int .i64 s0, .int .i64 s1], .slice C q qc] w (DiskS A0 A1 (PD.sync ⟨p, l0, l1, s0, s1⟩ ar) w) := by
  have hb := ((Below.refl w.heap.size w).alloc (Nat.le_refl _) (.cells #[.int .i64 p, .slice A0 n0 c0, .slice A1 n1 c1, .int .i64 s0, .int .i64 s1] 36)).alloc (by simp) (.cells #[.int .i64 0, .slice none 0 0, .slice none 0 0, .int .i64 0, .int .i64 0] 36)
  have HB2 := Lib.hid hb
  have hlq : ar.length = q := by simpa using hC.1
  have HQL0 := Lib.hid hlq
  have HS0 := Lib.hid h0
  have HS1 := Lib.hid h1
  have HRC := Lib.hid (hC.below hb)
  have HKB := Lib.hid ((Bk.new w 36 [.int .i64 p, .slice A0 n0 c0, .slice A1 n1 c1, .int .i64 s0, .int .i64 s1]).alloc (.cells #[.int .i64 0, .slice none 0 0, .slice none 0 0, .int .i64 0, .int .i64 0] 36))
  have HKZ := Lib.hid (bk_new2 w (.cells #[.int .i64 p, .slice A0 n0 c0, .slice A1 n1 c1, .int .i64 s0, .int .i64 s1] 36) [.int .i64 0, .slice none 0 0, .slice none 0 0, .int .i64 0, .int .i64 0] 36)
  have HAR := Lib.hid (fun a => refArea a ((w.alloc (.cells #[.int .i64 p, .slice A0 n0 c0, .slice A1 n1 c1, .int .i64 s0, .int .i64 s1] 36)).alloc (.cells #[.int .i64 0, .slice none 0 0, .slice none 0 0, .int .i64 0, .int .i64 0] 36)))
  have hqm := hq
  unfold maxLen at hqm
  have HR := Lib.hid (show PD.sync ⟨p, l0, l1, s0, s1⟩ ar = (⟨p, l0, l1, s0, s1⟩, 41) by unfold PD.sync; rw [hall]; rfl)
  rw [HR.out]
  have HALL := Lib.hid hall
  have HBK := Lib.hid (bk_new2 w (.cells #[.int .i64 p, .slice A0 n0 c0, .slice A1 n1 c1, .int .i64 s0, .int .i64 s1] 36) [.int .i64 p, .slice A0 n0 c0, .slice A1 n1 c1, .int .i64 s0, .int .i64 s1] 36)
  have hb2 := ((Below.refl w.heap.size w).alloc (Nat.le_refl _) (.cells #[.int .i64 p, .slice A0 n0 c0, .slice A1 n1 c1, .int .i64 s0, .int .i64 s1] 36)).alloc (by simp) (.cells #[.int .i64 p, .slice A0 n0 c0, .slice A1 n1 c1, .int .i64 s0, .int .i64 s1] 36)
  have HBF := Lib.hid hb2
  clear h0 h1 hb hC hall hlq hb2 hq
  go_enter Tryd.func45, Tryd.ntmps45
  go_wp2_with fail
  go_loop [6] (fun i => ∃ k : Nat, k ≤ q ∧ i = .int .i64 k ∧ Hid ((ar.take k).all known = true)) (fun i => q - (intOf i).toNat)
  case atStart => exact ⟨0, Nat.zero_le _, rfl, Lib.hid (by simp)⟩
  case round =>
    obtain ⟨k, hk, rfl, HT⟩ := hrel
    by_cases hkq : k < q
    · obtain ⟨x, rfl, _, hc⟩ := HRC.out.at_ hkq
      have hkl : k < ar.length := by rw [HQL0.out]; exact hkq
      have gx : (ar.map iv).getD k undef = .int .i64 (ar[k]'hkl) := by simp [iv, hkl]
      rw [gx] at hc
      have HN := Lib.hid (all_next ar k hkl)
      generalize ar[k]'hkl = z at *
      have HAZ := Lib.hid (HAR.out z)
      have y1 : (0 : Int) ≤ (k : Int) := by omega
      have y2 : (k : Int) < (q : Int) := by omega
      have HKQ := Lib.hid hkq
      cases hkn : known z
      · rw [hkn] at HAZ
        clear gx hkn hkq hk hkl
        go_wp2_with fail
        refine HAZ.out.mono ?_
        rintro e w1 ⟨rfl, rfl⟩
        go_wp2_with fail
        refine bodyPost_ret_by (results_row_tmp rfl _ _ (w.heap.size + 1) 36 _ _ rfl HBK.out Tryd.underlying36 rfl info_disk) rfl ?_
        exact ⟨A0, n0, c0, A1, n1, c1, rfl, HS0.out.below HBF.out, HS1.out.below HBF.out, HBF.out, .inl rfl, .inl rfl⟩
      · rw [hkn] at HAZ
        have HT2 := Lib.hid (show (ar.take (k + 1)).all known = true by rw [HN.out, HT.out, hkn]; rfl)
        clear gx hkn hkq hk hkl
        go_wp2_with fail
        refine HAZ.out.mono ?_
        rintro e w1 ⟨rfl, rfl⟩
        go_wp2_with fail
        go_round
        case rel => exact ⟨k + 1, by have := HKQ.out; omega, by go_num, HT2⟩
        case measure => have := HKQ.out; simp [intOf]; omega
    · exfalso
      have h1 := HT.out
      rw [List.take_of_length_le (by rw [HQL0.out]; omega), HALL.out] at h1
      cases h1
set_option maxHeartbeats 1600000 in
theorem refSync_down (p s0 s1 : Int) (A0 A1 : Option Addr) (n0 c0 n1 c1 : Nat) (l0 l1 : List UInt8) (C : Option Addr) (q qc : Nat) (ar : List Int) (w : World) (h0 : Sl w A0 n0 c0 l0) (h1 : Sl w A1 n1 c1 l1) (hC : Rd w C q (ar.map iv)) (hq : q ≤ maxLen) (hp : -9223372036854775808 ≤ p ∧ p ≤ 9223372036854775807) (hall : ar.all known = true) (hz : p = 0) :
    Calls Tryd.prog 45 #[.agg #[.int .i64 p, .slice A0 n0 c0, .slice A1 n1 c1, .int .i64 s0, .int .i64 s1], .slice C q qc] w (DiskS A0 A1 (PD.sync ⟨p, l0, l1, s0, s1⟩ ar) w) := by
  have hb := ((Below.refl w.heap.size w).alloc (Nat.le_refl _) (.cells #[.int .i64 p, .slice A0 n0 c0, .slice A1 n1 c1, .int .i64 s0, .int .i64 s1] 36)).alloc (by simp) (.cells #[.int .i64 0, .slice none 0 0, .slice none 0 0, .int .i64 0, .int .i64 0] 36)
  have HB2 := Lib.hid hb
  have hlq : ar.length = q := by simpa using hC.1
  have HQL0 := Lib.hid hlq
  have HS0 := Lib.hid h0
  have HS1 := Lib.hid h1
  have HRC := Lib.hid (hC.below hb)
  have HKB := Lib.hid ((Bk.new w 36 [.int .i64 p, .slice A0 n0 c0, .slice A1 n1 c1, .int .i64 s0, .int .i64 s1]).alloc (.cells #[.int .i64 0, .slice none 0 0, .slice none 0 0, .int .i64 0, .int .i64 0] 36))
  have HKZ := Lib.hid (bk_new2 w (.cells #[.int .i64 p, .slice A0 n0 c0, .slice A1 n1 c1, .int .i64 s0, .int .i64 s1] 36) [.int .i64 0, .slice none 0 0, .slice none 0 0, .int .i64 0, .int .i64 0] 36)
  have HAR := Lib.hid (fun a => refArea a ((w.alloc (.cells #[.int .i64 p, .slice A0 n0 c0, .slice A1 n1 c1, .int .i64 s0, .int .i64 s1] 36)).alloc (.cells #[.int .i64 0, .slice none 0 0, .slice none 0 0, .int .i64 0, .int .i64 0] 36)))
  have hqm := hq
  unfold maxLen at hqm
  have HR := Lib.hid (show PD.sync ⟨p, l0, l1, s0, s1⟩ ar = (⟨p, l0, l1, s0, s1⟩, 40) by unfold PD.sync; rw [hall]; simp [hz])
  rw [HR.out]
  have HALL := Lib.hid hall
  have HD := Lib.hid (fun w => refDraw p s0 s1 A0 A1 n0 c0 n1 c1 w hp)
  have HE := Lib.hid (show (if p = 0 then (40 : Int) else 0) = 40 by simp [hz])
  have HDP := Lib.hid (show drawn p = p by simp [drawn, hz])
  clear h0 h1 hb hC hall hlq hz hq
  go_enter Tryd.func45, Tryd.ntmps45
  go_wp2_with fail
  go_loop [6] (fun i => ∃ k : Nat, k ≤ q ∧ i = .int .i64 k) (fun i => q - (intOf i).toNat)
  case atStart => exact ⟨0, Nat.zero_le _, rfl⟩
  case round =>
    obtain ⟨k, hk, rfl⟩ := hrel
    by_cases hkq : k < q
    · obtain ⟨x, rfl, _, hc⟩ := HRC.out.at_ hkq
      have hkl : k < ar.length := by rw [HQL0.out]; exact hkq
      have gx : (ar.map iv).getD k undef = .int .i64 (ar[k]'hkl) := by simp [iv, hkl]
      rw [gx] at hc
      have hkn : known (ar[k]'hkl) = true := List.all_eq_true.1 HALL.out _ (List.getElem_mem hkl)
      generalize ar[k]'hkl = z at *
      have HAZ := Lib.hid (HAR.out z)
      rw [hkn] at HAZ
      have y1 : (0 : Int) ≤ (k : Int) := by omega
      have y2 : (k : Int) < (q : Int) := by omega
      have HKQ := Lib.hid hkq
      clear gx hkn hkq hk hkl
      go_wp2_with fail
      refine HAZ.out.mono ?_
      rintro e w1 ⟨rfl, rfl⟩
      go_wp2_with fail
      go_round
      case rel => exact ⟨k + 1, by have := HKQ.out; omega, by go_num⟩
      case measure => have := HKQ.out; simp [intOf]; omega
    · have y2 : ¬ (k : Int) < (q : Int) := by omega
      clear hkq hk
      go_wp2_with fail
      refine (HD.out _).mono ?_
      rintro e w1 ⟨rfl, hbb⟩
      rw [HE.out, HDP.out]
      have kb := HKB.out.kept hbb
      have kz := HKZ.out.kept hbb
      have HBB := Lib.hid hbb
      have HKB1 := Lib.hid kb
      have HKZ1 := Lib.hid kz
      obtain ⟨q0, q1, q2, q3, q4⟩ := kb.five
      obtain ⟨z0, z1, z2, z3, z4⟩ := kz.five
      have v0 := kb.frozen 0
      have u0 := kz.frozen 0
      have v1 := kb.frozen 1
      have u1 := kz.frozen 1
      have v2 := kb.frozen 2
      have u2 := kz.frozen 2
      have v3 := kb.frozen 3
      have u3 := kz.frozen 3
      have v4 := kb.frozen 4
      have u4 := kz.frozen 4
      clear hbb kb kz
      go_wp2_with fail
      have hbF := five_below (g := w.heap.size + 1) (five_below (g := w.heap.size) (below_next HB2.out HBB.out HB2.out.size) (Nat.le_refl _) (.int .i64 p) (.slice A0 n0 c0) (.slice A1 n1 c1) (.int .i64 s0) (.int .i64 s1)) (Nat.le_succ _) (.int .i64 p) (.slice A0 n0 c0) (.slice A1 n1 c1) (.int .i64 s0) (.int .i64 s1)
      refine bodyPost_ret_by (results_row_tmp rfl _ _ (w.heap.size + 1) 36 _ _ rfl (five_set (HKZ1.out.five_far (by omega) _ _ _ _ _) _ _ _ _ _) Tryd.underlying36 rfl info_disk) rfl ?_
      exact ⟨A0, n0, c0, A1, n1, c1, rfl, HS0.out.below hbF, HS1.out.below hbF, hbF, .inl rfl, .inl rfl⟩
theorem refSync (p s0 s1 : Int) (A0 A1 : Option Addr) (n0 c0 n1 c1 : Nat) (l0 l1 : List UInt8) (C : Option Addr) (q qc : Nat) (ar : List Int) (w : World) (h0 : Sl w A0 n0 c0 l0) (h1 : Sl w A1 n1 c1 l1) (hC : Rd w C q (ar.map iv)) (hq : q ≤ maxLen) (hp : -9223372036854775808 ≤ p ∧ p ≤ 9223372036854775807) :
    Calls Tryd.prog 45 #[.agg #[.int .i64 p, .slice A0 n0 c0, .slice A1 n1 c1, .int .i64 s0, .int .i64 s1], .slice C q qc] w (DiskS A0 A1 (PD.sync ⟨p, l0, l1, s0, s1⟩ ar) w) := by
  cases hall : ar.all known
  · exact refSync_no p s0 s1 A0 A1 n0 c0 n1 c1 l0 l1 C q qc ar w h0 h1 hC hq hp hall
  · by_cases hz : p = 0
    · exact refSync_down p s0 s1 A0 A1 n0 c0 n1 c1 l0 l1 C q qc ar w h0 h1 hC hq hp hall hz
    · exact refSync_ok p s0 s1 A0 A1 n0 c0 n1 c1 l0 l1 C q qc ar w h0 h1 hC hq hp hall hz
end Go.Proofs.YtmiejaohkgemnaaDoor

/-
  The document's own disk: Crash. Walks; no statement.
-/
namespace Go.Proofs.YtmiejaohkgemnaaDoor
open Go.RowKit
set_option linter.unusedVariables false
set_option maxRecDepth 100000

theorem results_cell1 {fn : Func} {p : Tmp} {ty : TypeId} (h : fn.results = #[.cell p ty]) (tmps : Array Value) (P : Program) (w : World) :
    (results fn tmps).run P w = ((asAddr (tmps.getD p undef)).run P w).andThen fun a w1 => (loadVar ty a).run P w1 := by
  simp only [results, h]
  simp [Sem.run_bind, Result.andThen]
theorem results_row1 {P : Program} {fn : Func} {p : Tmp} {ty : TypeId} (h : fn.results = #[.cell p ty]) (tmps : Array Value) (w : World) (g : Nat) (t : TypeId) (cs : List Value) (d : TypeDesc)
    (hp : tmps.getD p undef = .pointer (some ⟨g, 0, none⟩)) (hg : Bk w g t cs)
    (hu : P.underlying ty = some d) (hd : (match d with | .struct _ | .array _ _ => true | _ => false) = true) (hi : (P.info? ty).map (·.size) = some cs.toArray.size) :
    (results fn tmps).run P w = .ok (.agg cs.toArray) w := by
  rw [results_cell1 h, hp]
  simp only [asAddr, Sem.run_pure, Result.andThen_ok, run_loadVar_row w g t ty cs.toArray (0, 0) d hg hu hd hi]
/-- a disk as a call hands it back, its bytes new -/
def DiskN (P : PD) (w : World) (e : Ending) (w' : World) : Prop :=
  ∃ B0 n0 c0 B1 n1 c1, e = .returned (.agg #[.int .i64 P.power, .slice B0 n0 c0, .slice B1 n1 c1, .int .i64 P.s0, .int .i64 P.s1]) ∧ OwnB w' w.heap.size B0 n0 c0 P.d0 ∧ OwnB w' w.heap.size B1 n1 c1 P.d1 ∧ Below w.heap.size w w'
/-- how the loop over the areas stands -/
def RCr (w : World) (dk zs : List Value) (pw : Int) (l0 l1 : List UInt8) (wr : World) : Prop :=
  ∃ B0 m0 e0 B1 m1 e1, Bk wr w.heap.size 36 dk ∧ Bk wr (w.heap.size + 1) 36 zs ∧ Bk wr (w.heap.size + 1 + 1) 36 [.int .i64 pw, .slice B0 m0 e0, .slice B1 m1 e1, .int .i64 l0.length, .int .i64 l1.length] ∧
    OwnB wr w.heap.size B0 m0 e0 l0 ∧ OwnB wr w.heap.size B1 m1 e1 l1 ∧ Below w.heap.size w wr
theorem RCr.drew {w wr : World} {dk zs : List Value} {pw : Int} {l0 l1 : List UInt8} (h : RCr w dk zs pw l0 l1 wr) : RCr w dk zs pw l0 l1 wr.drew := by
  obtain ⟨B0, m0, e0, B1, m1, e1, k0, k1, k2, h0, h1, hb⟩ := h
  exact ⟨B0, m0, e0, B1, m1, e1, k0, k1, k2, h0, h1, below_drew hb⟩
theorem rc_0 {w wr w4 : World} {dk zs : List Value} {base m c m0 e0 m1 e1 : Nat} {A B0 B1 : Option Addr} {sx pw : Int} {lo r : List UInt8} (k0 : Bk wr w.heap.size 36 dk) (k1 : Bk wr (w.heap.size + 1) 36 zs)
    (kb : Bk wr (w.heap.size + 1 + 1) 36 [.int .i64 pw, .slice B0 m0 e0, .slice B1 m1 e1, .int .i64 sx, .int .i64 lo.length])
    (hoo : OwnB wr w.heap.size B1 m1 e1 lo) (hbl : Below w.heap.size w wr) (h4 : Below wr.heap.size wr w4) (ho : OwnB w4 base A m c r) (hbase : wr.heap.size ≤ base) :
    RCr w dk zs pw r lo ((w4.setCell ⟨w.heap.size + 1 + 1, 1, none⟩ (.slice A m c)).setCell ⟨w.heap.size + 1 + 1, 3, none⟩ (.int .i64 (m : Int))) := by
  have k4 := kb.kept h4
  have hgr := grown_set (grown_set (grown_refl w4 (some (w.heap.size + 1 + 1))) 1 (.slice A m c)) 3 (.int .i64 (m : Int))
  have hlen := ho.len
  have hn := (ho.more (Nat.le_trans hbl.size hbase)).off k4 (by decide) hgr
  have hold := (hoo.below h4).off k4 (by decide) hgr
  have kk := (k4.set 1 (.slice A m c)).set 3 (.int .i64 (m : Int))
  refine ⟨A, m, c, B1, m1, e1, (k0.kept h4).grown hgr (by simp <;> omega), (k1.kept h4).grown hgr (by simp <;> omega), by rw [hlen]; exact kk, hn, hold, below_set (below_set (below_next hbl h4 hbl.size) (Nat.le_add_right _ 2) 1 _) (Nat.le_add_right _ 2) 3 _⟩
theorem rc_1 {w wr w4 : World} {dk zs : List Value} {base m c m0 e0 m1 e1 : Nat} {A B0 B1 : Option Addr} {sx pw : Int} {lo r : List UInt8} (k0 : Bk wr w.heap.size 36 dk) (k1 : Bk wr (w.heap.size + 1) 36 zs)
    (kb : Bk wr (w.heap.size + 1 + 1) 36 [.int .i64 pw, .slice B0 m0 e0, .slice B1 m1 e1, .int .i64 lo.length, .int .i64 sx])
    (hoo : OwnB wr w.heap.size B0 m0 e0 lo) (hbl : Below w.heap.size w wr) (h4 : Below wr.heap.size wr w4) (ho : OwnB w4 base A m c r) (hbase : wr.heap.size ≤ base) :
    RCr w dk zs pw lo r ((w4.setCell ⟨w.heap.size + 1 + 1, 2, none⟩ (.slice A m c)).setCell ⟨w.heap.size + 1 + 1, 4, none⟩ (.int .i64 (m : Int))) := by
  have k4 := kb.kept h4
  have hgr := grown_set (grown_set (grown_refl w4 (some (w.heap.size + 1 + 1))) 2 (.slice A m c)) 4 (.int .i64 (m : Int))
  have hlen := ho.len
  have hn := (ho.more (Nat.le_trans hbl.size hbase)).off k4 (by decide) hgr
  have hold := (hoo.below h4).off k4 (by decide) hgr
  have kk := (k4.set 2 (.slice A m c)).set 4 (.int .i64 (m : Int))
  refine ⟨B0, m0, e0, A, m, c, (k0.kept h4).grown hgr (by simp <;> omega), (k1.kept h4).grown hgr (by simp <;> omega), by rw [hlen]; exact kk, hold, hn, below_set (below_set (below_next hbl h4 hbl.size) (Nat.le_add_right _ 2) 2 _) (Nat.le_add_right _ 2) 4 _⟩
set_option maxHeartbeats 3200000 in
theorem refCrash (p pw : Int) (a0 a1 : Nat) (A0 A1 : Option Addr) (n0 c0 n1 c1 : Nat) (l0 l1 : List UInt8) (C : Option Addr) (q qc : Nat) (ks : List Int) (w : World) (h0 : Sl w A0 n0 c0 l0) (h1 : Sl w A1 n1 c1 l1) (hC : Rd w C q (ks.map iv)) (hq : q ≤ maxLen) (hks : ∀ x ∈ ks, -9223372036854775808 ≤ x ∧ x ≤ 9223372036854775807) (ha0 : a0 ≤ n0) (ha1 : a1 ≤ n1) (b0 : n0 ≤ 1099511627776) (b1 : n1 ≤ 1099511627776) :
    Calls Tryd.prog 27 #[.agg #[.int .i64 p, .slice A0 n0 c0, .slice A1 n1 c1, .int .i64 (a0 : Int), .int .i64 (a1 : Int)], .slice C q qc, .int .i64 pw] w (DiskN (PD.crash ⟨p, l0, l1, a0, a1⟩ ks pw) w) := by
  unfold maxLen at hq
  have hkl : ks.length = q := by simpa using hC.1
  obtain ⟨x0, hx0⟩ : ∃ x, x = ks.getD 0 0 := ⟨_, rfl⟩
  obtain ⟨x1, hx1⟩ : ∃ x, x = ks.getD 1 0 := ⟨_, rfl⟩
  have hw0 : -9223372036854775808 ≤ x0 ∧ x0 ≤ 9223372036854775807 := by
    rw [hx0]
    by_cases hk : 0 < ks.length
    · exact hks _ (getD_mem hk)
    · rw [List.getD, List.getElem?_eq_none (by omega)]; simp
  have hw1 : -9223372036854775808 ≤ x1 ∧ x1 ≤ 9223372036854775807 := by
    rw [hx1]
    by_cases hk : 1 < ks.length
    · exact hks _ (getD_mem hk)
    · rw [List.getD, List.getElem?_eq_none (by omega)]; simp
  have el0 := h0.len
  have el1 := h1.len
  obtain ⟨r0, hr0⟩ : ∃ r, r = l0.take (PD.left l0 a0 x0) := ⟨_, rfl⟩
  obtain ⟨r1, hr1⟩ : ∃ r, r = l1.take (PD.left l1 a1 x1) := ⟨_, rfl⟩
  have HRL0 := Lib.hid (show r0.length = PD.left l0 a0 x0 by rw [hr0, List.length_take]; have := left_le l0 a0 x0 (by omega) (by omega); omega)
  have HLV0 := Lib.hid (left_eq l0 a0 x0 (by omega) (by omega))
  have HMN0 := Lib.hid (left_le l0 a0 x0 (by omega) (by omega))
  have HRV0 := Lib.hid hr0
  have HCAP0 := Lib.hid h0.1
  have HS0 := Lib.hid h0
  have HX0 := Lib.hid hx0
  have HRL1 := Lib.hid (show r1.length = PD.left l1 a1 x1 by rw [hr1, List.length_take]; have := left_le l1 a1 x1 (by omega) (by omega); omega)
  have HLV1 := Lib.hid (left_eq l1 a1 x1 (by omega) (by omega))
  have HMN1 := Lib.hid (left_le l1 a1 x1 (by omega) (by omega))
  have HRV1 := Lib.hid hr1
  have HCAP1 := Lib.hid h1.1
  have HS1 := Lib.hid h1
  have HX1 := Lib.hid hx1
  have HPC := Lib.hid (show PD.crash ⟨p, l0, l1, a0, a1⟩ ks pw = ⟨pw, r0, r1, r0.length, r1.length⟩ by rw [hr0, hr1, hx0, hx1]; rfl)
  rw [HPC.out]
  have HRD := Lib.hid hC
  have HKL := Lib.hid hkl
  generalize PD.left l0 a0 x0 = m0 at *
  generalize PD.left l1 a1 x1 = m1 at *
  rw [el0] at HLV0 HMN0
  rw [el1] at HLV1 HMN1
  have hb3 := (((Below.refl w.heap.size w).alloc (Nat.le_refl _) (.cells #[.int .i64 p, .slice A0 n0 c0, .slice A1 n1 c1, .int .i64 (a0 : Int), .int .i64 (a1 : Int)] 36)).alloc (by simp) (.cells #[.int .i64 0, .slice none 0 0, .slice none 0 0, .int .i64 0, .int .i64 0] 36)).alloc (by simp; omega) (.cells #[.int .i64 pw, .slice none 0 0, .slice none 0 0, .int .i64 0, .int .i64 0] 36)
  have HAT := Lib.hid (show RCr w [.int .i64 p, .slice A0 n0 c0, .slice A1 n1 c1, .int .i64 (a0 : Int), .int .i64 (a1 : Int)] [.int .i64 0, .slice none 0 0, .slice none 0 0, .int .i64 0, .int .i64 0] pw [] [] (((w.alloc (.cells #[.int .i64 p, .slice A0 n0 c0, .slice A1 n1 c1, .int .i64 (a0 : Int), .int .i64 (a1 : Int)] 36)).alloc (.cells #[.int .i64 0, .slice none 0 0, .slice none 0 0, .int .i64 0, .int .i64 0] 36)).alloc (.cells #[.int .i64 pw, .slice none 0 0, .slice none 0 0, .int .i64 0, .int .i64 0] 36)) from
    ⟨none, 0, 0, none, 0, 0, ((Bk.new w 36 [.int .i64 p, .slice A0 n0 c0, .slice A1 n1 c1, .int .i64 (a0 : Int), .int .i64 (a1 : Int)]).alloc _).alloc _, (bk_new2 w (.cells #[.int .i64 p, .slice A0 n0 c0, .slice A1 n1 c1, .int .i64 (a0 : Int), .int .i64 (a1 : Int)] 36) [.int .i64 0, .slice none 0 0, .slice none 0 0, .int .i64 0, .int .i64 0] 36).alloc _, by
      have := Bk.new ((w.alloc (.cells #[.int .i64 p, .slice A0 n0 c0, .slice A1 n1 c1, .int .i64 (a0 : Int), .int .i64 (a1 : Int)] 36)).alloc (.cells #[.int .i64 0, .slice none 0 0, .slice none 0 0, .int .i64 0, .int .i64 0] 36)) 36 [.int .i64 pw, .slice none 0 0, .slice none 0 0, .int .i64 0, .int .i64 0]
      simpa using this, OwnB.nil_ _ _, OwnB.nil_ _ _, hb3⟩)
  clear h0 h1 hC hks hkl hx0 hx1 hr0 hr1 el0 el1 hb3
  go_enter Tryd.func27, Tryd.ntmps27
  go_wp2_with fail
  go_loopw [8] (fun i wr => ∃ k : Nat, k ≤ 2 ∧ i = .int .i64 k ∧ RCr w [.int .i64 p, .slice A0 n0 c0, .slice A1 n1 c1, .int .i64 (a0 : Int), .int .i64 (a1 : Int)] [.int .i64 0, .slice none 0 0, .slice none 0 0, .int .i64 0, .int .i64 0] pw (if 0 < k then r0 else []) (if 1 < k then r1 else []) wr) (fun i _ => 2 - (intOf i).toNat)
  case atStart => exact ⟨0, by omega, rfl, HAT.out⟩
  case round =>
    obtain ⟨k, hk, rfl, hcr⟩ := hrel
    have hkc : k = 0 ∨ k = 1 ∨ k = 2 := by omega
    clear hk HAT
    rcases hkc with rfl | rfl | rfl
    · have hcr : RCr w [.int .i64 p, .slice A0 n0 c0, .slice A1 n1 c1, .int .i64 (a0 : Int), .int .i64 (a1 : Int)] [.int .i64 0, .slice none 0 0, .slice none 0 0, .int .i64 0, .int .i64 0] pw [] [] wr := by simpa using hcr
      obtain ⟨B0, p0, e0, B1, p1, e1, k0, k1, kb, ho0, ho1, hbl⟩ := hcr
      have KB := Lib.hid kb
      have K0 := Lib.hid k0
      have K1 := Lib.hid k1
      have HO0 := Lib.hid ho0
      have HO1 := Lib.hid ho1
      obtain ⟨q0, q1, q2, q3, q4⟩ := k0.five
      have wa : IntKind.i64.wrap ((n0 : Int) - (a0 : Int)) = (n0 : Int) - (a0 : Int) := by simp only [IntKind.wrap, IntKind.bits, IntKind.signed]; simp; omega
      clear ho0 ho1 kb k0 k1
      have hno : x0 ≤ 0 → ∀ (z : True), m0 = a0 := fun hx _ => by have := HLV0.out; omega
      by_cases hn : 0 < q
      · have y : (0 : Int) < (q : Int) := by omega
        obtain ⟨a, rfl, hal, hc⟩ := (HRD.out.below hbl).at_ hn
        have gx : (ks.map iv).getD 0 undef = .int .i64 x0 := by
          rw [HX0.out]
          have : 0 < ks.length := by rw [HKL.out]; exact hn
          simp [iv, List.getD, this]
        rw [gx] at hc
        replace hc : wr.cell? a = some (.int .i64 x0) := by simpa [Addr.add] using hc
        clear gx hn
        by_cases hx : 0 < x0
        · by_cases hx2 : (n0 : Int) - (a0 : Int) < x0
          · have hxd : decide ((n0 : Int) - (a0 : Int) < x0) = true := by simpa using hx2
            clear hno
            go_wp2_with fail
            go_quiet (fail)
            rename Nat => nq1
            go_wp2_with fail
            go_quiet (fail)
            go_wp2_with fail
            obtain ⟨wA, hwA⟩ : ∃ wA, wA = ((wr.drewN nq1).drewN nq) := ⟨_, rfl⟩
            rw [← hwA]
            have wK : IntKind.i64.wrap ((a0 : Int) + ((n0 : Int) - (a0 : Int))) = (m0 : Int) := by
              have := HLV0.out
              have := HMN0.out
              have e : (a0 : Int) + ((n0 : Int) - (a0 : Int)) = (m0 : Int) := by omega
              rw [e]
              simp only [IntKind.wrap, IntKind.bits, IntKind.signed]; simp; omega
            have hw : Below wr.heap.size wr wA := by rw [hwA]; exact below_drewN (below_drewN (Below.refl _ _) nq1) nq
            have KS := Lib.hid (show Bk wA w.heap.size 36 [.int .i64 p, .slice A0 n0 c0, .slice A1 n1 c1, .int .i64 (a0 : Int), .int .i64 (a1 : Int)] by rw [hwA]; exact (K0.out.drewN nq1).drewN nq)
            have sl1 := KS.out.five.2.1
            have sl3 := KS.out.five.2.2.2.1
            have HCL := Lib.hid (show ∀ W, Below wr.heap.size wr W → Calls Tryd.prog 31 #[.slice A0 m0 c0] W (Fresh1 r0 W) from fun W hW => by
              have ho := ((HS0.out.below hbl).below hW).rd.front (k := m0) HMN0.out
              rw [← List.map_take, ← HRV0.out] at ho
              have := HMN0.out
              exact copyBytes_any A0 m0 c0 r0 W ho (by omega))
            have z2 : (m0 : Int) ≤ (c0 : Int) := by have := HMN0.out; have := HCAP0.out; omega
            have z3 : (0 : Int) ≤ (m0 : Int) := by omega
            clear hwA
            go_region_held3 (fun w' => w'.cell? ⟨w.heap.size, 1, none⟩ = some (.slice A0 n0 c0) ∧ w'.cell? ⟨w.heap.size, 3, none⟩ = some (.int .i64 (a0 : Int))) (first | go_keep | exact ⟨sl1, sl3⟩ | exact ⟨KS4.out.five.2.1, KS4.out.five.2.2.2.1⟩ | exact ⟨(KS4.out.far (p := ⟨w.heap.size + 1 + 1, 1, none⟩) (by simp <;> omega) _).five.2.1, (KS4.out.far (p := ⟨w.heap.size + 1 + 1, 1, none⟩) (by simp <;> omega) _).five.2.2.2.1⟩)
              (first
                | (go_at_call 31; with_reducible refine (HCL.out _ ?_).mono ?_
                   focus first | with_reducible exact hw | with_reducible exact below_drew hw
                   rintro e w4 ⟨A4, m4, c4, rfl, ho4, hb4⟩
                   have hm4 : m4 = m0 := by have := ho4.len; have := HRL0.out; omega
                   rw [hm4]
                   rw [hm4] at ho4
                   clear hm4
                   have H4 := Lib.hid (show ∃ base, OwnB w4 base A4 m0 c4 r0 ∧ wr.heap.size ≤ base ∧ Below wr.heap.size wr w4 from ⟨_, ho4, by first | exact hw.size | exact (below_drew hw).size, by first | exact below_next hw hb4 hw.size | exact below_next (below_drew hw) hb4 (below_drew hw).size⟩)
                   have k4 := KB.out.kept (by first | exact below_next hw hb4 hw.size | exact below_next (below_drew hw) hb4 (below_drew hw).size)
                   have KS4 : Hid (Bk w4 w.heap.size 36 [.int .i64 p, .slice A0 n0 c0, .slice A1 n1 c1, .int .i64 (a0 : Int), .int .i64 (a1 : Int)]) := Lib.hid (by first | exact KS.out.kept hb4 | exact bk_keptD KS.out hb4)
                   obtain ⟨t0, t1, t2, t3, t4⟩ := k4.five
                   have v1 := k4.frozen 1
                   have v2 := k4.frozen 2
                   have v3 := k4.frozen 3
                   have v4 := k4.frozen 4
                   clear ho4 hb4 k4))
            all_goals
              go_wp2_with fail
              obtain ⟨base, ho4, hbase, h4⟩ := H4.out
              have hcn := Lib.hid (rc_0 K0.out K1.out KB.out HO1.out hbl h4 ho4 hbase)
              go_roundw
              case rel => exact ⟨1, by omega, by go_num, by first | (have := hcn.out; simpa using this) | (have := hcn.out.drew; simpa using this)⟩
              case measure => simp [intOf]
          · have hxd : decide ((n0 : Int) - (a0 : Int) < x0) = false := by simpa using hx2
            clear hno
            go_wp2_with fail
            go_quiet (fail)
            go_wp2_with fail
            obtain ⟨wA, hwA⟩ : ∃ wA, wA = (wr.drewN nq) := ⟨_, rfl⟩
            rw [← hwA]
            have wK : IntKind.i64.wrap ((a0 : Int) + x0) = (m0 : Int) := by
              have := HLV0.out
              have := HMN0.out
              have e : (a0 : Int) + x0 = (m0 : Int) := by omega
              rw [e]
              simp only [IntKind.wrap, IntKind.bits, IntKind.signed]; simp; omega
            have hw : Below wr.heap.size wr wA := by rw [hwA]; exact below_drewN (Below.refl _ _) nq
            have KS := Lib.hid (show Bk wA w.heap.size 36 [.int .i64 p, .slice A0 n0 c0, .slice A1 n1 c1, .int .i64 (a0 : Int), .int .i64 (a1 : Int)] by rw [hwA]; exact K0.out.drewN nq)
            have sl1 := KS.out.five.2.1
            have sl3 := KS.out.five.2.2.2.1
            have HCL := Lib.hid (show ∀ W, Below wr.heap.size wr W → Calls Tryd.prog 31 #[.slice A0 m0 c0] W (Fresh1 r0 W) from fun W hW => by
              have ho := ((HS0.out.below hbl).below hW).rd.front (k := m0) HMN0.out
              rw [← List.map_take, ← HRV0.out] at ho
              have := HMN0.out
              exact copyBytes_any A0 m0 c0 r0 W ho (by omega))
            have z2 : (m0 : Int) ≤ (c0 : Int) := by have := HMN0.out; have := HCAP0.out; omega
            have z3 : (0 : Int) ≤ (m0 : Int) := by omega
            clear hwA
            go_region_held3 (fun w' => w'.cell? ⟨w.heap.size, 1, none⟩ = some (.slice A0 n0 c0) ∧ w'.cell? ⟨w.heap.size, 3, none⟩ = some (.int .i64 (a0 : Int))) (first | go_keep | exact ⟨sl1, sl3⟩ | exact ⟨KS4.out.five.2.1, KS4.out.five.2.2.2.1⟩ | exact ⟨(KS4.out.far (p := ⟨w.heap.size + 1 + 1, 1, none⟩) (by simp <;> omega) _).five.2.1, (KS4.out.far (p := ⟨w.heap.size + 1 + 1, 1, none⟩) (by simp <;> omega) _).five.2.2.2.1⟩)
              (first
                | (go_at_call 31; with_reducible refine (HCL.out _ ?_).mono ?_
                   focus first | with_reducible exact hw | with_reducible exact below_drew hw
                   rintro e w4 ⟨A4, m4, c4, rfl, ho4, hb4⟩
                   have hm4 : m4 = m0 := by have := ho4.len; have := HRL0.out; omega
                   rw [hm4]
                   rw [hm4] at ho4
                   clear hm4
                   have H4 := Lib.hid (show ∃ base, OwnB w4 base A4 m0 c4 r0 ∧ wr.heap.size ≤ base ∧ Below wr.heap.size wr w4 from ⟨_, ho4, by first | exact hw.size | exact (below_drew hw).size, by first | exact below_next hw hb4 hw.size | exact below_next (below_drew hw) hb4 (below_drew hw).size⟩)
                   have k4 := KB.out.kept (by first | exact below_next hw hb4 hw.size | exact below_next (below_drew hw) hb4 (below_drew hw).size)
                   have KS4 : Hid (Bk w4 w.heap.size 36 [.int .i64 p, .slice A0 n0 c0, .slice A1 n1 c1, .int .i64 (a0 : Int), .int .i64 (a1 : Int)]) := Lib.hid (by first | exact KS.out.kept hb4 | exact bk_keptD KS.out hb4)
                   obtain ⟨t0, t1, t2, t3, t4⟩ := k4.five
                   have v1 := k4.frozen 1
                   have v2 := k4.frozen 2
                   have v3 := k4.frozen 3
                   have v4 := k4.frozen 4
                   clear ho4 hb4 k4))
            all_goals
              go_wp2_with fail
              obtain ⟨base, ho4, hbase, h4⟩ := H4.out
              have hcn := Lib.hid (rc_0 K0.out K1.out KB.out HO1.out hbl h4 ho4 hbase)
              go_roundw
              case rel => exact ⟨1, by omega, by go_num, by first | (have := hcn.out; simpa using this) | (have := hcn.out.drew; simpa using this)⟩
              case measure => simp [intOf]
        · have e0 := Lib.hid (hno (by omega) trivial)
          have hxd : decide ((n0 : Int) - (a0 : Int) < 0) = false := by simp; omega
          clear hno
          go_wp2_with fail
          go_quiet (fail)
          go_wp2_with fail
          obtain ⟨wA, hwA⟩ : ∃ wA, wA = (wr.drewN nq) := ⟨_, rfl⟩
          rw [← hwA]
          have em : (a0 : Int) = (m0 : Int) := by have := e0.out; omega
          have wK : IntKind.i64.wrap ((a0 : Int) + 0) = (m0 : Int) := by
            have := HMN0.out
            rw [Int.add_zero, em]
            simp only [IntKind.wrap, IntKind.bits, IntKind.signed]; simp; omega
          have wK2 : IntKind.i64.wrap (a0 : Int) = (m0 : Int) := by rw [← Int.add_zero (a0 : Int)]; exact wK
          clear em
          have hw : Below wr.heap.size wr wA := by rw [hwA]; exact below_drewN (Below.refl _ _) nq
          have KS := Lib.hid (show Bk wA w.heap.size 36 [.int .i64 p, .slice A0 n0 c0, .slice A1 n1 c1, .int .i64 (a0 : Int), .int .i64 (a1 : Int)] by rw [hwA]; exact K0.out.drewN nq)
          have sl1 := KS.out.five.2.1
          have sl3 := KS.out.five.2.2.2.1
          have HCL := Lib.hid (show ∀ W, Below wr.heap.size wr W → Calls Tryd.prog 31 #[.slice A0 m0 c0] W (Fresh1 r0 W) from fun W hW => by
            have ho := ((HS0.out.below hbl).below hW).rd.front (k := m0) HMN0.out
            rw [← List.map_take, ← HRV0.out] at ho
            have := HMN0.out
            exact copyBytes_any A0 m0 c0 r0 W ho (by omega))
          have z2 : (m0 : Int) ≤ (c0 : Int) := by have := HMN0.out; have := HCAP0.out; omega
          have z3 : (0 : Int) ≤ (m0 : Int) := by omega
          clear hwA
          go_region_held3 (fun w' => w'.cell? ⟨w.heap.size, 1, none⟩ = some (.slice A0 n0 c0) ∧ w'.cell? ⟨w.heap.size, 3, none⟩ = some (.int .i64 (a0 : Int))) (first | go_keep | exact ⟨sl1, sl3⟩ | exact ⟨KS4.out.five.2.1, KS4.out.five.2.2.2.1⟩ | exact ⟨(KS4.out.far (p := ⟨w.heap.size + 1 + 1, 1, none⟩) (by simp <;> omega) _).five.2.1, (KS4.out.far (p := ⟨w.heap.size + 1 + 1, 1, none⟩) (by simp <;> omega) _).five.2.2.2.1⟩)
            (first
              | (go_at_call 31; with_reducible refine (HCL.out _ ?_).mono ?_
                 focus first | with_reducible exact hw | with_reducible exact below_drew hw
                 rintro e w4 ⟨A4, m4, c4, rfl, ho4, hb4⟩
                 have hm4 : m4 = m0 := by have := ho4.len; have := HRL0.out; omega
                 rw [hm4]
                 rw [hm4] at ho4
                 clear hm4
                 have H4 := Lib.hid (show ∃ base, OwnB w4 base A4 m0 c4 r0 ∧ wr.heap.size ≤ base ∧ Below wr.heap.size wr w4 from ⟨_, ho4, by first | exact hw.size | exact (below_drew hw).size, by first | exact below_next hw hb4 hw.size | exact below_next (below_drew hw) hb4 (below_drew hw).size⟩)
                 have k4 := KB.out.kept (by first | exact below_next hw hb4 hw.size | exact below_next (below_drew hw) hb4 (below_drew hw).size)
                 have KS4 : Hid (Bk w4 w.heap.size 36 [.int .i64 p, .slice A0 n0 c0, .slice A1 n1 c1, .int .i64 (a0 : Int), .int .i64 (a1 : Int)]) := Lib.hid (by first | exact KS.out.kept hb4 | exact bk_keptD KS.out hb4)
                 obtain ⟨t0, t1, t2, t3, t4⟩ := k4.five
                 have v1 := k4.frozen 1
                 have v2 := k4.frozen 2
                 have v3 := k4.frozen 3
                 have v4 := k4.frozen 4
                 clear ho4 hb4 k4))
          all_goals
            go_wp2_with fail
            obtain ⟨base, ho4, hbase, h4⟩ := H4.out
            have hcn := Lib.hid (rc_0 K0.out K1.out KB.out HO1.out hbl h4 ho4 hbase)
            go_roundw
            case rel => exact ⟨1, by omega, by go_num, by first | (have := hcn.out; simpa using this) | (have := hcn.out.drew; simpa using this)⟩
            case measure => simp [intOf]
      · have y : ¬ (0 : Int) < (q : Int) := by omega
        have hx0 : x0 = 0 := by
          rw [HX0.out, List.getD, List.getElem?_eq_none (by rw [HKL.out]; omega)]; rfl
        have e0 := Lib.hid (hno (by omega) trivial)
        have hxd : decide ((n0 : Int) - (a0 : Int) < 0) = false := by simp; omega
        clear hno hn hx0
        go_wp2_with fail
        go_quiet (fail)
        go_wp2_with fail
        obtain ⟨wA, hwA⟩ : ∃ wA, wA = (wr.drewN nq) := ⟨_, rfl⟩
        rw [← hwA]
        have em : (a0 : Int) = (m0 : Int) := by have := e0.out; omega
        have wK : IntKind.i64.wrap ((a0 : Int) + 0) = (m0 : Int) := by
          have := HMN0.out
          rw [Int.add_zero, em]
          simp only [IntKind.wrap, IntKind.bits, IntKind.signed]; simp; omega
        have wK2 : IntKind.i64.wrap (a0 : Int) = (m0 : Int) := by rw [← Int.add_zero (a0 : Int)]; exact wK
        clear em
        have hw : Below wr.heap.size wr wA := by rw [hwA]; exact below_drewN (Below.refl _ _) nq
        have KS := Lib.hid (show Bk wA w.heap.size 36 [.int .i64 p, .slice A0 n0 c0, .slice A1 n1 c1, .int .i64 (a0 : Int), .int .i64 (a1 : Int)] by rw [hwA]; exact K0.out.drewN nq)
        have sl1 := KS.out.five.2.1
        have sl3 := KS.out.five.2.2.2.1
        have HCL := Lib.hid (show ∀ W, Below wr.heap.size wr W → Calls Tryd.prog 31 #[.slice A0 m0 c0] W (Fresh1 r0 W) from fun W hW => by
          have ho := ((HS0.out.below hbl).below hW).rd.front (k := m0) HMN0.out
          rw [← List.map_take, ← HRV0.out] at ho
          have := HMN0.out
          exact copyBytes_any A0 m0 c0 r0 W ho (by omega))
        have z2 : (m0 : Int) ≤ (c0 : Int) := by have := HMN0.out; have := HCAP0.out; omega
        have z3 : (0 : Int) ≤ (m0 : Int) := by omega
        clear hwA
        go_region_held3 (fun w' => w'.cell? ⟨w.heap.size, 1, none⟩ = some (.slice A0 n0 c0) ∧ w'.cell? ⟨w.heap.size, 3, none⟩ = some (.int .i64 (a0 : Int))) (first | go_keep | exact ⟨sl1, sl3⟩ | exact ⟨KS4.out.five.2.1, KS4.out.five.2.2.2.1⟩ | exact ⟨(KS4.out.far (p := ⟨w.heap.size + 1 + 1, 1, none⟩) (by simp <;> omega) _).five.2.1, (KS4.out.far (p := ⟨w.heap.size + 1 + 1, 1, none⟩) (by simp <;> omega) _).five.2.2.2.1⟩)
          (first
            | (go_at_call 31; with_reducible refine (HCL.out _ ?_).mono ?_
               focus first | with_reducible exact hw | with_reducible exact below_drew hw
               rintro e w4 ⟨A4, m4, c4, rfl, ho4, hb4⟩
               have hm4 : m4 = m0 := by have := ho4.len; have := HRL0.out; omega
               rw [hm4]
               rw [hm4] at ho4
               clear hm4
               have H4 := Lib.hid (show ∃ base, OwnB w4 base A4 m0 c4 r0 ∧ wr.heap.size ≤ base ∧ Below wr.heap.size wr w4 from ⟨_, ho4, by first | exact hw.size | exact (below_drew hw).size, by first | exact below_next hw hb4 hw.size | exact below_next (below_drew hw) hb4 (below_drew hw).size⟩)
               have k4 := KB.out.kept (by first | exact below_next hw hb4 hw.size | exact below_next (below_drew hw) hb4 (below_drew hw).size)
               have KS4 : Hid (Bk w4 w.heap.size 36 [.int .i64 p, .slice A0 n0 c0, .slice A1 n1 c1, .int .i64 (a0 : Int), .int .i64 (a1 : Int)]) := Lib.hid (by first | exact KS.out.kept hb4 | exact bk_keptD KS.out hb4)
               obtain ⟨t0, t1, t2, t3, t4⟩ := k4.five
               have v1 := k4.frozen 1
               have v2 := k4.frozen 2
               have v3 := k4.frozen 3
               have v4 := k4.frozen 4
               clear ho4 hb4 k4))
        all_goals
          go_wp2_with fail
          obtain ⟨base, ho4, hbase, h4⟩ := H4.out
          have hcn := Lib.hid (rc_0 K0.out K1.out KB.out HO1.out hbl h4 ho4 hbase)
          go_roundw
          case rel => exact ⟨1, by omega, by go_num, by first | (have := hcn.out; simpa using this) | (have := hcn.out.drew; simpa using this)⟩
          case measure => simp [intOf]
    · have hcr : RCr w [.int .i64 p, .slice A0 n0 c0, .slice A1 n1 c1, .int .i64 (a0 : Int), .int .i64 (a1 : Int)] [.int .i64 0, .slice none 0 0, .slice none 0 0, .int .i64 0, .int .i64 0] pw r0 [] wr := by simpa using hcr
      obtain ⟨B0, p0, e0, B1, p1, e1, k0, k1, kb, ho0, ho1, hbl⟩ := hcr
      have KB := Lib.hid kb
      have K0 := Lib.hid k0
      have K1 := Lib.hid k1
      have HO0 := Lib.hid ho0
      have HO1 := Lib.hid ho1
      obtain ⟨q0, q1, q2, q3, q4⟩ := k0.five
      have wa : IntKind.i64.wrap ((n1 : Int) - (a1 : Int)) = (n1 : Int) - (a1 : Int) := by simp only [IntKind.wrap, IntKind.bits, IntKind.signed]; simp; omega
      clear ho0 ho1 kb k0 k1
      have hno : x1 ≤ 0 → ∀ (z : True), m1 = a1 := fun hx _ => by have := HLV1.out; omega
      by_cases hn : 1 < q
      · have y : (1 : Int) < (q : Int) := by omega
        obtain ⟨a, rfl, hal, hc⟩ := (HRD.out.below hbl).at_ hn
        have gx : (ks.map iv).getD 1 undef = .int .i64 x1 := by
          rw [HX1.out]
          have : 1 < ks.length := by rw [HKL.out]; exact hn
          simp [iv, List.getD, this]
        rw [gx] at hc
        replace hc : wr.cell? ⟨a.block, a.off + 1, none⟩ = some (.int .i64 x1) := by simpa [Addr.add] using hc
        clear gx hn
        by_cases hx : 0 < x1
        · by_cases hx2 : (n1 : Int) - (a1 : Int) < x1
          · have hxd : decide ((n1 : Int) - (a1 : Int) < x1) = true := by simpa using hx2
            clear hno
            go_wp2_with fail
            go_quiet (fail)
            rename Nat => nq1
            go_wp2_with fail
            go_quiet (fail)
            go_wp2_with fail
            obtain ⟨wA, hwA⟩ : ∃ wA, wA = ((wr.drewN nq1).drewN nq) := ⟨_, rfl⟩
            rw [← hwA]
            have wK : IntKind.i64.wrap ((a1 : Int) + ((n1 : Int) - (a1 : Int))) = (m1 : Int) := by
              have := HLV1.out
              have := HMN1.out
              have e : (a1 : Int) + ((n1 : Int) - (a1 : Int)) = (m1 : Int) := by omega
              rw [e]
              simp only [IntKind.wrap, IntKind.bits, IntKind.signed]; simp; omega
            have hw : Below wr.heap.size wr wA := by rw [hwA]; exact below_drewN (below_drewN (Below.refl _ _) nq1) nq
            have KS := Lib.hid (show Bk wA w.heap.size 36 [.int .i64 p, .slice A0 n0 c0, .slice A1 n1 c1, .int .i64 (a0 : Int), .int .i64 (a1 : Int)] by rw [hwA]; exact (K0.out.drewN nq1).drewN nq)
            have sl1 := KS.out.five.2.2.1
            have sl3 := KS.out.five.2.2.2.2
            have HCL := Lib.hid (show ∀ W, Below wr.heap.size wr W → Calls Tryd.prog 31 #[.slice A1 m1 c1] W (Fresh1 r1 W) from fun W hW => by
              have ho := ((HS1.out.below hbl).below hW).rd.front (k := m1) HMN1.out
              rw [← List.map_take, ← HRV1.out] at ho
              have := HMN1.out
              exact copyBytes_any A1 m1 c1 r1 W ho (by omega))
            have z2 : (m1 : Int) ≤ (c1 : Int) := by have := HMN1.out; have := HCAP1.out; omega
            have z3 : (0 : Int) ≤ (m1 : Int) := by omega
            clear hwA
            go_region_held3 (fun w' => w'.cell? ⟨w.heap.size, 2, none⟩ = some (.slice A1 n1 c1) ∧ w'.cell? ⟨w.heap.size, 4, none⟩ = some (.int .i64 (a1 : Int))) (first | go_keep | exact ⟨sl1, sl3⟩ | exact ⟨KS4.out.five.2.2.1, KS4.out.five.2.2.2.2⟩ | exact ⟨(KS4.out.far (p := ⟨w.heap.size + 1 + 1, 2, none⟩) (by simp <;> omega) _).five.2.2.1, (KS4.out.far (p := ⟨w.heap.size + 1 + 1, 2, none⟩) (by simp <;> omega) _).five.2.2.2.2⟩)
              (first
                | (go_at_call 31; with_reducible refine (HCL.out _ ?_).mono ?_
                   focus first | with_reducible exact hw | with_reducible exact below_drew hw
                   rintro e w4 ⟨A4, m4, c4, rfl, ho4, hb4⟩
                   have hm4 : m4 = m1 := by have := ho4.len; have := HRL1.out; omega
                   rw [hm4]
                   rw [hm4] at ho4
                   clear hm4
                   have H4 := Lib.hid (show ∃ base, OwnB w4 base A4 m1 c4 r1 ∧ wr.heap.size ≤ base ∧ Below wr.heap.size wr w4 from ⟨_, ho4, by first | exact hw.size | exact (below_drew hw).size, by first | exact below_next hw hb4 hw.size | exact below_next (below_drew hw) hb4 (below_drew hw).size⟩)
                   have k4 := KB.out.kept (by first | exact below_next hw hb4 hw.size | exact below_next (below_drew hw) hb4 (below_drew hw).size)
                   have KS4 : Hid (Bk w4 w.heap.size 36 [.int .i64 p, .slice A0 n0 c0, .slice A1 n1 c1, .int .i64 (a0 : Int), .int .i64 (a1 : Int)]) := Lib.hid (by first | exact KS.out.kept hb4 | exact bk_keptD KS.out hb4)
                   obtain ⟨t0, t1, t2, t3, t4⟩ := k4.five
                   have v1 := k4.frozen 1
                   have v2 := k4.frozen 2
                   have v3 := k4.frozen 3
                   have v4 := k4.frozen 4
                   clear ho4 hb4 k4))
            all_goals
              go_wp2_with fail
              obtain ⟨base, ho4, hbase, h4⟩ := H4.out
              have hcn := Lib.hid (rc_1 K0.out K1.out KB.out HO0.out hbl h4 ho4 hbase)
              go_roundw
              case rel => exact ⟨2, by omega, by go_num, by first | (have := hcn.out; simpa using this) | (have := hcn.out.drew; simpa using this)⟩
              case measure => simp [intOf]
          · have hxd : decide ((n1 : Int) - (a1 : Int) < x1) = false := by simpa using hx2
            clear hno
            go_wp2_with fail
            go_quiet (fail)
            go_wp2_with fail
            obtain ⟨wA, hwA⟩ : ∃ wA, wA = (wr.drewN nq) := ⟨_, rfl⟩
            rw [← hwA]
            have wK : IntKind.i64.wrap ((a1 : Int) + x1) = (m1 : Int) := by
              have := HLV1.out
              have := HMN1.out
              have e : (a1 : Int) + x1 = (m1 : Int) := by omega
              rw [e]
              simp only [IntKind.wrap, IntKind.bits, IntKind.signed]; simp; omega
            have hw : Below wr.heap.size wr wA := by rw [hwA]; exact below_drewN (Below.refl _ _) nq
            have KS := Lib.hid (show Bk wA w.heap.size 36 [.int .i64 p, .slice A0 n0 c0, .slice A1 n1 c1, .int .i64 (a0 : Int), .int .i64 (a1 : Int)] by rw [hwA]; exact K0.out.drewN nq)
            have sl1 := KS.out.five.2.2.1
            have sl3 := KS.out.five.2.2.2.2
            have HCL := Lib.hid (show ∀ W, Below wr.heap.size wr W → Calls Tryd.prog 31 #[.slice A1 m1 c1] W (Fresh1 r1 W) from fun W hW => by
              have ho := ((HS1.out.below hbl).below hW).rd.front (k := m1) HMN1.out
              rw [← List.map_take, ← HRV1.out] at ho
              have := HMN1.out
              exact copyBytes_any A1 m1 c1 r1 W ho (by omega))
            have z2 : (m1 : Int) ≤ (c1 : Int) := by have := HMN1.out; have := HCAP1.out; omega
            have z3 : (0 : Int) ≤ (m1 : Int) := by omega
            clear hwA
            go_region_held3 (fun w' => w'.cell? ⟨w.heap.size, 2, none⟩ = some (.slice A1 n1 c1) ∧ w'.cell? ⟨w.heap.size, 4, none⟩ = some (.int .i64 (a1 : Int))) (first | go_keep | exact ⟨sl1, sl3⟩ | exact ⟨KS4.out.five.2.2.1, KS4.out.five.2.2.2.2⟩ | exact ⟨(KS4.out.far (p := ⟨w.heap.size + 1 + 1, 2, none⟩) (by simp <;> omega) _).five.2.2.1, (KS4.out.far (p := ⟨w.heap.size + 1 + 1, 2, none⟩) (by simp <;> omega) _).five.2.2.2.2⟩)
              (first
                | (go_at_call 31; with_reducible refine (HCL.out _ ?_).mono ?_
                   focus first | with_reducible exact hw | with_reducible exact below_drew hw
                   rintro e w4 ⟨A4, m4, c4, rfl, ho4, hb4⟩
                   have hm4 : m4 = m1 := by have := ho4.len; have := HRL1.out; omega
                   rw [hm4]
                   rw [hm4] at ho4
                   clear hm4
                   have H4 := Lib.hid (show ∃ base, OwnB w4 base A4 m1 c4 r1 ∧ wr.heap.size ≤ base ∧ Below wr.heap.size wr w4 from ⟨_, ho4, by first | exact hw.size | exact (below_drew hw).size, by first | exact below_next hw hb4 hw.size | exact below_next (below_drew hw) hb4 (below_drew hw).size⟩)
                   have k4 := KB.out.kept (by first | exact below_next hw hb4 hw.size | exact below_next (below_drew hw) hb4 (below_drew hw).size)
                   have KS4 : Hid (Bk w4 w.heap.size 36 [.int .i64 p, .slice A0 n0 c0, .slice A1 n1 c1, .int .i64 (a0 : Int), .int .i64 (a1 : Int)]) := Lib.hid (by first | exact KS.out.kept hb4 | exact bk_keptD KS.out hb4)
                   obtain ⟨t0, t1, t2, t3, t4⟩ := k4.five
                   have v1 := k4.frozen 1
                   have v2 := k4.frozen 2
                   have v3 := k4.frozen 3
                   have v4 := k4.frozen 4
                   clear ho4 hb4 k4))
            all_goals
              go_wp2_with fail
              obtain ⟨base, ho4, hbase, h4⟩ := H4.out
              have hcn := Lib.hid (rc_1 K0.out K1.out KB.out HO0.out hbl h4 ho4 hbase)
              go_roundw
              case rel => exact ⟨2, by omega, by go_num, by first | (have := hcn.out; simpa using this) | (have := hcn.out.drew; simpa using this)⟩
              case measure => simp [intOf]
        · have e0 := Lib.hid (hno (by omega) trivial)
          have hxd : decide ((n1 : Int) - (a1 : Int) < 0) = false := by simp; omega
          clear hno
          go_wp2_with fail
          go_quiet (fail)
          go_wp2_with fail
          obtain ⟨wA, hwA⟩ : ∃ wA, wA = (wr.drewN nq) := ⟨_, rfl⟩
          rw [← hwA]
          have em : (a1 : Int) = (m1 : Int) := by have := e0.out; omega
          have wK : IntKind.i64.wrap ((a1 : Int) + 0) = (m1 : Int) := by
            have := HMN1.out
            rw [Int.add_zero, em]
            simp only [IntKind.wrap, IntKind.bits, IntKind.signed]; simp; omega
          have wK2 : IntKind.i64.wrap (a1 : Int) = (m1 : Int) := by rw [← Int.add_zero (a1 : Int)]; exact wK
          clear em
          have hw : Below wr.heap.size wr wA := by rw [hwA]; exact below_drewN (Below.refl _ _) nq
          have KS := Lib.hid (show Bk wA w.heap.size 36 [.int .i64 p, .slice A0 n0 c0, .slice A1 n1 c1, .int .i64 (a0 : Int), .int .i64 (a1 : Int)] by rw [hwA]; exact K0.out.drewN nq)
          have sl1 := KS.out.five.2.2.1
          have sl3 := KS.out.five.2.2.2.2
          have HCL := Lib.hid (show ∀ W, Below wr.heap.size wr W → Calls Tryd.prog 31 #[.slice A1 m1 c1] W (Fresh1 r1 W) from fun W hW => by
            have ho := ((HS1.out.below hbl).below hW).rd.front (k := m1) HMN1.out
            rw [← List.map_take, ← HRV1.out] at ho
            have := HMN1.out
            exact copyBytes_any A1 m1 c1 r1 W ho (by omega))
          have z2 : (m1 : Int) ≤ (c1 : Int) := by have := HMN1.out; have := HCAP1.out; omega
          have z3 : (0 : Int) ≤ (m1 : Int) := by omega
          clear hwA
          go_region_held3 (fun w' => w'.cell? ⟨w.heap.size, 2, none⟩ = some (.slice A1 n1 c1) ∧ w'.cell? ⟨w.heap.size, 4, none⟩ = some (.int .i64 (a1 : Int))) (first | go_keep | exact ⟨sl1, sl3⟩ | exact ⟨KS4.out.five.2.2.1, KS4.out.five.2.2.2.2⟩ | exact ⟨(KS4.out.far (p := ⟨w.heap.size + 1 + 1, 2, none⟩) (by simp <;> omega) _).five.2.2.1, (KS4.out.far (p := ⟨w.heap.size + 1 + 1, 2, none⟩) (by simp <;> omega) _).five.2.2.2.2⟩)
            (first
              | (go_at_call 31; with_reducible refine (HCL.out _ ?_).mono ?_
                 focus first | with_reducible exact hw | with_reducible exact below_drew hw
                 rintro e w4 ⟨A4, m4, c4, rfl, ho4, hb4⟩
                 have hm4 : m4 = m1 := by have := ho4.len; have := HRL1.out; omega
                 rw [hm4]
                 rw [hm4] at ho4
                 clear hm4
                 have H4 := Lib.hid (show ∃ base, OwnB w4 base A4 m1 c4 r1 ∧ wr.heap.size ≤ base ∧ Below wr.heap.size wr w4 from ⟨_, ho4, by first | exact hw.size | exact (below_drew hw).size, by first | exact below_next hw hb4 hw.size | exact below_next (below_drew hw) hb4 (below_drew hw).size⟩)
                 have k4 := KB.out.kept (by first | exact below_next hw hb4 hw.size | exact below_next (below_drew hw) hb4 (below_drew hw).size)
                 have KS4 : Hid (Bk w4 w.heap.size 36 [.int .i64 p, .slice A0 n0 c0, .slice A1 n1 c1, .int .i64 (a0 : Int), .int .i64 (a1 : Int)]) := Lib.hid (by first | exact KS.out.kept hb4 | exact bk_keptD KS.out hb4)
                 obtain ⟨t0, t1, t2, t3, t4⟩ := k4.five
                 have v1 := k4.frozen 1
                 have v2 := k4.frozen 2
                 have v3 := k4.frozen 3
                 have v4 := k4.frozen 4
                 clear ho4 hb4 k4))
          all_goals
            go_wp2_with fail
            obtain ⟨base, ho4, hbase, h4⟩ := H4.out
            have hcn := Lib.hid (rc_1 K0.out K1.out KB.out HO0.out hbl h4 ho4 hbase)
            go_roundw
            case rel => exact ⟨2, by omega, by go_num, by first | (have := hcn.out; simpa using this) | (have := hcn.out.drew; simpa using this)⟩
            case measure => simp [intOf]
      · have y : ¬ (1 : Int) < (q : Int) := by omega
        have hx0 : x1 = 0 := by
          rw [HX1.out, List.getD, List.getElem?_eq_none (by rw [HKL.out]; omega)]; rfl
        have e0 := Lib.hid (hno (by omega) trivial)
        have hxd : decide ((n1 : Int) - (a1 : Int) < 0) = false := by simp; omega
        clear hno hn hx0
        go_wp2_with fail
        go_quiet (fail)
        go_wp2_with fail
        obtain ⟨wA, hwA⟩ : ∃ wA, wA = (wr.drewN nq) := ⟨_, rfl⟩
        rw [← hwA]
        have em : (a1 : Int) = (m1 : Int) := by have := e0.out; omega
        have wK : IntKind.i64.wrap ((a1 : Int) + 0) = (m1 : Int) := by
          have := HMN1.out
          rw [Int.add_zero, em]
          simp only [IntKind.wrap, IntKind.bits, IntKind.signed]; simp; omega
        have wK2 : IntKind.i64.wrap (a1 : Int) = (m1 : Int) := by rw [← Int.add_zero (a1 : Int)]; exact wK
        clear em
        have hw : Below wr.heap.size wr wA := by rw [hwA]; exact below_drewN (Below.refl _ _) nq
        have KS := Lib.hid (show Bk wA w.heap.size 36 [.int .i64 p, .slice A0 n0 c0, .slice A1 n1 c1, .int .i64 (a0 : Int), .int .i64 (a1 : Int)] by rw [hwA]; exact K0.out.drewN nq)
        have sl1 := KS.out.five.2.2.1
        have sl3 := KS.out.five.2.2.2.2
        have HCL := Lib.hid (show ∀ W, Below wr.heap.size wr W → Calls Tryd.prog 31 #[.slice A1 m1 c1] W (Fresh1 r1 W) from fun W hW => by
          have ho := ((HS1.out.below hbl).below hW).rd.front (k := m1) HMN1.out
          rw [← List.map_take, ← HRV1.out] at ho
          have := HMN1.out
          exact copyBytes_any A1 m1 c1 r1 W ho (by omega))
        have z2 : (m1 : Int) ≤ (c1 : Int) := by have := HMN1.out; have := HCAP1.out; omega
        have z3 : (0 : Int) ≤ (m1 : Int) := by omega
        clear hwA
        go_region_held3 (fun w' => w'.cell? ⟨w.heap.size, 2, none⟩ = some (.slice A1 n1 c1) ∧ w'.cell? ⟨w.heap.size, 4, none⟩ = some (.int .i64 (a1 : Int))) (first | go_keep | exact ⟨sl1, sl3⟩ | exact ⟨KS4.out.five.2.2.1, KS4.out.five.2.2.2.2⟩ | exact ⟨(KS4.out.far (p := ⟨w.heap.size + 1 + 1, 2, none⟩) (by simp <;> omega) _).five.2.2.1, (KS4.out.far (p := ⟨w.heap.size + 1 + 1, 2, none⟩) (by simp <;> omega) _).five.2.2.2.2⟩)
          (first
            | (go_at_call 31; with_reducible refine (HCL.out _ ?_).mono ?_
               focus first | with_reducible exact hw | with_reducible exact below_drew hw
               rintro e w4 ⟨A4, m4, c4, rfl, ho4, hb4⟩
               have hm4 : m4 = m1 := by have := ho4.len; have := HRL1.out; omega
               rw [hm4]
               rw [hm4] at ho4
               clear hm4
               have H4 := Lib.hid (show ∃ base, OwnB w4 base A4 m1 c4 r1 ∧ wr.heap.size ≤ base ∧ Below wr.heap.size wr w4 from ⟨_, ho4, by first | exact hw.size | exact (below_drew hw).size, by first | exact below_next hw hb4 hw.size | exact below_next (below_drew hw) hb4 (below_drew hw).size⟩)
               have k4 := KB.out.kept (by first | exact below_next hw hb4 hw.size | exact below_next (below_drew hw) hb4 (below_drew hw).size)
               have KS4 : Hid (Bk w4 w.heap.size 36 [.int .i64 p, .slice A0 n0 c0, .slice A1 n1 c1, .int .i64 (a0 : Int), .int .i64 (a1 : Int)]) := Lib.hid (by first | exact KS.out.kept hb4 | exact bk_keptD KS.out hb4)
               obtain ⟨t0, t1, t2, t3, t4⟩ := k4.five
               have v1 := k4.frozen 1
               have v2 := k4.frozen 2
               have v3 := k4.frozen 3
               have v4 := k4.frozen 4
               clear ho4 hb4 k4))
        all_goals
          go_wp2_with fail
          obtain ⟨base, ho4, hbase, h4⟩ := H4.out
          have hcn := Lib.hid (rc_1 K0.out K1.out KB.out HO0.out hbl h4 ho4 hbase)
          go_roundw
          case rel => exact ⟨2, by omega, by go_num, by first | (have := hcn.out; simpa using this) | (have := hcn.out.drew; simpa using this)⟩
          case measure => simp [intOf]
    · have hcr : RCr w [.int .i64 p, .slice A0 n0 c0, .slice A1 n1 c1, .int .i64 (a0 : Int), .int .i64 (a1 : Int)] [.int .i64 0, .slice none 0 0, .slice none 0 0, .int .i64 0, .int .i64 0] pw r0 r1 wr := by simpa using hcr
      obtain ⟨B0, p0, e0, B1, p1, e1, k0, k1, kb, ho0, ho1, hbl⟩ := hcr
      have KB := Lib.hid kb
      have K1 := Lib.hid k1
      have HO0 := Lib.hid ho0
      have HO1 := Lib.hid ho1
      have HBL := Lib.hid hbl
      obtain ⟨t0, t1, t2, t3, t4⟩ := kb.five
      obtain ⟨q0, q1, q2, q3, q4⟩ := k1.five
      have u0 := k1.frozen 0
      have u1 := k1.frozen 1
      have u2 := k1.frozen 2
      have u3 := k1.frozen 3
      have u4 := k1.frozen 4
      clear k0 k1 kb ho0 ho1 hbl
      go_wp2_with fail
      have hbF := five_below (g := w.heap.size + 1) HBL.out (Nat.le_succ _) (.int .i64 pw) (.slice B0 p0 e0) (.slice B1 p1 e1) (.int .i64 (r0.length : Int)) (.int .i64 (r1.length : Int))
      have kF := five_set K1.out (.int .i64 pw) (.slice B0 p0 e0) (.slice B1 p1 e1) (.int .i64 (r0.length : Int)) (.int .i64 (r1.length : Int))
      have hgr := grown_set (grown_set (grown_set (grown_set (grown_set (grown_refl wr (some (w.heap.size + 1))) 0 (.int .i64 pw)) 1 (.slice B0 p0 e0)) 2 (.slice B1 p1 e1)) 3 (.int .i64 (r0.length : Int))) 4 (.int .i64 (r1.length : Int))
      refine bodyPost_ret_by (results_row1 rfl _ _ (w.heap.size + 1) 36 _ _ rfl kF Tryd.underlying36 rfl info_disk) rfl ?_
      exact ⟨B0, p0, e0, B1, p1, e1, rfl, HO0.out.off K1.out (by decide) hgr, HO1.out.off K1.out (by decide) hgr, hbF⟩
theorem DiskS.behind {A0 A1 : Option Addr} {r : PD × Int} {W w w' : World} {e : Ending} (hW : Below W.heap.size W w) (h : DiskS A0 A1 r w e w') : DiskS A0 A1 r W e w' := by
  obtain ⟨B0, n0, c0, B1, n1, c1, he, h0, h1, hb, f0, f1⟩ := h
  exact ⟨B0, n0, c0, B1, n1, c1, he, h0, h1, below_next hW hb hW.size, f0.imp id (fun f a e => ⟨Nat.le_trans hW.size (f a e).1, (f a e).2⟩), f1.imp id (fun f a e => ⟨Nat.le_trans hW.size (f a e).1, (f a e).2⟩)⟩
end Go.Proofs.YtmiejaohkgemnaaDoor
