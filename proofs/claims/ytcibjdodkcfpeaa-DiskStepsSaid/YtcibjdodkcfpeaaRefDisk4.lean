/-
  The document's own disk: Sync. Walks; no statement.
-/
import Derived.Test.YtcibjdodkcfpeaaRefDisk3
import Derived.Test.YtcibjdodkcfpeaaDiskSync
import Derived.RegionTactic
import Derived.ChangeAlike
namespace Go.Proofs.Ytcibjdodkcfpeaa
open Go.RowKit
set_option linter.unusedVariables false

def pick (b : Bool) (n s : Int) : Int := if b then n else s
/-- how the loop that marks the areas stands -/
def RMark (wX : World) (g : Nat) (v0 v1 v2 : Value) (n0 n1 s0 s1 : Int) (ar : List Int) (k : Nat) (wr : World) : Prop :=
  Bk wr g 32 [v0, v1, v2, .int .i64 (pick ((ar.take k).contains 0) n0 s0), .int .i64 (pick ((ar.take k).contains 1) n1 s1)] ∧ wX.grownBy wr (some g)
theorem contains_next (ar : List Int) (k : Nat) (h : k < ar.length) (v : Int) : (ar.take (k + 1)).contains v = ((ar.take k).contains v || v == ar[k]) := has_next ar v k h
theorem pick_hit (ar : List Int) (k : Nat) (h : k < ar.length) (v n s : Int) (e : v = ar[k]) : pick ((ar.take (k + 1)).contains v) n s = n := by
  rw [contains_next ar k h v]
  simp [e, pick]
theorem pick_miss (ar : List Int) (k : Nat) (h : k < ar.length) (v n s : Int) (e : v ≠ ar[k]) : pick ((ar.take (k + 1)).contains v) n s = pick ((ar.take k).contains v) n s := by
  rw [contains_next ar k h v]
  simp [e, pick]
set_option maxHeartbeats 3200000 in
theorem refSync_ok (p s0 s1 : Int) (A0 A1 : Option Addr) (n0 c0 n1 c1 : Nat) (l0 l1 : List UInt8) (C : Option Addr) (q qc : Nat) (ar : List Int) (w : World) (h0 : Sl w A0 n0 c0 l0) (h1 : Sl w A1 n1 c1 l1) (hC : Rd w C q (ar.map iv)) (hq : q ≤ maxLen) (hp : -9223372036854775808 ≤ p ∧ p ≤ 9223372036854775807) (hall : ar.all known = true) (hz : p ≠ 0) :
    Calls Try.prog 28 #[.agg #[.int .i64 p, .slice A0 n0 c0, .slice A1 n1 c1, .int .i64 s0, .int .i64 s1], .slice C q qc] w (DiskS A0 A1 (PD.sync ⟨p, l0, l1, s0, s1⟩ ar) w) := by
  have hb := ((Below.refl w.heap.size w).alloc (Nat.le_refl _) (.cells #[.int .i64 p, .slice A0 n0 c0, .slice A1 n1 c1, .int .i64 s0, .int .i64 s1] 32)).alloc (by simp) (.cells #[.int .i64 0, .slice none 0 0, .slice none 0 0, .int .i64 0, .int .i64 0] 32)
  have HB2 := Lib.hid hb
  have hlq : ar.length = q := by simpa using hC.1
  have HQL0 := Lib.hid hlq
  have HS0 := Lib.hid h0
  have HS1 := Lib.hid h1
  have HL0 := Lib.hid h0.len
  have HL1 := Lib.hid h1.len
  have HRC := Lib.hid hC
  have HALL := Lib.hid hall
  have HQM := Lib.hid hq
  have hm0 : n0 ≤ maxLen := Nat.le_trans h0.1 h0.2.1
  have hm1 : n1 ≤ maxLen := Nat.le_trans h1.1 h1.2.1
  unfold maxLen at hm0 hm1
  have HKB := Lib.hid ((Bk.new w 32 [.int .i64 p, .slice A0 n0 c0, .slice A1 n1 c1, .int .i64 s0, .int .i64 s1]).alloc (.cells #[.int .i64 0, .slice none 0 0, .slice none 0 0, .int .i64 0, .int .i64 0] 32))
  have HKZ := Lib.hid (bk_new2 w (.cells #[.int .i64 p, .slice A0 n0 c0, .slice A1 n1 c1, .int .i64 s0, .int .i64 s1] 32) [.int .i64 0, .slice none 0 0, .slice none 0 0, .int .i64 0, .int .i64 0] 32)
  obtain ⟨wB, hwB⟩ : ∃ wB, wB = ((w.alloc (.cells #[.int .i64 p, .slice A0 n0 c0, .slice A1 n1 c1, .int .i64 s0, .int .i64 s1] 32)).alloc (.cells #[.int .i64 0, .slice none 0 0, .slice none 0 0, .int .i64 0, .int .i64 0] 32)) := ⟨_, rfl⟩
  have HAR := Lib.hid (fun a => refArea a wB)
  have HD := Lib.hid (fun w => refDraw p s0 s1 A0 A1 n0 c0 n1 c1 w hp)
  have HE := Lib.hid (show (if p = 0 then (40 : Int) else 0) = 0 by simp [hz])
  have HR := Lib.hid (sync_eq ⟨p, l0, l1, s0, s1⟩ ar hall hz)
  rw [HR.out]
  obtain ⟨dp, hdp⟩ : ∃ dp, dp = drawn p := ⟨_, rfl⟩
  obtain ⟨Q0, hQ0⟩ : ∃ Q0 : PD, Q0 = ⟨drawn p, l0, l1, if told ar 0 then l0.length else s0, if told ar 1 then l1.length else s1⟩ := ⟨_, rfl⟩
  rw [← hQ0]
  rw [← hdp] at HD hQ0
  have HQ0 := Lib.hid hQ0
  have HWB := Lib.hid hwB
  clear h0 h1 hb hC hall hz hdp hQ0 hlq hwB HR
  have hqm : q ≤ maxLen := HQM.out
  unfold maxLen at hqm
  go_enter Try.func28, Try.ntmps28
  go_wp2_with fail
  rw [← HWB.out]
  go_loop [6] (fun i => ∃ k : Nat, k ≤ q ∧ i = .int .i64 k) (fun i => q - (intOf i).toNat)
  case atStart => exact ⟨0, Nat.zero_le _, rfl⟩
  case round =>
    obtain ⟨k, hk, rfl⟩ := hrel
    by_cases hkq : k < q
    · have hrb : Rd wB C q (ar.map iv) := HRC.out.below (by rw [HWB.out]; exact HB2.out)
      obtain ⟨x, rfl, _, hc⟩ := hrb.at_ hkq
      have hkl : k < ar.length := by rw [HQL0.out]; exact hkq
      have gx : (ar.map iv).getD k undef = .int .i64 (ar[k]'hkl) := by simp [iv, hkl]
      rw [gx] at hc
      have hkn : known (ar[k]'hkl) = true := List.all_eq_true.1 HALL.out _ (List.getElem_mem hkl)
      generalize ar[k]'hkl = z at *
      have HAZ := Lib.hid (HAR.out z)
      rw [hkn] at HAZ
      have y1 : (0 : Int) ≤ (k : Int) := by omega
      have y2 : (k : Int) < (q : Int) := by omega
      have HKQ := Lib.hid hkq
      clear gx hkn hkq hk hkl hrb
      go_wp2_with fail
      refine HAZ.out.mono ?_
      rintro e w1 ⟨rfl, rfl⟩
      go_wp2_with fail
      go_round
      case rel => exact ⟨k + 1, by have := HKQ.out; omega, by go_num⟩
      case measure => have := HKQ.out; simp [intOf]; omega
    · have y2 : ¬ (k : Int) < (q : Int) := by omega
      have kb := (show Bk wB w.heap.size 32 [.int .i64 p, .slice A0 n0 c0, .slice A1 n1 c1, .int .i64 s0, .int .i64 s1] by rw [HWB.out]; exact HKB.out)
      have kz := (show Bk wB (w.heap.size + 1) 32 [.int .i64 0, .slice none 0 0, .slice none 0 0, .int .i64 0, .int .i64 0] by rw [HWB.out]; exact HKZ.out)
      have hbB : Below w.heap.size w wB := by rw [HWB.out]; exact HB2.out
      obtain ⟨q0, q1, q2, q3, q4⟩ := kb.five
      have v0 := kb.frozen 0
      have v1 := kb.frozen 1
      have v2 := kb.frozen 2
      have v3 := kb.frozen 3
      have v4 := kb.frozen 4
      have HKB1 := Lib.hid kb
      have HKZ1 := Lib.hid kz
      have HBB := Lib.hid hbB
      have HSB := Lib.hid (show w.heap.size + 2 ≤ wB.heap.size by rw [HWB.out]; simp)
      clear kb kz hbB hkq hk
      go_wp2_with fail
      refine (HD.out _).mono ?_
      rintro e w1 ⟨rfl, hbb⟩
      rw [HE.out]
      have kb := HKB1.out.kept hbb
      have kz := HKZ1.out.kept hbb
      have HBX := Lib.hid (five_below (g := w.heap.size) (below_next HBB.out hbb HBB.out.size) (Nat.le_refl _) (.int .i64 dp) (.slice A0 n0 c0) (.slice A1 n1 c1) (.int .i64 s0) (.int .i64 s1))
      have HKBX := Lib.hid (five_set kb (.int .i64 dp) (.slice A0 n0 c0) (.slice A1 n1 c1) (.int .i64 s0) (.int .i64 s1))
      have HKZX := Lib.hid (kz.five_far (show w.heap.size + 1 ≠ w.heap.size by omega) (.int .i64 dp) (.slice A0 n0 c0) (.slice A1 n1 c1) (.int .i64 s0) (.int .i64 s1))
      clear q0 q1 q2 q3 q4 v0 v1 v2 v3 v4
      obtain ⟨q0, q1, q2, q3, q4⟩ := kb.five
      have v0 := kb.frozen 0
      have v1 := kb.frozen 1
      have v2 := kb.frozen 2
      have v3 := kb.frozen 3
      have v4 := kb.frozen 4
      have HSZ1 := Lib.hid (show w.heap.size + 2 ≤ w1.heap.size from Nat.le_trans HSB.out hbb.size)
      have HSX5 := Lib.hid (show (((((((w1.setCell ⟨w.heap.size, 0, none⟩ (.int .i64 dp)).setCell ⟨w.heap.size, 1, none⟩ (.slice A0 n0 c0)).setCell ⟨w.heap.size, 2, none⟩ (.slice A1 n1 c1)).setCell ⟨w.heap.size, 3, none⟩ (.int .i64 s0)).setCell ⟨w.heap.size, 4, none⟩ (.int .i64 s1)))).heap.size = w1.heap.size by simp)
      by_cases hq0 : q = 0
      · have yq : ((q : Int) == 0) = true := by simp [hq0]
        have har : ar = [] := List.eq_nil_of_length_eq_zero (by rw [HQL0.out]; exact hq0)
        obtain ⟨ay, hay⟩ : ∃ ay, ay = ([0, 1] : List Int) := ⟨_, rfl⟩
        have HEM0 := Lib.hid (show told ar 0 = ay.contains 0 by rw [har, hay]; rfl)
        have HEM1 := Lib.hid (show told ar 1 = ay.contains 1 by rw [har, hay]; rfl)
        have HAY := Lib.hid hay
        clear hbb kb kz hq0 har hay
        go_wp2_with fail
        obtain ⟨wX, hwX⟩ : ∃ wX, wX = ((((((w1.setCell ⟨w.heap.size, 0, none⟩ (.int .i64 dp)).setCell ⟨w.heap.size, 1, none⟩ (.slice A0 n0 c0)).setCell ⟨w.heap.size, 2, none⟩ (.slice A1 n1 c1)).setCell ⟨w.heap.size, 3, none⟩ (.int .i64 s0)).setCell ⟨w.heap.size, 4, none⟩ (.int .i64 s1))).alloc (.cells #[.int .i64 0, .int .i64 1] 3) := ⟨_, rfl⟩
        rw [← hwX]
        have HST := Lib.hid (show RMark wX w.heap.size (.int .i64 dp) (.slice A0 n0 c0) (.slice A1 n1 c1) n0 n1 s0 s1 ay 0 wX from ⟨by rw [hwX]; exact HKBX.out.alloc _, grown_refl _ _⟩)
        have HRX := Lib.hid (show Rd wX (some ⟨w1.heap.size, 0, none⟩) 2 (ay.map iv) by
          rw [hwX, HAY.out]
          have := Rd.new ((((((w1.setCell ⟨w.heap.size, 0, none⟩ (.int .i64 dp)).setCell ⟨w.heap.size, 1, none⟩ (.slice A0 n0 c0)).setCell ⟨w.heap.size, 2, none⟩ (.slice A1 n1 c1)).setCell ⟨w.heap.size, 3, none⟩ (.int .i64 s0)).setCell ⟨w.heap.size, 4, none⟩ (.int .i64 s1))) (([0, 1] : List Int).map iv) 3
          rw [HSX5.out] at this
          exact this)
        have HNE := Lib.hid (show ∀ a, (some ⟨w1.heap.size, 0, none⟩ : Option Addr) = some a → some w.heap.size ≠ some a.block from fun a e q => by
          injection e with e; subst e
          injection q with q
          have := HSZ1.out
          have q' : w.heap.size = w1.heap.size := q
          omega)
        have HKZX := Lib.hid (show Bk wX (w.heap.size + 1) 32 [.int .i64 0, .slice none 0 0, .slice none 0 0, .int .i64 0, .int .i64 0] by rw [hwX]; exact HKZX.out.alloc _)
        have HSX := Lib.hid (show w.heap.size ≤ wX.heap.size by rw [hwX]; have := HSZ1.out; simp; omega)
        have HBX := Lib.hid (show Below w.heap.size w wX by rw [hwX]; exact HBX.out.alloc (by rw [HSX5.out]; have := HSZ1.out; omega) _)
        have HQL := Lib.hid (show ay.length = 2 by rw [HAY.out]; rfl)
        have HALL := Lib.hid (show ay.all known = true by rw [HAY.out]; rfl)
        have HQM := Lib.hid (show 2 ≤ maxLen by simp [maxLen])
        clear hwX q0 q1 q2 q3 q4 v0 v1 v2 v3 v4
        go_loopw [8] (fun i wr => ∃ k : Nat, k ≤ 2 ∧ i = .int .i64 k ∧ RMark wX w.heap.size (.int .i64 dp) (.slice A0 n0 c0) (.slice A1 n1 c1) n0 n1 s0 s1 ay k wr) (fun i _ => 2 - (intOf i).toNat)
        case atStart => exact ⟨0, Nat.zero_le _, rfl, HST.out⟩
        case round =>
          obtain ⟨k, hk, rfl, kb, hg⟩ := hrel
          have HKB := Lib.hid kb
          have HG := Lib.hid hg
          obtain ⟨q0, q1, q2, q3, q4⟩ := kb.five
          have v3 := kb.frozen 3
          have v4 := kb.frozen 4
          by_cases hkq : k < 2
          · obtain ⟨x, hCx, _, hc⟩ := (HRX.out.grown hg HNE.out).at_ hkq
            injection hCx with hCx
            subst hCx
            rw [at_add, Nat.zero_add] at hc
            have hkl : k < (ay : List Int).length := by rw [HQL.out]; exact hkq
            have gx : ((ay : List Int).map iv).getD k undef = .int .i64 ((ay : List Int)[k]'hkl) := by simp [iv, hkl]
            rw [gx] at hc
            have HN0 := Lib.hid (pick_hit ay k hkl 0 n0 s0)
            have HN1 := Lib.hid (pick_hit ay k hkl 1 n1 s1)
            have HM0 := Lib.hid (pick_miss ay k hkl 0 n0 s0)
            have HM1 := Lib.hid (pick_miss ay k hkl 1 n1 s1)
            have hkn : known ((ay : List Int)[k]'hkl) = true := List.all_eq_true.1 HALL.out _ (List.getElem_mem hkl)
            generalize (ay : List Int)[k]'hkl = z at *
            have y1 : (0 : Int) ≤ (k : Int) := by omega
            have y2 : (k : Int) < 2 := by omega
            have y3 : 2 ≤ 9223372036854775807 := by have := HQM.out; simp only [maxLen] at this; omega
            have w1' : IntKind.i64.wrap ((k : Int) + 1) = (k : Int) + 1 := by simp only [IntKind.wrap, IntKind.bits, IntKind.signed]; simp; omega
            have HKQ := Lib.hid hkq
            clear gx kb hg hkq hk hkl
            rcases known_cases hkn with rfl | rfl
            · clear hkn
              go_wp2_with fail
              go_region
              go_wp2_with fail
              go_roundw
              case rel => exact ⟨k + 1, by have := HKQ.out; omega, by go_num, by
                have kb2 := HKB.out.set 3 (.int .i64 (n0 : Int))
                rw [HN0.out (by trivial), HM1.out (by decide)]
                exact kb2, grown_drew (grown_set HG.out 3 _)⟩
              case measure => have := HKQ.out; simp [intOf]; omega
            · clear hkn
              go_wp2_with fail
              go_region
              go_wp2_with fail
              go_roundw
              case rel => exact ⟨k + 1, by have := HKQ.out; omega, by go_num, by
                have kb2 := HKB.out.set 4 (.int .i64 (n1 : Int))
                rw [HM0.out (by decide), HN1.out (by trivial)]
                exact kb2, grown_drew (grown_set HG.out 4 _)⟩
              case measure => have := HKQ.out; simp [intOf]; omega
          · have y2 : ¬ (k : Int) < 2 := by omega
            have ek : (ay).take k = ay := List.take_of_length_le (by have := HQL.out; omega)
            rw [ek] at kb q3 q4
            have kz := HKZX.out.grown hg (by simp)
            have HKZR := Lib.hid kz
            obtain ⟨z0, z1, z2, z3, z4⟩ := kz.five
            have u0 := kz.frozen 0
            have u1 := kz.frozen 1
            have u2 := kz.frozen 2
            have u3 := kz.frozen 3
            have u4 := kz.frozen 4
            have hbr := below_of_grown (B := w.heap.size) hg HSX.out (fun b e => by injection e with e; omega)
            have HBR := Lib.hid (HBX.out.trans hbr)
            obtain ⟨x0, hx0⟩ : ∃ x, x = pick ((ay).contains 0) n0 s0 := ⟨_, rfl⟩
            obtain ⟨x1, hx1⟩ : ∃ x, x = pick ((ay).contains 1) n1 s1 := ⟨_, rfl⟩
            rw [← hx0, ← hx1] at kb
            rw [← hx0] at q3
            rw [← hx1] at q4
            have HX0 := Lib.hid hx0
            have HX1 := Lib.hid hx1
            clear kb hg ek hbr hkq hk hx0 hx1 kz
            go_wp2_with fail
            have hbF := five_below (g := w.heap.size + 1) HBR.out (Nat.le_succ _) (.int .i64 dp) (.slice A0 n0 c0) (.slice A1 n1 c1) (.int .i64 x0) (.int .i64 x1)
            refine bodyPost_ret_by (results_row_tmp rfl _ _ (w.heap.size + 1) 32 _ _ rfl (five_set HKZR.out _ _ _ _ _) Try.underlying32 rfl info_disk) rfl ?_
            have e0 : (Q0.s0 : Int) = x0 := by rw [HQ0.out, HX0.out, pick, HEM0.out, HL0.out]
            have e1 : (Q0.s1 : Int) = x1 := by rw [HQ0.out, HX1.out, pick, HEM1.out, HL1.out]
            have ed : Q0.power = dp ∧ Q0.d0 = l0 ∧ Q0.d1 = l1 := by rw [HQ0.out]; exact ⟨rfl, rfl, rfl⟩
            refine ⟨A0, n0, c0, A1, n1, c1, ?_, by rw [ed.2.1]; exact HS0.out.below hbF, by rw [ed.2.2]; exact HS1.out.below hbF, hbF, .inl rfl, .inl rfl⟩
            rw [e0, e1, ed.1]
            rfl
      · have yq : ((q : Int) == 0) = false := by simp; omega
        have har : ar.isEmpty = false := by
          cases har : ar with
          | nil => exact absurd (by rw [← HQL0.out, har]; rfl) hq0
          | cons _ _ => rfl
        have HEM0 := Lib.hid (show told ar 0 = ar.contains 0 by unfold told; rw [har]; rfl)
        have HEM1 := Lib.hid (show told ar 1 = ar.contains 1 by unfold told; rw [har]; rfl)
        have HQP := Lib.hid (show 0 < q by omega)
        clear hbb kb kz hq0 har
        go_wp2_with fail
        obtain ⟨wX, hwX⟩ : ∃ wX, wX = ((((((w1.setCell ⟨w.heap.size, 0, none⟩ (.int .i64 dp)).setCell ⟨w.heap.size, 1, none⟩ (.slice A0 n0 c0)).setCell ⟨w.heap.size, 2, none⟩ (.slice A1 n1 c1)).setCell ⟨w.heap.size, 3, none⟩ (.int .i64 s0)).setCell ⟨w.heap.size, 4, none⟩ (.int .i64 s1))) := ⟨_, rfl⟩
        rw [← hwX]
        have HST := Lib.hid (show RMark wX w.heap.size (.int .i64 dp) (.slice A0 n0 c0) (.slice A1 n1 c1) n0 n1 s0 s1 ar 0 wX from ⟨by rw [hwX]; exact HKBX.out, grown_refl _ _⟩)
        have HRX := Lib.hid (show Rd wX C q (ar.map iv) from HRC.out.below (by rw [hwX]; exact HBX.out))
        have HNE := Lib.hid (show ∀ a, C = some a → some w.heap.size ≠ some a.block from fun a e qe => by
          obtain ⟨a', e', hlt, _⟩ := HRC.out.at_ HQP.out
          rw [e] at e'
          injection e' with e'
          injection qe with qe
          subst e'
          omega)
        have HKZX := Lib.hid (show Bk wX (w.heap.size + 1) 32 [.int .i64 0, .slice none 0 0, .slice none 0 0, .int .i64 0, .int .i64 0] by rw [hwX]; exact HKZX.out)
        have HSX := Lib.hid (show w.heap.size ≤ wX.heap.size by rw [hwX, HSX5.out]; have := HSZ1.out; omega)
        have HBX := Lib.hid (show Below w.heap.size w wX by rw [hwX]; exact HBX.out)
        have HQL := HQL0
        clear hwX q0 q1 q2 q3 q4 v0 v1 v2 v3 v4
        go_loopw [8] (fun i wr => ∃ k : Nat, k ≤ q ∧ i = .int .i64 k ∧ RMark wX w.heap.size (.int .i64 dp) (.slice A0 n0 c0) (.slice A1 n1 c1) n0 n1 s0 s1 ar k wr) (fun i _ => q - (intOf i).toNat)
        case atStart => exact ⟨0, Nat.zero_le _, rfl, HST.out⟩
        case round =>
          obtain ⟨k, hk, rfl, kb, hg⟩ := hrel
          have HKB := Lib.hid kb
          have HG := Lib.hid hg
          obtain ⟨q0, q1, q2, q3, q4⟩ := kb.five
          have v3 := kb.frozen 3
          have v4 := kb.frozen 4
          by_cases hkq : k < q
          · obtain ⟨x, hCx, _, hc⟩ := (HRX.out.grown hg HNE.out).at_ hkq
            subst hCx
            have hkl : k < (ar : List Int).length := by rw [HQL.out]; exact hkq
            have gx : ((ar : List Int).map iv).getD k undef = .int .i64 ((ar : List Int)[k]'hkl) := by simp [iv, hkl]
            rw [gx] at hc
            have HN0 := Lib.hid (pick_hit ar k hkl 0 n0 s0)
            have HN1 := Lib.hid (pick_hit ar k hkl 1 n1 s1)
            have HM0 := Lib.hid (pick_miss ar k hkl 0 n0 s0)
            have HM1 := Lib.hid (pick_miss ar k hkl 1 n1 s1)
            have hkn : known ((ar : List Int)[k]'hkl) = true := List.all_eq_true.1 HALL.out _ (List.getElem_mem hkl)
            generalize (ar : List Int)[k]'hkl = z at *
            have y1 : (0 : Int) ≤ (k : Int) := by omega
            have y2 : (k : Int) < (q : Int) := by omega
            have y3 : (q : Int) ≤ 9223372036854775807 := by have := HQM.out; simp only [maxLen] at this; omega
            have w1' : IntKind.i64.wrap ((k : Int) + 1) = (k : Int) + 1 := by simp only [IntKind.wrap, IntKind.bits, IntKind.signed]; simp; omega
            have HKQ := Lib.hid hkq
            clear gx kb hg hkq hk hkl
            rcases known_cases hkn with rfl | rfl
            · clear hkn
              go_wp2_with fail
              go_region
              go_wp2_with fail
              go_roundw
              case rel => exact ⟨k + 1, by have := HKQ.out; omega, by go_num, by
                have kb2 := HKB.out.set 3 (.int .i64 (n0 : Int))
                rw [HN0.out (by trivial), HM1.out (by decide)]
                exact kb2, grown_drew (grown_set HG.out 3 _)⟩
              case measure => have := HKQ.out; simp [intOf]; omega
            · clear hkn
              go_wp2_with fail
              go_region
              go_wp2_with fail
              go_roundw
              case rel => exact ⟨k + 1, by have := HKQ.out; omega, by go_num, by
                have kb2 := HKB.out.set 4 (.int .i64 (n1 : Int))
                rw [HM0.out (by decide), HN1.out (by trivial)]
                exact kb2, grown_drew (grown_set HG.out 4 _)⟩
              case measure => have := HKQ.out; simp [intOf]; omega
          · have y2 : ¬ (k : Int) < (q : Int) := by omega
            have ek : (ar).take k = ar := List.take_of_length_le (by have := HQL.out; omega)
            rw [ek] at kb q3 q4
            have kz := HKZX.out.grown hg (by simp)
            have HKZR := Lib.hid kz
            obtain ⟨z0, z1, z2, z3, z4⟩ := kz.five
            have u0 := kz.frozen 0
            have u1 := kz.frozen 1
            have u2 := kz.frozen 2
            have u3 := kz.frozen 3
            have u4 := kz.frozen 4
            have hbr := below_of_grown (B := w.heap.size) hg HSX.out (fun b e => by injection e with e; omega)
            have HBR := Lib.hid (HBX.out.trans hbr)
            obtain ⟨x0, hx0⟩ : ∃ x, x = pick ((ar).contains 0) n0 s0 := ⟨_, rfl⟩
            obtain ⟨x1, hx1⟩ : ∃ x, x = pick ((ar).contains 1) n1 s1 := ⟨_, rfl⟩
            rw [← hx0, ← hx1] at kb
            rw [← hx0] at q3
            rw [← hx1] at q4
            have HX0 := Lib.hid hx0
            have HX1 := Lib.hid hx1
            clear kb hg ek hbr hkq hk hx0 hx1 kz
            go_wp2_with fail
            have hbF := five_below (g := w.heap.size + 1) HBR.out (Nat.le_succ _) (.int .i64 dp) (.slice A0 n0 c0) (.slice A1 n1 c1) (.int .i64 x0) (.int .i64 x1)
            refine bodyPost_ret_by (results_row_tmp rfl _ _ (w.heap.size + 1) 32 _ _ rfl (five_set HKZR.out _ _ _ _ _) Try.underlying32 rfl info_disk) rfl ?_
            have e0 : (Q0.s0 : Int) = x0 := by rw [HQ0.out, HX0.out, pick, HEM0.out, HL0.out]
            have e1 : (Q0.s1 : Int) = x1 := by rw [HQ0.out, HX1.out, pick, HEM1.out, HL1.out]
            have ed : Q0.power = dp ∧ Q0.d0 = l0 ∧ Q0.d1 = l1 := by rw [HQ0.out]; exact ⟨rfl, rfl, rfl⟩
            refine ⟨A0, n0, c0, A1, n1, c1, ?_, by rw [ed.2.1]; exact HS0.out.below hbF, by rw [ed.2.2]; exact HS1.out.below hbF, hbF, .inl rfl, .inl rfl⟩
            rw [e0, e1, ed.1]
            rfl
end Go.Proofs.Ytcibjdodkcfpeaa
