/-
  The disk's Sync. Walks; no statement.
-/
import Derived.Test.YtmiejaohkgemnaaDoorDiskTrim
import Derived.RegionTactic
import Derived.ChangeAlike
namespace Go.Proofs.YtmiejaohkgemnaaDoor
open Go.RowKit
set_option linter.unusedVariables false

/-- is area a marked? -/
def told (areas : List Int) (a : Int) : Bool := areas.isEmpty || areas.contains a
theorem marks_eq (Q : PD) (l : List Int) (h : l.all known = true) :
    l.foldl PD.mark Q = ⟨Q.power, Q.d0, Q.d1, if l.contains 0 then Q.d0.length else Q.s0, if l.contains 1 then Q.d1.length else Q.s1⟩ := by
  induction l generalizing Q with
  | nil => cases Q; rfl
  | cons a r ih =>
    rw [List.all_cons, Bool.and_eq_true] at h
    rw [List.foldl_cons, ih _ h.2]
    rcases known_cases h.1 with rfl | rfl
    · cases h0 : r.contains 0 <;> cases h1 : r.contains 1 <;> simp only [List.contains_cons, h0, h1, PD.mark, PD.setSafe, PD.data] <;> rfl
    · cases h0 : r.contains 0 <;> cases h1 : r.contains 1 <;> simp only [List.contains_cons, h0, h1, PD.mark, PD.setSafe, PD.data] <;> rfl
theorem sync_eq (P : PD) (l : List Int) (h : l.all known = true) (hp : P.power ≠ 0) :
    P.sync l = (⟨drawn P.power, P.d0, P.d1, if told l 0 then P.d0.length else P.s0, if told l 1 then P.d1.length else P.s1⟩, 0) := by
  unfold PD.sync told
  rw [h]
  simp only [if_true, if_neg hp]
  cases l with
  | nil => rfl
  | cons a r =>
    rw [show (if (a :: r).isEmpty = true then [0, 1] else a :: r) = a :: r from rfl, marks_eq _ _ h]
    rfl
def safeAt (t : Bool) (i k : Nat) (n s : Int) : Int := if t && decide (i < k) then n else s
def SyncAt (w1 : World) (g : Nat) (v0 v2 v4 : Value) (t0 t1 : Bool) (n0 n1 s0 s1 : Int) (k : Nat) (wr : World) : Prop :=
  Bk wr g 73 [v0, .int .i64 (safeAt t0 0 k n0 s0), v2, .int .i64 (safeAt t1 1 k n1 s1), v4] ∧ w1.grownBy wr (some g)
theorem grown_drew {w0 w : World} {r : Option Nat} (h : w0.grownBy w r) : w0.grownBy w.drew r := ⟨h.os, h.tape, h.output, h.size, h.block⟩
set_option maxHeartbeats 1000000 in
theorem sync_ok (g : Nat) (P : PD) (F : Nat → Prop) (A0 A1 : Option Addr) (n0 c0 n1 c1 : Nat) (A : Option Addr) (n c : Nat) (l : List Int) (w : World) (h : DkAt w F g P A0 n0 c0 A1 n1 c1)
    (hR : ∀ w', Chg F w w' → Rd w' A n (l.map iv)) (hm : n ≤ maxLen) (hz : P.power ≠ 0) (hl : l.all known = true) :
    Calls Tryd.prog 32 #[.pointer (some ⟨g, 0, none⟩), .slice A n c] w (Did F g (P.sync l) w) := by
  have hln : l.length = n := by simpa using (hR w (Chg.refl F w)).1
  have HR := Lib.hid (sync_eq P l hl hz)
  have HM := Lib.hid (missing_in A n c l w (hR w (Chg.refl F w)) hm)
  rw [hl] at HM
  have HSP := Lib.hid (spend_any g (.slice A0 n0 c0) (.int .i64 P.s0) (.slice A1 n1 c1) (.int .i64 P.s1) P.power _ h.bk h.pw)
  have HE := Lib.hid (show decide (P.power ≠ 0) = true by simp [hz])
  have HH := Lib.hid h
  have HCT := Lib.hid (fun v wr (hc : Chg F w wr) => contains_any A n c l v wr (hR wr hc) hm)
  have HL0 := Lib.hid h.r0.len
  have HL1 := Lib.hid h.r1.len
  have HLN := Lib.hid hln
  have HT := Lib.hid (show ∀ a, told l a = (decide (n = 0) || l.contains a) from fun a => by
    unfold told
    subst hln
    cases l <;> simp)
  obtain ⟨t0, ht0⟩ : ∃ t, t = told l 0 := ⟨_, rfl⟩
  obtain ⟨t1, ht1⟩ : ∃ t, t = told l 1 := ⟨_, rfl⟩
  rw [HR.out, ← ht0, ← ht1]
  obtain ⟨Q, hQ⟩ : ∃ Q, Q = (⟨drawn P.power, P.d0, P.d1, if t0 then P.d0.length else P.s0, if t1 then P.d1.length else P.s1⟩ : PD) := ⟨_, rfl⟩
  rw [← hQ]
  have HQ := Lib.hid hQ
  clear hQ
  have HT0 := Lib.hid ht0
  have HT1 := Lib.hid ht1
  clear h hR hm hz hl hln ht0 ht1
  go_enter Tryd.func32, Tryd.ntmps32
  go_wp2_with fail
  refine HM.out.mono ?_
  rintro e w' ⟨rfl, rfl⟩
  go_wp2_with fail
  refine HSP.out.mono ?_
  rintro e w1 ⟨rfl, kb, hg, hs⟩
  rw [HE.out]
  have HD1 := Lib.hid (HH.out.spent kb hg)
  have HC1 := Lib.hid (HH.out.chg hg)
  have HAT := Lib.hid (show SyncAt w1 g (.slice A0 n0 c0) (.slice A1 n1 c1) (.int .i64 (drawn P.power)) t0 t1 n0 n1 P.s0 P.s1 0 w1 from ⟨by simpa [safeAt] using kb, grown_refl _ _⟩)
  clear kb hg hs
  go_wp2_with fail
  go_loopw [11] (fun i wr => ∃ k : Nat, k ≤ 2 ∧ i = .int .i64 k ∧ SyncAt w1 g (.slice A0 n0 c0) (.slice A1 n1 c1) (.int .i64 (drawn P.power)) t0 t1 n0 n1 P.s0 P.s1 k wr) (fun i _ => 2 - (intOf i).toNat)
  case atStart => exact ⟨0, by omega, rfl, HAT.out⟩
  case round =>
    obtain ⟨k, hk, rfl, kb, hg⟩ := hrel
    have HKB := Lib.hid kb
    have HG := Lib.hid hg
    have HCR := Lib.hid (HC1.out.same (HD1.out.chg hg))
    obtain ⟨q0, q1, q2, q3, q4⟩ := kb.five
    have u1 := kb.frozen 1
    have u3 := kb.frozen 3
    have hkc : k = 0 ∨ k = 1 ∨ k = 2 := by omega
    clear kb hg hk
    rcases hkc with rfl | rfl | rfl
    · by_cases hn : n = 0
      · have y : ((n : Int) == 0) = true := by simp [hn]
        have HTT := Lib.hid (show t0 = true by rw [HT0.out, HT.out]; simp [hn])
        clear hn
        go_wp2_with fail
        go_region
        go_wp2_with fail
        go_roundw
        case rel => exact ⟨1, by omega, by go_num, by
          have kb2 := HKB.out.set 1 (.int .i64 (n0 : Int))
          have e0 : safeAt t0 0 1 n0 P.s0 = (n0 : Int) := by rw [safeAt]; rw [HTT.out]; rfl
          have e1 : safeAt t1 1 1 n1 P.s1 = safeAt t1 1 0 n1 P.s1 := by rw [safeAt]; cases t1 <;> rfl
          rw [e0, e1]
          exact kb2, grown_drew (grown_set HG.out 1 _)⟩
        case measure => simp [intOf]
      · have y : ((n : Int) == 0) = false := by simp; omega
        cases hc : l.contains (0 : Int)
        · have HTT := Lib.hid (show t0 = false by rw [HT0.out, HT.out, hc]; simp [hn])
          have HCC := Lib.hid (HCT.out 0 wr HCR.out)
          rw [hc] at HCC
          clear hn hc
          go_wp2_with fail
          refine HCC.out.mono ?_
          rintro e w' ⟨rfl, rfl⟩
          go_wp2_with fail
          go_roundw
          case rel => exact ⟨1, by omega, by go_num, by
            have e0 : safeAt t0 0 1 n0 P.s0 = safeAt t0 0 0 n0 P.s0 := by rw [safeAt, safeAt]; rw [HTT.out]; rfl
            have e1 : safeAt t1 1 1 n1 P.s1 = safeAt t1 1 0 n1 P.s1 := by rw [safeAt, safeAt]; cases t1 <;> rfl
            rw [e0, e1]
            exact HKB.out, HG.out⟩
          case measure => simp [intOf]
        · have HTT := Lib.hid (show t0 = true by rw [HT0.out, HT.out, hc]; simp)
          have HCC := Lib.hid (HCT.out 0 wr HCR.out)
          rw [hc] at HCC
          clear hn hc
          go_wp2_with fail
          refine HCC.out.mono ?_
          rintro e w' ⟨rfl, rfl⟩
          go_wp2_with fail
          go_region
          go_wp2_with fail
          go_roundw
          case rel => exact ⟨1, by omega, by go_num, by
            have kb2 := HKB.out.set 1 (.int .i64 (n0 : Int))
            have e0 : safeAt t0 0 1 n0 P.s0 = (n0 : Int) := by rw [safeAt]; rw [HTT.out]; rfl
            have e1 : safeAt t1 1 1 n1 P.s1 = safeAt t1 1 0 n1 P.s1 := by rw [safeAt]; cases t1 <;> rfl
            rw [e0, e1]
            exact kb2, grown_drew (grown_set HG.out 1 _)⟩
          case measure => simp [intOf]
    · by_cases hn : n = 0
      · have y : ((n : Int) == 0) = true := by simp [hn]
        have HTT := Lib.hid (show t1 = true by rw [HT1.out, HT.out]; simp [hn])
        clear hn
        go_wp2_with fail
        go_region
        go_wp2_with fail
        go_roundw
        case rel => exact ⟨2, by omega, by go_num, by
          have kb2 := HKB.out.set 3 (.int .i64 (n1 : Int))
          have e0 : safeAt t0 0 2 n0 P.s0 = safeAt t0 0 1 n0 P.s0 := by rw [safeAt]; cases t0 <;> rfl
          have e1 : safeAt t1 1 2 n1 P.s1 = (n1 : Int) := by rw [safeAt]; rw [HTT.out]; rfl
          rw [e0, e1]
          exact kb2, grown_drew (grown_set HG.out 3 _)⟩
        case measure => simp [intOf]
      · have y : ((n : Int) == 0) = false := by simp; omega
        cases hc : l.contains (1 : Int)
        · have HTT := Lib.hid (show t1 = false by rw [HT1.out, HT.out, hc]; simp [hn])
          have HCC := Lib.hid (HCT.out 1 wr HCR.out)
          rw [hc] at HCC
          clear hn hc
          go_wp2_with fail
          refine HCC.out.mono ?_
          rintro e w' ⟨rfl, rfl⟩
          go_wp2_with fail
          go_roundw
          case rel => exact ⟨2, by omega, by go_num, by
            have e0 : safeAt t0 0 2 n0 P.s0 = safeAt t0 0 1 n0 P.s0 := by rw [safeAt, safeAt]; cases t0 <;> rfl
            have e1 : safeAt t1 1 2 n1 P.s1 = safeAt t1 1 1 n1 P.s1 := by rw [safeAt, safeAt]; rw [HTT.out]; rfl
            rw [e0, e1]
            exact HKB.out, HG.out⟩
          case measure => simp [intOf]
        · have HTT := Lib.hid (show t1 = true by rw [HT1.out, HT.out, hc]; simp)
          have HCC := Lib.hid (HCT.out 1 wr HCR.out)
          rw [hc] at HCC
          clear hn hc
          go_wp2_with fail
          refine HCC.out.mono ?_
          rintro e w' ⟨rfl, rfl⟩
          go_wp2_with fail
          go_region
          go_wp2_with fail
          go_roundw
          case rel => exact ⟨2, by omega, by go_num, by
            have kb2 := HKB.out.set 3 (.int .i64 (n1 : Int))
            have e0 : safeAt t0 0 2 n0 P.s0 = safeAt t0 0 1 n0 P.s0 := by rw [safeAt]; cases t0 <;> rfl
            have e1 : safeAt t1 1 2 n1 P.s1 = (n1 : Int) := by rw [safeAt]; rw [HTT.out]; rfl
            rw [e0, e1]
            exact kb2, grown_drew (grown_set HG.out 3 _)⟩
          case measure => simp [intOf]
    · go_wp2_with fail
      go_ret
      have e0 : safeAt t0 0 2 n0 P.s0 = Q.s0 := by rw [HQ.out, safeAt, HL0.out]; cases t0 <;> rfl
      have e1 : safeAt t1 1 2 n1 P.s1 = Q.s1 := by rw [HQ.out, safeAt, HL1.out]; cases t1 <;> rfl
      have hb := HKB.out
      rw [e0, e1] at hb
      have hr0 := HD1.out.r0.off HD1.out.bk (by decide) HG.out
      have hr1 := HD1.out.r1.off HD1.out.bk (by decide) HG.out
      obtain ⟨F', hd, hF'⟩ := HD1.out.put0 (Q := Q) (by rw [HQ.out] at hb ⊢; exact hb) (by rw [HQ.out]; exact hr0) (by rw [HQ.out]; exact hr1) HG.out.size (fun b e => .inl e) (by
        have := HH.out.fine
        rw [HQ.out]
        unfold PD.Fine at *
        dsimp only
        cases t0 <;> cases t1 <;> simp <;> omega) (by rw [HQ.out]; exact drawn_in HH.out.pw)
      exact ⟨rfl, F', hd, fun i hi => (hF' i hi).imp id (fun hh => Nat.le_trans HC1.out.size hh), HCR.out⟩
theorem disk_sync (g : Nat) (P : PD) (F : Nat → Prop) (A : Option Addr) (n c : Nat) (l : List Int) (w : World) (h : Dk w F g P)
    (hR : ∀ w', Chg F w w' → Rd w' A n (l.map iv)) (hm : n ≤ maxLen) :
    Calls Tryd.prog 32 #[.pointer (some ⟨g, 0, none⟩), .slice A n c] w (Did F g (P.sync l) w) := by
  have HDK := Lib.hid h
  obtain ⟨A0, n0, c0, A1, n1, c1, h⟩ := h
  have HM := Lib.hid (missing_in A n c l w (hR w (Chg.refl F w)) hm)
  cases hl : l.all known
  · rw [hl] at HM
    have HR := Lib.hid (show P.sync l = (P, 41) by unfold PD.sync; rw [hl]; rfl)
    rw [HR.out]
    clear hl h hR hm
    go_enter Tryd.func32, Tryd.ntmps32
    go_wp2_with fail
    refine HM.out.mono ?_
    rintro e w' ⟨rfl, rfl⟩
    go_wp2_with fail
    go_ret
    exact Did.none HDK.out (Below.refl _ _)
  · by_cases hz : P.power = 0
    · rw [hl] at HM
      have HSP := Lib.hid (spend_any g (.slice A0 n0 c0) (.int .i64 P.s0) (.slice A1 n1 c1) (.int .i64 P.s1) P.power _ h.bk h.pw)
      have HE := Lib.hid (show decide (P.power ≠ 0) = false by simp [hz])
      have HZ := Lib.hid hz
      have HKD := Lib.hid h
      have HR := Lib.hid (show P.sync l = (P, 40) by unfold PD.sync; rw [hl]; simp [hz])
      rw [HR.out]
      clear hl h hR hm hz
      go_enter Tryd.func32, Tryd.ntmps32
      go_wp2_with fail
      refine HM.out.mono ?_
      rintro e w' ⟨rfl, rfl⟩
      go_wp2_with fail
      refine HSP.out.mono ?_
      rintro e w1 ⟨rfl, kb, hg, hs⟩
      rw [HE.out]
      have HKB := Lib.hid kb
      have HG := Lib.hid hg
      clear kb hg hs
      go_wp2_with fail
      go_ret
      exact Did.down (Below.refl _ _) HKD.out HKB.out HG.out HZ.out
    · exact sync_ok g P F A0 A1 n0 c0 n1 c1 A n c l w h hR hm hz hl
end Go.Proofs.YtmiejaohkgemnaaDoor
