/-
  The program's find and Open. Walks; no statement.
-/
import Derived.Test.YtmiejaohkgemnaaDoorLogDev7
import Derived.StillTailTactics
namespace Go.Proofs.YtmiejaohkgemnaaDoor
open Go.RowKit
open Pk Sh
set_option linter.unusedVariables false
set_option maxRecDepth 100000

namespace Lg
def stA : Option (Int × Ar) → Int
  | none => 0
  | some (a, _) => a
def stG : Option (Int × Ar) → Nat
  | none => 0
  | some (_, x) => x.gen
def stL : Option (Int × Ar) → Nat
  | none => 0
  | some (_, x) => x.laid
def stC : Option (Int × Ar) → Nat
  | none => 0
  | some (_, x) => x.list.length
def stB : Option (Int × Ar) → Nat
  | none => 0
  | some (_, x) => x.rest.length
def stE (D : PD) : Option (Int × Ar) → Nat
  | none => 0
  | some (a, x) => (D.data a).length - x.rest.length
/-- behind so many areas -/
def stK (D : PD) : Nat → Option (Int × Ar)
  | 0 => none
  | k + 1 => upd (stK D k) k (good (D.data k))
theorem stK_two (D : PD) : stK D 2 = best D := rfl
theorem upd_none {st : Option (Int × Ar)} {k : Int} {b : List UInt8} (h : area b = none) : upd st k (good b) = st := by unfold good; rw [h]; rfl
theorem upd_new {st : Option (Int × Ar)} {k : Int} {b : List UInt8} {x : Ar} (h : area b = some x) (h1 : x.laid ≤ x.list.length) (h2 : stG st < x.gen) : upd st k (good b) = some (k, x) := by
  have hg : good b = some x := by unfold good; rw [h]; exact if_pos ⟨by omega, h1⟩
  rw [hg]
  match st, h2 with
  | none, _ => rfl
  | some (a, y), h2 => exact if_pos h2
theorem upd_old {st : Option (Int × Ar)} {k : Int} {b : List UInt8} {x : Ar} (h : area b = some x) (hn : ¬ (x.laid ≤ x.list.length ∧ stG st < x.gen)) : upd st k (good b) = st := by
  by_cases hc : 1 ≤ x.gen ∧ x.laid ≤ x.list.length
  · have hg : good b = some x := by unfold good; rw [h]; exact if_pos hc
    rw [hg]
    match st, hn with
    | none, hn => exact absurd ⟨hc.2, hc.1⟩ hn
    | some (a, y), hn => exact if_neg (fun q => hn ⟨hc.2, q⟩)
  · have hg : good b = none := by unfold good; rw [h]; exact if_neg hc
    rw [hg]
    rfl
/-- find's answer, and the disk behind it -/
def findD (D : PD) : PD × Int := if stB (best D) = 0 then (D, 0) else D.trim (stA (best D)) (stE D (best D))
end Lg
/-- the log's cells, as find has them -/
def findC (gd : Nat) (st : Option (Int × Lg.Ar)) : List Value := logC gd (Lg.stA st) (Lg.stG st) (Lg.stL st) (Lg.stC st)
def FindP (F : Nat → Prop) (g gd : Nat) (P : PD) (w : World) (e : Ending) (w' : World) : Prop :=
  e = .returned (.int .i64 (Lg.findD P).2) ∧ ∃ F', Dk w' F' gd (Lg.findD P).1 ∧ (∀ i, F' i → F i ∨ w.heap.size ≤ i) ∧ Bk w' g 77 (findC gd (Lg.best P)) ∧ Chg (fun i => F i ∨ i = g) w w'
/-- how find's loop stands -/
def FiAt (w : World) (F : Nat → Prop) (g gd : Nat) (P : PD) (k : Nat) (en be : Value) (wr : World) : Prop :=
  en = .int .i64 (Lg.stE P (Lg.stK P k) : Nat) ∧ be = .int .i64 (Lg.stB (Lg.stK P k) : Nat) ∧ Bk wr g 77 (findC gd (Lg.stK P k)) ∧ Chg (fun i => i = g) w wr
theorem five_far' {w : World} {g g' : Nat} {t : TypeId} {cs : List Value} (h : Bk w g t cs) (hne : g ≠ g') (a b c d e : Value) : Bk (((((w.setCell ⟨g', 0, none⟩ a).setCell ⟨g', 1, none⟩ b).setCell ⟨g', 2, none⟩ c).setCell ⟨g', 3, none⟩ d).setCell ⟨g', 4, none⟩ e) g t cs :=
  Bk.five_far h hne a b c d e
set_option maxHeartbeats 3200000 in
theorem find_any (g gd : Nat) (P : PD) (F : Nat → Prop) (w : World) (hk : Bk w g 77 (logC gd 0 0 0 0)) (hd : Dk w F gd P) (hoff : ¬ F g) (hT : Tab w) (h0 : ¬ F 0) (hg0 : g ≠ 0)
    (b0 : P.d0.length ≤ 1099511627776) (b1 : P.d1.length ≤ 1099511627776) :
    Calls Tryd.prog 35 #[.pointer (some ⟨g, 0, none⟩)] w (FindP F g gd P w) := by
  have HD := Lib.hid hd
  have HOFF := Lib.hid hoff
  have HT := Lib.hid hT
  have HG0 := Lib.hid hg0
  have HB := Lib.hid (And.intro b0 b1)
  have HAT := Lib.hid (show FiAt w F g gd P 0 (.int .i64 0) (.int .i64 0) w from ⟨rfl, rfl, hk, Chg.refl _ _⟩)
  clear hk hd hoff hT h0 hg0 b0 b1
  go_enter Tryd.func35, Tryd.ntmps35
  go_wp2_with fail
  go_loopw [10, 3, 4] (fun i en be wr => ∃ k : Nat, k ≤ 2 ∧ i = .int .i64 k ∧ FiAt w F g gd P k en be wr) (fun i _ _ _ => 2 - (intOf i).toNat)
  case atStart => exact ⟨0, by omega, rfl, HAT.out⟩
  case round =>
    clear HAT
    obtain ⟨k, hk2, rfl, rfl, rfl, hkb, hch⟩ := hrel
    have hdk := HD.out.keep hch (fun i hi e => HOFF.out (e ▸ hi))
    have htb := HT.out.chg hch (fun e => HG0.out e.symm)
    have HKB := Lib.hid hkb
    have HCH := Lib.hid hch
    have HDK := Lib.hid hdk
    have HTB := Lib.hid htb
    by_cases hlt : k < 2
    · have hkn : known (k : Int) = true := by
        unfold known
        match k, hlt with
        | 0, _ => rfl
        | 1, _ => rfl
      have hrd := disk_read gd k P F wr hdk HB.out.1 HB.out.2
      rw [P.read_some k hkn] at hrd
      have HRD := Lib.hid hrd
      have HNX := Lib.hid (show Lg.stK P (k + 1) = Lg.upd (Lg.stK P k) k (Lg.good (P.data k)) from rfl)
      obtain ⟨st, hst⟩ : ∃ st, st = Lg.stK P k := ⟨_, rfl⟩
      rw [← hst] at HNX hkb HKB ⊢
      have hdl := PD.data_le HB.out.1 HB.out.2 (k : Int)
      have HDL := Lib.hid hdl
      generalize hbb : P.data (k : Int) = b at *
      have HBB := Lib.hid hbb
      have HST := Lib.hid hst
      have HLT := Lib.hid hlt
      have y1 : (k : Int) < 2 := by omega
      have y2 : (0 : Int) ≤ (k : Int) := by omega
      obtain ⟨k0, k1, k2, k3, k4⟩ := Bk.five hkb
      clear hkb hch hdk htb hkn hrd hdl hbb hst hlt hk2
      go_wp2_with fail
      refine HRD.out.mono ?_
      rintro e w2 ⟨A2, n2, c2, rfl, ho2, hb2⟩
      have hn2 := ho2.len
      have HSV := Lib.hid (survey_any A2 n2 c2 b w2 (Sl.own ho2) (HTB.out.still hb2) (by have := HDL.out; omega))
      have HB2 := Lib.hid hb2
      have HN2 := Lib.hid hn2
      clear hb2 ho2 hn2 k0 k1 k2 k3 k4
      go_wp2_with fail
      refine HSV.out.mono ?_
      rintro e w3 ⟨hb3, gs, ls, ks, ms, R, rc, rfl, hsv⟩
      have hb23 := below_next HB2.out hb3 HB2.out.size
      have HB3 := Lib.hid hb3
      have hkg := HKB.out.kept hb23
      obtain ⟨wf, hwf⟩ : ∃ wf, wf = w3.alloc (.cells #[.pointer none, .int .i64 0, .int .i64 (gs : Nat), .int .i64 (ls : Nat), .int .i64 (ks : Nat)] 75) := ⟨_, rfl⟩
      have hkf : Bk wf g 77 (findC gd st) := by rw [hwf]; exact hkg.alloc _
      have hke : Bk wf w3.heap.size 75 [.pointer none, .int .i64 0, .int .i64 (gs : Nat), .int .i64 (ls : Nat), .int .i64 (ks : Nat)] := by rw [hwf]; exact Bk.new _ _ _
      have hcf : Chg (fun i => i = g) w wf := by rw [hwf]; exact (HCH.out.then hb23).alloc _
      have HKF := Lib.hid hkf
      have HKE := Lib.hid hke
      have HCF := Lib.hid hcf
      have HSV2 := Lib.hid hsv
      have HGE := Lib.hid (show g ≠ w3.heap.size by have := hkg.lt; omega)
      rw [hwf] at hkf hke
      obtain ⟨k0, k1, k2, k3, k4⟩ := Bk.five hkf
      obtain ⟨e0, e1, e2, e3, e4⟩ := Bk.five hke
      have HWF := Lib.hid hwf
      have u0 := hkf.frozen 0
      have u1 := hkf.frozen 1
      have u2 := hkf.frozen 2
      have u3 := hkf.frozen 3
      have u4 := hkf.frozen 4
      have v0 := hke.frozen 0
      have v1 := hke.frozen 1
      clear hb3 hb23 hkg hkf hke hcf hsv hwf
      have w1' : IntKind.i64.wrap ((k : Int) + 1) = (k : Int) + 1 := by simp only [IntKind.wrap, IntKind.bits, IntKind.signed]; simp; omega
      by_cases h1 : ls ≤ ks
      · have y3 : (ls : Int) ≤ (ks : Int) := by omega
        by_cases h2 : Lg.stG st < gs
        · have y4 : ((Lg.stG st : Nat) : Int) < (gs : Int) := by omega
          obtain ⟨x, hx, hxg, hxl, hxc, hxm⟩ : ∃ x, Lg.area b = some x ∧ gs = x.gen ∧ ls = x.laid ∧ ks = x.list.length ∧ ms = x.rest.length := by
            rcases HSV2.out with ⟨_, h, _⟩ | h
            · omega
            · exact h
          have HNX2 := Lib.hid (show Lg.stK P (k + 1) = some ((k : Int), x) by rw [HNX.out]; exact Lg.upd_new hx (by omega) (by omega))
          have HX := Lib.hid (And.intro hxg (And.intro hxl (And.intro hxc hxm)))
          have hle : ms ≤ n2 := by have := congrArg List.length (Lg.area_spec hx).1; have := HN2.out; simp at *; omega
          have HLE := Lib.hid hle
          have HDL2 := Lib.hid (show n2 ≤ 1099511627776 by have := HDL.out; have := HN2.out; omega)
          have w2' : IntKind.i64.wrap ((n2 : Int) - (ms : Int)) = ((n2 - ms : Nat) : Int) := by have := HDL2.out; simp only [IntKind.wrap, IntKind.bits, IntKind.signed]; simp; omega
          have HFB := Lib.hid (fun m => five_set ((((HKF.out.drewN m).far (p := ⟨w3.heap.size, 0, none⟩) HGE.out (.pointer (some ⟨gd, 0, none⟩))).far (p := ⟨w3.heap.size, 1, none⟩) HGE.out (.int .i64 (k : Int)))) (.pointer (some ⟨gd, 0, none⟩)) (.int .i64 (k : Int)) (.int .i64 (gs : Nat)) (.int .i64 (ls : Nat)) (.int .i64 (ks : Nat)))
          have hw3 : w.heap.size ≤ w3.heap.size := by
            have h1 := HCH.out.size
            have h2 := HB2.out.size
            have h3 := HB3.out.size
            omega
          have HFC := Lib.hid (fun m => (((((((HCF.out.drewN m).set (g := w3.heap.size) (.inr hw3) 0 (.pointer (some ⟨gd, 0, none⟩))).set (g := w3.heap.size) (.inr hw3) 1 (.int .i64 (k : Int))).set (g := g) (.inl rfl) 0 (.pointer (some ⟨gd, 0, none⟩))).set (g := g) (.inl rfl) 1 (.int .i64 (k : Int))).set (g := g) (.inl rfl) 2 (.int .i64 (gs : Nat))).set (g := g) (.inl rfl) 3 (.int .i64 (ls : Nat))).set (g := g) (.inl rfl) 4 (.int .i64 (ks : Nat)))
          have y5 : g ≠ w3.heap.size := HGE.out
          have y6 : w3.heap.size ≠ g := fun e => HGE.out e.symm
          clear h1 h2 hx hxg hxl hxc hxm hle hw3
          go_wp2_with fail
          go_quiet (fail)
          go_wp2_with fail
          go_roundw
          case rel =>
            obtain ⟨x1, x2, x3, x4⟩ := HX.out
            refine ⟨k + 1, by have := HLT.out; omega, by go_num, ?_, ?_, ?_, ?_⟩
            · rw [HNX2.out]
              simp only [Lg.stE]
              rw [HBB.out, HN2.out, x4]
            · rw [HNX2.out]
              simp only [Lg.stB]
              rw [x4]
            · rw [HNX2.out, ← HWF.out]
              simp only [findC, Lg.stA, Lg.stG, Lg.stL, Lg.stC, logC]
              rw [← x1, ← x2, ← x3]
              exact HFB.out _
            · rw [← HWF.out]
              exact HFC.out _
          case measure => have := HLT.out; simp [intOf]; omega
        · have y4 : ¬ ((Lg.stG st : Nat) : Int) < (gs : Int) := by omega
          have HNX2 := Lib.hid (show Lg.stK P (k + 1) = st by
            rw [HNX.out]
            rcases HSV2.out with ⟨h, _⟩ | ⟨x, h, e1, e2, e3, _⟩
            · exact Lg.upd_none h
            · exact Lg.upd_old h (by rw [← e1]; omega))
          clear h1 h2
          go_wp2_with fail
          go_quiet (fail)
          go_wp2_with fail
          go_roundw
          case rel => exact ⟨k + 1, by have := HLT.out; omega, by go_num, by rw [HNX2.out], by rw [HNX2.out], by rw [HNX2.out, ← HWF.out]; exact HKF.out.drewN _, by rw [← HWF.out]; exact HCF.out.drewN _⟩
          case measure => have := HLT.out; simp [intOf]; omega
      · have HN1 := Lib.hid h1
        have HNX2 := Lib.hid (show Lg.stK P (k + 1) = st by
          rw [HNX.out]
          rcases HSV2.out with ⟨h, _⟩ | ⟨x, h, e1, e2, e3, _⟩
          · exact Lg.upd_none h
          · exact Lg.upd_old h (by rw [← e2, ← e3]; omega))
        clear h1
        go_wp2_with fail
        have y3 : decide ((ls : Int) ≤ (ks : Int)) = false := by have := HN1.out; simp; omega
        have y3n : decide (ls ≤ ks) = false := by have := HN1.out; simp; omega
        have y3m : ¬ (ls : Int) ≤ (ks : Int) := by have := HN1.out; omega
        go_quiet (fail)
        go_wp2_with fail
        go_roundw
        case rel => exact ⟨k + 1, by have := HLT.out; omega, by go_num, by rw [HNX2.out], by rw [HNX2.out], by rw [HNX2.out, ← HWF.out]; exact HKF.out.drewN _, by rw [← HWF.out]; exact HCF.out.drewN _⟩
        case measure => have := HLT.out; simp [intOf]; omega
    · have hkk : k = 2 := by omega
      subst hkk
      rw [Lg.stK_two] at hkb HKB ⊢
      have y1 : ¬ ((2 : Nat) : Int) < 2 := by omega
      clear hlt hk2
      by_cases hz : Lg.stB (Lg.best P) = 0
      · have y2 : (((Lg.stB (Lg.best P) : Nat) : Int) == 0) = true := by simp [hz]
        have HR := Lib.hid (show Lg.findD P = (P, 0) by unfold Lg.findD; rw [if_pos hz])
        clear hz hkb hch hdk htb
        go_wp2_with fail
        go_ret
        exact ⟨by rw [HR.out]; rfl, F, by rw [HR.out]; exact HDK.out, fun _ => .inl, HKB.out, HCH.out.more (fun i hi => .inl (.inr hi))⟩
      · have y2 : (((Lg.stB (Lg.best P) : Nat) : Int) == 0) = false := by simp [hz]
        have HR := Lib.hid (show Lg.findD P = P.trim (Lg.stA (Lg.best P)) (Lg.stE P (Lg.best P)) by unfold Lg.findD; rw [if_neg hz])
        have hbd : Below wr.heap.size wr wr.drew := below_drew (Below.refl _ _)
        have HTR := Lib.hid (disk_trim gd (Lg.stA (Lg.best P)) (Lg.stE P (Lg.best P)) P F wr.drew (hdk.kept hbd))
        rw [← HR.out] at HTR
        obtain ⟨k0, k1, k2, k3, k4⟩ := Bk.five hkb
        have HKD := Lib.hid (hkb.kept hbd)
        clear hz hkb hch hdk htb hbd
        go_wp2_with fail
        go_still_tail 11, (by kernel_rfl)
        change wpList _ _ _ _ _ wr.drew
        go_wp2_with fail
        refine HTR.out.mono ?_
        rintro e w5 ⟨rfl, F5, hd5, hF5, hc5⟩
        have HX := Lib.hid (show FindP F g gd P w (.returned (.int .i64 (Lg.findD P).2)) w5 from ⟨rfl, F5, hd5, fun i hi => (hF5 i hi).imp id (fun q => Nat.le_trans HCH.out.size q), hc5.bk HKD.out HOFF.out, ((HCH.out.drewN 1).more (fun i hi => .inl (.inr hi))).same (hc5.more (fun i hi => .inl (.inl hi)))⟩)
        clear hd5 hF5 hc5
        go_wp2_with fail
        go_ret
        exact HX.out
end Go.Proofs.YtmiejaohkgemnaaDoor
