/-
  The program's survey of an area. A walk; no statement.
-/
import Derived.Test.YtmiejaohkgemnaaDoorLogDev2
import Derived.Test.YtmiejaohkgemnaaDoorRefDisk2
import Derived.Deep.RegionHeld3
namespace Go.Proofs.YtmiejaohkgemnaaDoor
open Go.RowKit
open Pk Sh
set_option linter.unusedVariables false
set_option maxRecDepth 100000

theorem info_era : (Tryd.prog.info? 75).map (·.size) = some 5 := by kernel_rfl
def eraV (g l k : Nat) : List Value := [.pointer none, .int .i64 0, .int .i64 g, .int .i64 l, .int .i64 k]
/-- what survey tells -/
def SurvS (b : List UInt8) (n : Nat) (g l k m : Nat) : Prop :=
  (Lg.area b = none ∧ g = 0 ∧ l = 0 ∧ k = 0 ∧ m = n) ∨ ∃ x, Lg.area b = some x ∧ g = x.gen ∧ l = x.laid ∧ k = x.list.length ∧ m = x.rest.length
def SurvP (b : List UInt8) (n : Nat) (w : World) (e : Ending) (w' : World) : Prop :=
  Below w.heap.size w w' ∧ ∃ g l k m R c, e = .returned (.tuple #[.agg #[.pointer none, .int .i64 0, .int .i64 (g : Nat), .int .i64 (l : Nat), .int .i64 (k : Nat)], .slice R m c]) ∧ SurvS b n g l k m
theorem intsF_in : ∀ (f : Nat) (l : List UInt8), ∀ x ∈ (intsF f l).2, 0 ≤ x ∧ x < 4611686018427387904 := by
  intro f
  induction f with
  | zero => intro l x h; simp [intsF] at h
  | succ f ih =>
    intro l x
    rw [intsF]
    split
    · intro h; simp at h
    · split
      · intro h; simp at h
      · split
        · intro h; simp at h
        · intro h
          rcases List.mem_cons.1 h with rfl | h
          · have := rdN_lt l; omega
          · exact ih _ x h
theorem intsN_in (l : List UInt8) : ∀ x ∈ (intsN l).2, 0 ≤ x ∧ x < 4611686018427387904 := intsF_in _ l
namespace Lg
theorem area_none {b : List UInt8} (h : cut b = none) : area b = none := by unfold area; rw [h]
theorem area_bad {b s p r : List UInt8} (h : cut b = some (s, p, r)) (hi : (intsN p).1 ≠ 0 ∨ (intsN p).2.length ≠ 2) : area b = none := by
  unfold area
  rw [h]
  simp only
  split
  · rename_i g n e
    rw [e] at hi
    simp at hi
  · rfl
theorem area_two {b s p r : List UInt8} (h : cut b = some (s, p, r)) {g n : Nat} (hi : intsN p = (0, [(g : Int), (n : Int)])) :
    area b = if s = dig g 0 p then some ⟨g, n, (recs g r.length 1 r).1, (recs g r.length 1 r).2⟩ else none := by
  unfold area
  rw [h]
  simp only [hi]
  simp
end Lg
/-- two numbers, or no area -/
theorem ints_two (p : List UInt8) (h : (intsN p).1 = 0) (h2 : (intsN p).2.length = 2) : ∃ g n : Nat, intsN p = (0, [(g : Int), (n : Int)]) ∧ g < 4611686018427387904 ∧ n < 4611686018427387904 := by
  have hin := intsN_in p
  revert h h2 hin
  generalize intsN p = q
  obtain ⟨a, l⟩ := q
  intro h h2 hin
  simp only at h h2 hin
  subst h
  match l, h2, hin with
  | [x, y], _, hin =>
    have hx := hin x (by simp)
    have hy := hin y (by simp)
    exact ⟨x.toNat, y.toNat, by simp only [Prod.mk.injEq, true_and, List.cons.injEq, and_true]; omega, by omega, by omega⟩
/-- where the loop over the records stands -/
def SvAt (w : World) (A : Option Addr) (n c : Nat) (b r0 : List UInt8) (g l g9 : Nat) (k : Nat) (s : Value) (wr : World) : Prop :=
  ∃ (r : List UInt8) (R : Option Addr) (rc f : Nat), s = .slice R r.length rc ∧ (∀ W, Sl W A n c b → Sl W R r.length rc r) ∧ Bk wr w.heap.size 75 (eraV 0 0 0) ∧ Bk wr g9 75 (eraV g l k) ∧
    Below w.heap.size w wr ∧ w.heap.size < g9 ∧ r.length ≤ f ∧ k + r.length ≤ r0.length ∧ (Lg.recs g r0.length 1 r0).1.length = k + (Lg.recs g f (k + 1) r).1.length ∧ (Lg.recs g r0.length 1 r0).2 = (Lg.recs g f (k + 1) r).2
set_option maxHeartbeats 3200000 in
theorem survey_any (A : Option Addr) (n c : Nat) (b : List UInt8) (w : World) (h : Sl w A n c b) (hT : Tab w) (hn : n ≤ 1099511627776) :
    Calls Tryd.prog 52 #[.slice A n c] w (SurvP b n w) := by
  have HA := Lib.hid h
  have HT := Lib.hid hT
  have HN := Lib.hid hn
  have HL := Lib.hid h.len
  have hb0 := (Below.refl w.heap.size w).alloc (Nat.le_refl _) (.cells (eraV 0 0 0).toArray 75)
  have HB0 := Lib.hid hb0
  have HK0 := Lib.hid (Bk.new w 75 (eraV 0 0 0))
  have HCT := Lib.hid (cut_log A n c b _ (h.below hb0) hn)
  clear h hT hn hb0
  go_enter Tryd.func52, Tryd.ntmps52
  go_wp2_with fail
  refine HCT.out.mono ?_
  rintro e w1 ⟨hb1, ⟨hc, rfl⟩ | ⟨s, p, r, A1, c1, A2, c2, A3, c3, hc, rfl, hsl⟩⟩
  · have HAR := Lib.hid (Lg.area_none hc)
    have hbw := below_next HB0.out hb1 HB0.out.size
    have HBW := Lib.hid (hbw.alloc hbw.size (.cells #[.slice none 0 0, .slice none 0 0] 89))
    have HK1 := Lib.hid ((HK0.out.kept hb1).alloc (.cells #[.slice none 0 0, .slice none 0 0] 89))
    have HI := Lib.hid (fun W => ints_any none 0 0 [] W (Rd.nil_ _ _) (by omega) (by simp [maxLen]) (by omega))
    have HE := Lib.hid (show intsN [] = (0, []) from rfl)
    clear hc hb1 hbw
    go_wp2_with fail
    refine (HI.out _).mono ?_
    rintro e w2 ⟨hb2, ⟨hz, _⟩ | ⟨_, A4, n4, c4, rfl, ho4⟩⟩
    · rw [HE.out] at hz; exact absurd rfl hz
    · rw [HE.out] at ho4
      obtain rfl : n4 = 0 := by simpa using ho4.len.symm
      have k2 := HK1.out.kept hb2
      have HK2 := Lib.hid k2
      have HB2 := Lib.hid (below_next HBW.out hb2 HBW.out.size)
      obtain ⟨q0, q1, q2, q3, q4⟩ := Bk.five k2
      have u0 := k2.frozen 0
      have u1 := k2.frozen 1
      have u2 := k2.frozen 2
      have u3 := k2.frozen 3
      have u4 := k2.frozen 4
      clear hb2 ho4 k2
      go_wp2_with fail
      go_quiet (fail)
      go_wp2_with fail
      refine bodyPost_ret_by (results_row_tmp rfl _ _ w.heap.size 75 _ _ rfl (five_set (HK2.out.drewN _) _ _ _ _ _) Tryd.underlying75 rfl info_era) rfl ?_
      exact ⟨five_below (below_drewN HB2.out _) (Nat.le_refl _) _ _ _ _ _, 0, 0, 0, n, A, c, rfl, .inl ⟨HAR.out, rfl, rfl, rfl, rfl⟩⟩
  · obtain ⟨hcb, hs4, hp⟩ := Lg.cut_some hc
    have HC := Lib.hid hc
    have HP := Lib.hid hp
    have HS := Lib.hid (fun (W : World) (hW : Sl W A n c b) => hsl W hW)
    have hbw := below_next HB0.out hb1 HB0.out.size
    obtain ⟨wf, hwf⟩ : ∃ wf, wf = w1.alloc (.cells #[.slice A1 4 c1, .slice A2 p.length c2] 89) := ⟨_, rfl⟩
    have hbf : Below w.heap.size w wf := by rw [hwf]; exact hbw.alloc hbw.size _
    have HBF := Lib.hid hbf
    have HKF := Lib.hid (show Bk wf w.heap.size 75 (eraV 0 0 0) by rw [hwf]; exact (HK0.out.kept hb1).alloc _)
    have hF := Bk.new w1 89 [.slice A1 4 c1, .slice A2 p.length c2]
    have HF := Lib.hid (show Bk wf w1.heap.size 89 [.slice A1 4 c1, .slice A2 p.length c2] by rw [hwf]; exact hF)
    have hsf := hsl wf (HA.out.below hbf)
    have HI := Lib.hid (ints_any A2 p.length c2 p wf hsf.2.1.rd hsf.2.1.1 hsf.2.1.2.1 (by omega))
    have HW := Lib.hid (show w.heap.size < w1.heap.size from Nat.lt_of_lt_of_le (by simp) hb1.size)
    clear hb1 hbw hbf hF hsf hsl hc hcb hp hs4
    go_wp2_with fail
    rw [← hwf]
    clear hwf
    refine HI.out.mono ?_
    rintro e w2 ⟨hb2, ⟨hz, rfl⟩ | ⟨hz, A4, n4, c4, rfl, ho4⟩⟩
    · have HAR := Lib.hid (Lg.area_bad HC.out (.inl hz))
      have HK2 := Lib.hid (HKF.out.kept hb2)
      have HB2 := Lib.hid (below_next HBF.out hb2 HBF.out.size)
      have k2 := HK2.out
      obtain ⟨q0, q1, q2, q3, q4⟩ := Bk.five k2
      have u0 := k2.frozen 0
      have u1 := k2.frozen 1
      have u2 := k2.frozen 2
      have u3 := k2.frozen 3
      have u4 := k2.frozen 4
      have hne : ((((intsN p).1 : Nat) : Int) != 0) = true := by rw [bne_iff_ne]; omega
      clear hb2 hz k2
      go_wp2_with fail
      go_quiet (fail)
      go_wp2_with fail
      refine bodyPost_ret_by (results_row_tmp rfl _ _ w.heap.size 75 _ _ rfl (five_set (HK2.out.drewN _) _ _ _ _ _) Tryd.underlying75 rfl info_era) rfl ?_
      exact ⟨five_below (below_drewN HB2.out _) (Nat.le_refl _) _ _ _ _ _, 0, 0, 0, n, A, c, rfl, .inl ⟨HAR.out, rfl, rfl, rfl, rfl⟩⟩
    · have hl4 := ho4.len
      have HK2 := Lib.hid (HKF.out.kept hb2)
      have HF2 := Lib.hid (HF.out.kept hb2)
      have HB2 := Lib.hid (below_next HBF.out hb2 HBF.out.size)
      have k2 := HK2.out
      obtain ⟨q0, q1, q2, q3, q4⟩ := Bk.five k2
      have u0 := k2.frozen 0
      have u1 := k2.frozen 1
      have u2 := k2.frozen 2
      have u3 := k2.frozen 3
      have u4 := k2.frozen 4
      by_cases h2 : n4 = 2
      · subst h2
        obtain ⟨g, l, hgl, hg, hl⟩ := ints_two p hz hl4
        rw [hgl] at ho4
        have HGL := Lib.hid hgl
        have HG := Lib.hid hg
        have HLL := Lib.hid hl
        have HRES := Lib.hid (Lg.area_two HC.out hgl)
        obtain ⟨gi, cap, hv, _, hlt⟩ := ho4.form (by omega)
        have hA4 : A4 = some ⟨gi, 0, none⟩ := by injection hv
        subst hA4
        have i0 : w2.cell? ⟨gi, 0, none⟩ = some (.int .i64 (g : Int)) := by
          have := ho4.cells (g := gi) rfl 0 (.int .i64 (g : Int)) rfl
          simpa [at_add] using this
        have i1 : w2.cell? ⟨gi, 1, none⟩ = some (.int .i64 (l : Int)) := by
          have := ho4.cells (g := gi) rfl 1 (.int .i64 (l : Int)) rfl
          simpa [at_add] using this
        obtain ⟨t0, t1⟩ := HF2.out.two
        have HI2 := Lib.hid (And.intro i0 i1)
        have hsf := HS.out w2 (HA.out.below HB2.out)
        have HST := Lib.hid (show ∀ W, Below w2.heap.size w2 W → Calls Tryd.prog 73 #[.agg #[.slice A1 4 c1, .slice A2 p.length c2], .int .i64 g, .int .i64 0] W (fun e w' => e = .returned (.bool (decide (s = Lg.dig g 0 p))) ∧ Below w2.heap.size w2 w') from fun W hW =>
          (stands_any g 0 A1 A2 4 c1 p.length c2 s p W (hsf.1.below hW) (hsf.2.1.below hW) ((HT.out.still HB2.out).still hW) HP.out HG.out (by omega)).mono fun e w' ⟨he, hbl⟩ => ⟨he, below_next hW hbl hW.size⟩)
        have HLI := Lib.hid (show gi < w2.heap.size from hlt)
        clear hb2 hz k2 hl4 ho4 hv hlt hsf hgl hg hl
        have hw := Below.refl w2.heap.size w2
        cases hd : decide (s = Lg.dig g 0 p)
        · rw [hd] at HST
          have HAR := Lib.hid (show Lg.area b = none by rw [HRES.out, if_neg (by simpa using hd)])
          clear hd
          go_wp2_with fail
          go_region_held3 (fun w' => (w'.cell? ⟨w1.heap.size, 0, none⟩ = some (.slice A1 4 c1) ∧ w'.cell? ⟨w1.heap.size, 1, none⟩ = some (.slice A2 p.length c2)) ∧ w'.cell? ⟨gi, 0, none⟩ = some (.int .i64 (g : Int))) (first | go_keep | exact ⟨⟨t0, t1⟩, i0⟩ | exact ⟨KA.out.two, (hw.cell (p := ⟨gi, 0, none⟩) HLI.out).trans i0⟩)
            (first
              | (go_at_call 73; with_reducible refine (HST.out _ ?_).mono ?_
                 focus first | with_reducible exact hw | with_reducible exact below_drew hw
                 rintro e w3 ⟨rfl, hb3⟩
                 have KA := Lib.hid (HF2.out.kept hb3)
                 replace hw := hb3
                 clear hb3))
          clear q0 q1 q2 q3 q4 u0 u1 u2 u3 u4
          have k3 := HK2.out.kept hw
          obtain ⟨q0, q1, q2, q3, q4⟩ := Bk.five k3
          have u0 := k3.frozen 0
          have u1 := k3.frozen 1
          have u2 := k3.frozen 2
          have u3 := k3.frozen 3
          have u4 := k3.frozen 4
          have HK3 := Lib.hid (HK2.out.kept hw)
          have HB3 := Lib.hid (below_next HB2.out hw HB2.out.size)
          clear k3
          go_wp2_with fail
          refine bodyPost_ret_by (results_row_tmp rfl _ _ w.heap.size 75 _ _ rfl (five_set (HK3.out) _ _ _ _ _) Tryd.underlying75 rfl info_era) rfl ?_
          exact ⟨five_below (HB3.out) (Nat.le_refl _) _ _ _ _ _, 0, 0, 0, n, A, c, rfl, .inl ⟨HAR.out, rfl, rfl, rfl, rfl⟩⟩
        · rw [hd] at HST
          have hde : s = Lg.dig g 0 p := by simpa using hd
          have HAR := Lib.hid (show Lg.area b = some ⟨g, l, (Lg.recs g r.length 1 r).1, (Lg.recs g r.length 1 r).2⟩ by rw [HRES.out, if_pos hde])
          clear hd hde HRES
          go_wp2_with fail
          go_region_held3 (fun w' => (w'.cell? ⟨w1.heap.size, 0, none⟩ = some (.slice A1 4 c1) ∧ w'.cell? ⟨w1.heap.size, 1, none⟩ = some (.slice A2 p.length c2)) ∧ w'.cell? ⟨gi, 0, none⟩ = some (.int .i64 (g : Int))) (first | go_keep | exact ⟨⟨t0, t1⟩, i0⟩ | exact ⟨KA.out.two, (hw.cell (p := ⟨gi, 0, none⟩) HLI.out).trans i0⟩)
            (first
              | (go_at_call 73; with_reducible refine (HST.out _ ?_).mono ?_
                 focus first | with_reducible exact hw | with_reducible exact below_drew hw
                 rintro e w3 ⟨rfl, hb3⟩
                 have KA := Lib.hid (HF2.out.kept hb3)
                 replace hw := hb3
                 clear hb3))
          clear q0 q1 q2 q3 q4 u0 u1 u2 u3 u4
          have HK3 := Lib.hid (HK2.out.kept hw)
          have HB3 := Lib.hid (below_next HB2.out hw HB2.out.size)
          have j0 := (hw.cell (p := ⟨gi, 0, none⟩) HLI.out).trans i0
          have j1 := (hw.cell (p := ⟨gi, 1, none⟩) HLI.out).trans i1
          have hgi : gi < w3.heap.size := Nat.lt_of_lt_of_le HLI.out hw.size
          have hz3 := (Below.refl w3.heap.size w3).alloc (Nat.le_refl _) (.cells #[.pointer none, .int .i64 0, .int .i64 0, .int .i64 0, .int .i64 0] 75)
          have j0' := (hz3.cell (p := ⟨gi, 0, none⟩) hgi).trans j0
          have j1' := (hz3.cell (p := ⟨gi, 1, none⟩) hgi).trans j1
          clear i0 i1 t0 t1 KA hw hz3
          go_wp2_with fail
          go_region
          obtain ⟨wl, hwl⟩ : ∃ wl, wl = (w3.alloc (.cells #[.pointer none, .int .i64 0, .int .i64 (g : Int), .int .i64 (l : Int), .int .i64 0] 75)).drew := ⟨_, rfl⟩
          rw [← hwl]
          have HBL := Lib.hid (show Below w.heap.size w wl by rw [hwl]; exact below_drew (HB3.out.alloc HB3.out.size _))
          have HKL := Lib.hid (show Bk wl w.heap.size 75 (eraV 0 0 0) by rw [hwl]; exact (HK3.out.alloc _).drewN 1)
          have HK9 := Lib.hid (show Bk wl w3.heap.size 75 (eraV g l 0) by rw [hwl]; exact (Bk.new w3 _ _).drewN 1)
          have HG9 := Lib.hid (show w.heap.size < w3.heap.size from HK3.out.lt)
          have HRL := Lib.hid (show r.length ≤ n by have := Lg.cut_len HC.out; have := HL.out; omega)
          have HSR := Lib.hid (fun (W : World) (hW : Sl W A n c b) => (HS.out W hW).2.2)
          generalize w3.heap.size = g9 at *
          clear hwl hgi j0 j1 j0' j1' HB3 HK3 HI2 HF2 HLI HST HK2 HB2 HI HF HKF HBF HS HCT HW
          go_wp2_with fail
          go_loopw [5] (fun s wr => ∃ k, SvAt w A n c b r g l g9 k s wr) (fun s _ => match s with | .slice _ n _ => n | _ => 0)
          case atStart => exact ⟨0, r, A3, c3, r.length, rfl, HSR.out, HKL.out, HK9.out, HBL.out, HG9.out, Nat.le_refl _, by omega, by simp, rfl⟩
          case round =>
            clear HKL HK9 HBL HSR
            obtain ⟨k, r', R, rc, f, rfl, hsl, kz, k9, hb, hg9, hf, hkr, hr1, hr2⟩ := hrel
            have hsw := hsl wr (HA.out.below hb)
            have hrn : r'.length ≤ 1099511627776 := by have := HRL.out; have := HN.out; omega
            have HCT := Lib.hid (cut_log R r'.length rc r' wr hsw hrn)
            have HSL := Lib.hid hsl
            have HB := Lib.hid hb
            have HKZ := Lib.hid kz
            have HK9 := Lib.hid k9
            have HF := Lib.hid hf
            have HKR := Lib.hid hkr
            have HR1 := Lib.hid hr1
            have HR2 := Lib.hid hr2
            clear hsl hb kz k9 hf hkr hr1 hr2 hsw hrn
            go_wp2_with fail
            refine HCT.out.mono ?_
            rintro e w5 ⟨hb5, ⟨hc, rfl⟩ | ⟨s2, p2, r2, B1, d1, B2, d2, B3, d3, hc, rfl, hsl2⟩⟩
            · have HEND := Lib.hid (show k = (Lg.recs g r.length 1 r).1.length ∧ r'.length = (Lg.recs g r.length 1 r).2.length by rw [HR1.out, HR2.out, Lg.recs_none hc]; simp)
              have kz5 := (HKZ.out.kept hb5).alloc (.cells #[.slice none 0 0, .slice none 0 0] 89)
              have k95 := (HK9.out.kept hb5).alloc (.cells #[.slice none 0 0, .slice none 0 0] 89)
              have hb5' := below_next HB.out hb5 HB.out.size
              have HBZ := Lib.hid (hb5'.alloc hb5'.size (.cells #[.slice none 0 0, .slice none 0 0] 89))
              have HKZ := Lib.hid kz5
              have k3 := kz5
              obtain ⟨q0, q1, q2, q3, q4⟩ := Bk.five k3
              have u0 := k3.frozen 0
              have u1 := k3.frozen 1
              have u2 := k3.frozen 2
              have u3 := k3.frozen 3
              have u4 := k3.frozen 4
              have k4 := k95
              obtain ⟨q0n, q1n, q2n, q3n, q4n⟩ := Bk.five k4
              have u0n := k4.frozen 0
              have u1n := k4.frozen 1
              have u2n := k4.frozen 2
              have u3n := k4.frozen 3
              have u4n := k4.frozen 4
              clear hc hb5 kz5 k95 hb5' k3 k4
              go_wp2_with fail
              refine bodyPost_ret_by (results_row_tmp rfl _ _ w.heap.size 75 _ _ rfl (five_set HKZ.out _ _ _ _ _) Tryd.underlying75 rfl info_era) rfl ?_
              exact ⟨five_below HBZ.out (Nat.le_refl _) _ _ _ _ _, g, l, k, r'.length, R, rc, rfl, .inr ⟨_, HAR.out, rfl, rfl, HEND.out.1, HEND.out.2⟩⟩
            · have HC2 := Lib.hid hc
              have hlen2 := Lg.cut_len hc
              have hp2 := (Lg.cut_some hc).2.2
              have HLN2 := Lib.hid hlen2
              have HSL2 := Lib.hid hsl2
              obtain ⟨wg, hwg⟩ : ∃ wg, wg = w5.alloc (.cells #[.slice B1 4 d1, .slice B2 p2.length d2] 89) := ⟨_, rfl⟩
              have kz5 : Bk wg w.heap.size 75 (eraV 0 0 0) := by rw [hwg]; exact (HKZ.out.kept hb5).alloc _
              have k95 : Bk wg g9 75 (eraV g l k) := by rw [hwg]; exact (HK9.out.kept hb5).alloc _
              have kf5 : Bk wg w5.heap.size 89 [.slice B1 4 d1, .slice B2 p2.length d2] := by rw [hwg]; exact Bk.new _ _ _
              have hb5' : Below w.heap.size w wg := by rw [hwg]; have h := below_next HB.out hb5 HB.out.size; exact h.alloc h.size _
              have hsr := HSL.out wg (HA.out.below hb5')
              have hs2 := hsl2 wg hsr
              have hst := stands_any g (k + 1) B1 B2 4 d1 p2.length d2 s2 p2 wg hs2.1 hs2.2.1 (HT.out.still hb5') hp2 HG.out (by have := HKR.out; have := HRL.out; have := HN.out; omega)
              rw [show ((k + 1 : Nat) : Int) = (k : Int) + 1 by omega] at hst
              have HST := Lib.hid hst
              have HBG := Lib.hid hb5'
              have HKZ5 := Lib.hid kz5
              have HK95 := Lib.hid k95
              rw [hwg] at kf5
              obtain ⟨f0, f1⟩ := kf5.two
              have w1' : IntKind.i64.wrap ((k : Int) + 1) = (k : Int) + 1 := by
                have := HKR.out; have := HRL.out; have := HN.out
                simp only [IntKind.wrap, IntKind.bits, IntKind.signed]; simp; omega
              rw [hwg] at k95
              obtain ⟨q0, q1, q2, q3, q4⟩ := Bk.five k95
              have e1 : (2 : Nat) ≤ 4 := by omega
              clear hc hlen2 hp2 hsl2 kz5 k95 kf5 hb5' hsr hs2 hst hb5
              cases hd : decide (s2 = Lg.dig g (k + 1) p2)
              · rw [hd] at HST
                have HEND := Lib.hid (show k = (Lg.recs g r.length 1 r).1.length ∧ r'.length = (Lg.recs g r.length 1 r).2.length by rw [HR1.out, HR2.out, Lg.recs_bad HC2.out (by simpa using hd)]; simp)
                clear hd
                go_wp2_with fail
                rw [← hwg]
                clear hwg
                refine HST.out.mono ?_
                rintro e w6 ⟨rfl, hb6⟩
                have HKZ := Lib.hid (HKZ5.out.kept hb6)
                have HBZ := Lib.hid (below_next HBG.out hb6 HBG.out.size)
                clear q0 q1 q2 q3 q4 f0 f1
                have k3 := HKZ.out
                obtain ⟨q0, q1, q2, q3, q4⟩ := Bk.five k3
                have u0 := k3.frozen 0
                have u1 := k3.frozen 1
                have u2 := k3.frozen 2
                have u3 := k3.frozen 3
                have u4 := k3.frozen 4
                have k4 := HK95.out.kept hb6
                obtain ⟨q0n, q1n, q2n, q3n, q4n⟩ := Bk.five k4
                have u0n := k4.frozen 0
                have u1n := k4.frozen 1
                have u2n := k4.frozen 2
                have u3n := k4.frozen 3
                have u4n := k4.frozen 4
                clear hb6 k3 k4
                go_wp2_with fail
                refine bodyPost_ret_by (results_row_tmp rfl _ _ w.heap.size 75 _ _ rfl (five_set HKZ.out _ _ _ _ _) Tryd.underlying75 rfl info_era) rfl ?_
                exact ⟨five_below HBZ.out (Nat.le_refl _) _ _ _ _ _, g, l, k, r'.length, R, rc, rfl, .inr ⟨_, HAR.out, rfl, rfl, HEND.out.1, HEND.out.2⟩⟩
              · rw [hd] at HST
                have hde : s2 = Lg.dig g (k + 1) p2 := by simpa using hd
                have HNX := Lib.hid (show ∃ f', r2.length ≤ f' ∧ (Lg.recs g r.length 1 r).1.length = (k + 1) + (Lg.recs g f' (k + 1 + 1) r2).1.length ∧ (Lg.recs g r.length 1 r).2 = (Lg.recs g f' (k + 1 + 1) r2).2 by
                  have := HLN2.out
                  have := HF.out
                  obtain ⟨f', rfl⟩ : ∃ f', f = f' + 1 := ⟨f - 1, by omega⟩
                  refine ⟨f', by omega, ?_, ?_⟩
                  · rw [HR1.out, Lg.recs_next HC2.out hde, List.length_cons]; omega
                  · rw [HR2.out, Lg.recs_next HC2.out hde])
                clear hd hde
                go_wp2_with fail
                rw [← hwg]
                clear hwg
                refine HST.out.mono ?_
                rintro e w6 ⟨rfl, hb6⟩
                have HKZ := Lib.hid (HKZ5.out.kept hb6)
                have HBZ := Lib.hid (below_next HBG.out hb6 HBG.out.size)
                have HK96 := Lib.hid (HK95.out.kept hb6)
                clear q0 q1 q2 q3 q4 f0 f1
                have k4 := HK96.out
                obtain ⟨q0n, q1n, q2n, q3n, q4n⟩ := Bk.five k4
                have u0n := k4.frozen 0
                have u1n := k4.frozen 1
                have u2n := k4.frozen 2
                have u3n := k4.frozen 3
                have u4n := k4.frozen 4
                clear hb6 k4
                go_wp2_with fail
                go_roundw
                case rel =>
                  obtain ⟨f', h1, h2, h3⟩ := HNX.out
                  have hne : w.heap.size ≠ g9 := by have := HG9.out; omega
                  exact ⟨k + 1, r2, B3, d3, f', rfl, (fun W hW => (HSL2.out W (HSL.out W hW)).2.2), HKZ.out.far (p := ⟨g9, 4, none⟩) hne _, (by have := HK96.out.set 4 (.int .i64 ((k : Int) + 1)); simpa [eraV] using this), below_set HBZ.out (Nat.le_of_lt HG9.out) 4 _, HG9.out, h1, (by have := HLN2.out; have := HKR.out; omega), h2, h3⟩
                case measure => show r2.length < r'.length; have := HLN2.out; omega
      · have HAR := Lib.hid (Lg.area_bad HC.out (.inr (by omega)))
        have hne : ((n4 : Int) != 2) = true := by rw [bne_iff_ne]; omega
        clear hb2 hz k2 hl4 h2 ho4
        go_wp2_with fail
        go_quiet (fail)
        go_wp2_with fail
        refine bodyPost_ret_by (results_row_tmp rfl _ _ w.heap.size 75 _ _ rfl (five_set (HK2.out.drewN _) _ _ _ _ _) Tryd.underlying75 rfl info_era) rfl ?_
        exact ⟨five_below (below_drewN HB2.out _) (Nat.le_refl _) _ _ _ _ _, 0, 0, 0, n, A, c, rfl, .inl ⟨HAR.out, rfl, rfl, rfl, rfl⟩⟩
end Go.Proofs.YtmiejaohkgemnaaDoor
