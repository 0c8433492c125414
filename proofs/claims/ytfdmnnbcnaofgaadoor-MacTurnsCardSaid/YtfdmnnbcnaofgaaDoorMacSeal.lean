import Derived.Test.YtfdmnnbcnaofgaaDoorMacOpen
import Derived.Deep.CutRange
namespace Go.Proofs.YtfdmnnbcnaofgaaDoor
open Go.RowKit
open Pk Sh
set_option linter.unusedVariables false

theorem layOver_own (A : Option Addr) (n c base : Nat) (t : List UInt8) (w : World) (h : OwnB w base A n c t) (hn : 0 < n) (hb : base ≤ w.heap.size) :
    Calls Tryd.prog 42 #[.slice A n c, .int .u8 255] w fun e w' => e = .returned (.tuple #[]) ∧ OwnB w' base A n c (turned t) ∧ Below base w w' := by
  obtain ⟨g, rfl, hg, hnc, hcm, rest, hbk, hlen⟩ := own_at h hn
  refine (show Calls Tryd.prog 42 #[.slice (some ⟨g, 0, none⟩) n c, .int .u8 255] w _ from layOver_any g n c t rest 255 w hbk h.len (by omega)).mono ?_
  rintro e w' ⟨rfl, h2, h3⟩
  refine ⟨rfl, own_back (show Bk w' g 5 ((turned t).map bv ++ rest) from h2) (by rw [← hlen]; simp [turned]) hg (by rw [turned_len, h.len]) hnc hcm, (Below.refl _ _).grown h3 hb (fun k e => by injection e with e; omega)⟩

theorem kept_drew {Y w' : World} {g : Nat} {t : TypeId} {cs : List Value} (hb : Below Y.drew.heap.size Y.drew w') (h : Bk Y g t cs) : Bk w' g t cs :=
  (show Bk Y.drew g t cs from h).kept hb
theorem Bk.two {w : World} {g : Nat} {t : TypeId} {a b : Value} (h : Bk w g t [a, b]) : w.cell? ⟨g, 0, none⟩ = some a ∧ w.cell? ⟨g, 1, none⟩ = some b := ⟨h.at_ rfl, h.at_ rfl⟩
theorem Bk.five_far {w : World} {g g' : Nat} {t : TypeId} {cs : List Value} (h : Bk w g t cs) (hne : g ≠ g') (a b c d e : Value) :
    Bk (((((w.setCell ⟨g', 0, none⟩ a).setCell ⟨g', 1, none⟩ b).setCell ⟨g', 2, none⟩ c).setCell ⟨g', 3, none⟩ d).setCell ⟨g', 4, none⟩ e) g t cs :=
  ((((h.far hne a).far hne b).far hne c).far hne d).far hne e
/-- the letter ahead of its tags -/
def SealMid (f1 f2 r : Int) (body : List UInt8) (w : World) (p : Value) (wx : World) : Prop :=
  ∃ g A n c, p = .pointer (some ⟨g, 0, none⟩) ∧ Bk wx g 37 [.int .i64 f1, .int .i64 f2, .int .i64 r, .slice A n c, .slice none 0 0] ∧ OwnB wx (w.heap.size + 2) A n c body ∧ w.heap.size + 2 ≤ g ∧
    Below (w.heap.size + 2) ((w.alloc (.cells #[.int .i64 f1, .int .i64 f2] 28)).alloc (.cells #[.int .i64 0, .int .i64 0, .int .i64 0, .slice none 0 0, .slice none 0 0] 37)) wx

/-- the letter goes into the answer's cell -/
theorem seal_end {f1 f2 r : Int} {A1 E : Option Addr} {n1 c1 k d' : Nat} {body : List UInt8} {tags : List (List UInt8)} {w wr : World} (kr : Bk wr (w.heap.size + 1) 37 [.int .i64 0, .int .i64 0, .int .i64 0, .slice none 0 0, .slice none 0 0])
    (hob : OwnB wr (w.heap.size + 2) A1 n1 c1 body) (hrs : OwnRs wr (w.heap.size + 2) E k d' tags) (hb : Below w.heap.size w wr) :
    Bk (((((wr.setCell ⟨w.heap.size + 1, 0, none⟩ (.int .i64 f1)).setCell ⟨w.heap.size + 1, 1, none⟩ (.int .i64 f2)).setCell ⟨w.heap.size + 1, 2, none⟩ (.int .i64 r)).setCell ⟨w.heap.size + 1, 3, none⟩ (.slice A1 n1 c1)).setCell ⟨w.heap.size + 1, 4, none⟩ (.slice E k d')) (w.heap.size + 1) 37 [.int .i64 f1, .int .i64 f2, .int .i64 r, .slice A1 n1 c1, .slice E k d'] ∧
    OwnB (((((wr.setCell ⟨w.heap.size + 1, 0, none⟩ (.int .i64 f1)).setCell ⟨w.heap.size + 1, 1, none⟩ (.int .i64 f2)).setCell ⟨w.heap.size + 1, 2, none⟩ (.int .i64 r)).setCell ⟨w.heap.size + 1, 3, none⟩ (.slice A1 n1 c1)).setCell ⟨w.heap.size + 1, 4, none⟩ (.slice E k d')) w.heap.size A1 n1 c1 body ∧
    OwnRs (((((wr.setCell ⟨w.heap.size + 1, 0, none⟩ (.int .i64 f1)).setCell ⟨w.heap.size + 1, 1, none⟩ (.int .i64 f2)).setCell ⟨w.heap.size + 1, 2, none⟩ (.int .i64 r)).setCell ⟨w.heap.size + 1, 3, none⟩ (.slice A1 n1 c1)).setCell ⟨w.heap.size + 1, 4, none⟩ (.slice E k d')) w.heap.size E k d' tags ∧
    Below w.heap.size w (((((wr.setCell ⟨w.heap.size + 1, 0, none⟩ (.int .i64 f1)).setCell ⟨w.heap.size + 1, 1, none⟩ (.int .i64 f2)).setCell ⟨w.heap.size + 1, 2, none⟩ (.int .i64 r)).setCell ⟨w.heap.size + 1, 3, none⟩ (.slice A1 n1 c1)).setCell ⟨w.heap.size + 1, 4, none⟩ (.slice E k d')) := by
  have gg := grown_set (grown_set (grown_set (grown_set (grown_set (grown_refl wr (some (w.heap.size + 1))) 0 (.int .i64 f1)) 1 (.int .i64 f2)) 2 (.int .i64 r)) 3 (.slice A1 n1 c1)) 4 (.slice E k d')
  refine ⟨((((kr.set 0 (.int .i64 f1)).set 1 (.int .i64 f2)).set 2 (.int .i64 r)).set 3 (.slice A1 n1 c1)).set 4 (.slice E k d'), (hob.off kr (by decide) gg).more (by omega), (hrs.off kr (by decide) (by decide) gg).more (by omega), ?_⟩
  exact below_set (below_set (below_set (below_set (below_set hb (by omega) 0 _) (by omega) 1 _) (by omega) 2 _) (by omega) 3 _) (by omega) 4 _

set_option maxHeartbeats 1600000 in
set_option maxRecDepth 100000 in
theorem seal_any (A B D : Option Addr) (n c m d p q : Nat) (s body : List UInt8) (f : Int × Int) (r count : Int) (bad : List Int) (w : World) (h : Sl w A n c s) (hb : Sl w B m d body) (hi : Rd w D p (bad.map iv)) (hT : Tab w) (hn : n ≤ 65536) (hm : m ≤ 65536) (hp : p ≤ 4294967296) :
    Calls Tryd.prog 22 #[.slice A n c, .agg #[.int .i64 f.1, .int .i64 f.2], .int .i64 r, .int .i64 count, .slice B m d, .slice D p q] w (FreshL f.1 f.2 r body (tagsN s f r body bad (upTo count)) w) := by
  obtain ⟨i0, hi0, hz0, hz1, hz2⟩ := info_parts info_bytes
  obtain ⟨f1, f2⟩ := f
  have b0 := ((Below.refl w.heap.size w).alloc (Nat.le_refl _) (.cells #[.int .i64 f1, .int .i64 f2] 28)).alloc (by simp) (.cells #[.int .i64 0, .int .i64 0, .int .i64 0, .slice none 0 0, .slice none 0 0] 37)
  have HB0 := Lib.hid b0
  have HK0 := Lib.hid ((Bk.new w 28 [.int .i64 f1, .int .i64 f2]).alloc (.cells #[.int .i64 0, .int .i64 0, .int .i64 0, .slice none 0 0, .slice none 0 0] 37))
  have hk1 := Bk.new (w.alloc (.cells #[.int .i64 f1, .int .i64 f2] 28)) 37 [.int .i64 0, .int .i64 0, .int .i64 0, .slice none 0 0, .slice none 0 0]
  rw [show (w.alloc (.cells #[.int .i64 f1, .int .i64 f2] 28)).heap.size = w.heap.size + 1 by simp] at hk1
  have HK1 := Lib.hid hk1
  have HS := Lib.hid h
  have HBO := Lib.hid hb
  have HI := Lib.hid hi
  have HT := Lib.hid hT
  have HC := Lib.hid (show ∀ W, Rd W B m (body.map bv) → Calls Tryd.prog 39 #[.slice B m d] W (fun e w' => ∃ A1 n1 c1, e = .returned (.slice A1 n1 c1) ∧ OwnB w' W.heap.size A1 n1 c1 body ∧ Below W.heap.size W w') from fun W hW => clone_any B m d body W hW (by omega))
  have HRB := Lib.hid (hb.below b0).rd
  have hz := Bk.new ((w.alloc (.cells #[.int .i64 f1, .int .i64 f2] 28)).alloc (.cells #[.int .i64 0, .int .i64 0, .int .i64 0, .slice none 0 0, .slice none 0 0] 37)) 37 [.int .i64 0, .int .i64 0, .int .i64 0, .slice none 0 0, .slice none 0 0]
  rw [show ((w.alloc (.cells #[.int .i64 f1, .int .i64 f2] 28)).alloc (.cells #[.int .i64 0, .int .i64 0, .int .i64 0, .slice none 0 0, .slice none 0 0] 37)).heap.size = w.heap.size + 1 + 1 by simp] at hz
  have HZ := Lib.hid hz
  clear b0 hk1 h hb hi hT hz
  go_enter Tryd.func22, Tryd.ntmps22
  go_upto_region 1 with fail
  go_cut [13] from 16 to 20 (fun p wx => SealMid f1 f2 r body w p wx)
  case first =>
    go_region_held3 (fun w' => w'.cell? ⟨w.heap.size, 0, none⟩ = some (.int .i64 f1) ∧ w'.cell? ⟨w.heap.size, 1, none⟩ = some (.int .i64 f2)) (first | go_keep | with_reducible exact KA.two | with_reducible exact (KA.alloc _).two | exact (KA.five_far (by omega) _ _ _ _ _).two)
      ((go_at_call 39; with_reducible refine (HC.out _ ?_).mono ?_; focus first | exact HRB.out | exact HRB.out.drew | exact HRB.out.alloc _ | exact (HRB.out.alloc _).drew
        rintro e w' ⟨A1, n1, c1, rfl, ho1, hb1⟩
        have KA : Bk w' w.heap.size 28 [.int .i64 f1, .int .i64 f2] := by
          first
            | with_reducible exact kept_drew hb1 HK0.out
            | with_reducible exact kept_drew hb1 (HK0.out.alloc _)
        try
          have kz : Bk w' (w.heap.size + 1 + 1) 37 [.int .i64 0, .int .i64 0, .int .i64 0, .slice none 0 0, .slice none 0 0] := by with_reducible exact kept_drew hb1 HZ.out
          obtain ⟨q0, q1, q2, q3, q4⟩ := kz.five
          have v0 := kz.frozen 0
          have v1 := kz.frozen 1
          have v2 := kz.frozen 2
          have v3 := kz.frozen 3
          have v4 := kz.frozen 4))
    focus
      have hb2 : Below _ ((w.alloc (.cells #[.int .i64 f1, .int .i64 f2] 28)).alloc (.cells #[.int .i64 0, .int .i64 0, .int .i64 0, .slice none 0 0, .slice none 0 0] 37)) w' := below_undrawn (n := 1) (show Below _ (World.drewN ((w.alloc (.cells #[.int .i64 f1, .int .i64 f2] 28)).alloc (.cells #[.int .i64 0, .int .i64 0, .int .i64 0, .slice none 0 0, .slice none 0 0] 37)) 1) w' from hb1)
      have hb3 : Below (w.heap.size + 2) ((w.alloc (.cells #[.int .i64 f1, .int .i64 f2] 28)).alloc (.cells #[.int .i64 0, .int .i64 0, .int .i64 0, .slice none 0 0, .slice none 0 0] 37)) w' := hb2.mono (by show w.heap.size + 2 ≤ (((w.alloc (.cells #[.int .i64 f1, .int .i64 f2] 28)).alloc (.cells #[.int .i64 0, .int .i64 0, .int .i64 0, .slice none 0 0, .slice none 0 0] 37))).heap.size; simp)
      have hsz : w.heap.size + 2 ≤ w'.heap.size := by have := hb2.size; simp at this; omega
      have HM := Lib.hid (show SealMid f1 f2 r body w (.pointer (some ⟨w'.heap.size, 0, none⟩)) (w'.alloc (.cells #[.int .i64 f1, .int .i64 f2, .int .i64 r, .slice A1 n1 c1, .slice none 0 0] 37)) from
        ⟨_, A1, n1, c1, rfl, Bk.new _ _ _, (ho1.more (by show w.heap.size + 2 ≤ (((w.alloc (.cells #[.int .i64 f1, .int .i64 f2] 28)).alloc (.cells #[.int .i64 0, .int .i64 0, .int .i64 0, .slice none 0 0, .slice none 0 0] 37))).heap.size; simp)).alloc _, hsz, hb3.alloc hsz _⟩)
      clear ho1 hb1 hb2 hb3
      go_wp2_with fail
      go_meet
      exact HM.out
    focus
      have hb2 : Below _ (((w.alloc (.cells #[.int .i64 f1, .int .i64 f2] 28)).alloc (.cells #[.int .i64 0, .int .i64 0, .int .i64 0, .slice none 0 0, .slice none 0 0] 37)).alloc (.cells #[.int .i64 0, .int .i64 0, .int .i64 0, .slice none 0 0, .slice none 0 0] 37)) w' := below_undrawn (n := 1) (show Below _ (World.drewN (((w.alloc (.cells #[.int .i64 f1, .int .i64 f2] 28)).alloc (.cells #[.int .i64 0, .int .i64 0, .int .i64 0, .slice none 0 0, .slice none 0 0] 37)).alloc (.cells #[.int .i64 0, .int .i64 0, .int .i64 0, .slice none 0 0, .slice none 0 0] 37)) 1) w' from hb1)
      have hb3 : Below (w.heap.size + 2) ((w.alloc (.cells #[.int .i64 f1, .int .i64 f2] 28)).alloc (.cells #[.int .i64 0, .int .i64 0, .int .i64 0, .slice none 0 0, .slice none 0 0] 37)) w' := (((Below.refl (w.heap.size + 2) ((w.alloc (.cells #[.int .i64 f1, .int .i64 f2] 28)).alloc (.cells #[.int .i64 0, .int .i64 0, .int .i64 0, .slice none 0 0, .slice none 0 0] 37))).alloc (by show w.heap.size + 2 ≤ (((w.alloc (.cells #[.int .i64 f1, .int .i64 f2] 28)).alloc (.cells #[.int .i64 0, .int .i64 0, .int .i64 0, .slice none 0 0, .slice none 0 0] 37))).heap.size; simp) (.cells #[.int .i64 0, .int .i64 0, .int .i64 0, .slice none 0 0, .slice none 0 0] 37)).trans (hb2.mono (by show w.heap.size + 2 ≤ (((w.alloc (.cells #[.int .i64 f1, .int .i64 f2] 28)).alloc (.cells #[.int .i64 0, .int .i64 0, .int .i64 0, .slice none 0 0, .slice none 0 0] 37)).alloc (.cells #[.int .i64 0, .int .i64 0, .int .i64 0, .slice none 0 0, .slice none 0 0] 37)).heap.size; simp)))
      have kk := ((((kz.set 0 (.int .i64 f1)).set 1 (.int .i64 f2)).set 2 (.int .i64 r)).set 3 (.slice A1 n1 c1)).set 4 (.slice none 0 0)
      have gg := grown_set (grown_set (grown_set (grown_set (grown_set (grown_refl w' (some (w.heap.size + 1 + 1))) 0 (.int .i64 f1)) 1 (.int .i64 f2)) 2 (.int .i64 r)) 3 (.slice A1 n1 c1)) 4 (.slice none 0 0)
      have HM := Lib.hid (show SealMid f1 f2 r body w (.pointer (some ⟨w.heap.size + 1 + 1, 0, none⟩)) (((((w'.setCell ⟨w.heap.size + 1 + 1, 0, none⟩ (.int .i64 f1)).setCell ⟨w.heap.size + 1 + 1, 1, none⟩ (.int .i64 f2)).setCell ⟨w.heap.size + 1 + 1, 2, none⟩ (.int .i64 r)).setCell ⟨w.heap.size + 1 + 1, 3, none⟩ (.slice A1 n1 c1)).setCell ⟨w.heap.size + 1 + 1, 4, none⟩ (.slice none 0 0)) from
        ⟨_, A1, n1, c1, rfl, kk, (ho1.more (by show w.heap.size + 2 ≤ (((w.alloc (.cells #[.int .i64 f1, .int .i64 f2] 28)).alloc (.cells #[.int .i64 0, .int .i64 0, .int .i64 0, .slice none 0 0, .slice none 0 0] 37)).alloc (.cells #[.int .i64 0, .int .i64 0, .int .i64 0, .slice none 0 0, .slice none 0 0] 37)).heap.size; simp)).off kz (by decide) gg, Nat.le_refl _, below_set (below_set (below_set (below_set (below_set hb3 (Nat.le_refl _) 0 _) (Nat.le_refl _) 1 _) (Nat.le_refl _) 2 _) (Nat.le_refl _) 3 _) (Nat.le_refl _) 4 _⟩)
      clear ho1 hb1 hb2 hb3 kk gg kz
      go_wp2_with fail
      go_meet
      exact HM.out
  case rest =>
    obtain ⟨g, A1, n1, c1, rfl, hk, ho, hg2, hz⟩ := hcut
    have HKC := Lib.hid hk
    have HOC := Lib.hid ho
    have HZC := Lib.hid hz
    clear hk ho hz
    rcases Int.lt_or_le 64 count with hcnt | hcnt
    · have hU := show upTo count = 64 by unfold upTo; omega
      go_wp2_with fail
      go_loopw [23] (fun i wr => ∃ (k : Nat) (E : Option Addr) (d' : Nat), k ≤ upTo count ∧ i = .int .i64 k ∧ Bk wr g 37 [.int .i64 f1, .int .i64 f2, .int .i64 r, .slice A1 n1 c1, .slice E k d'] ∧
        OwnB wr (w.heap.size + 2) A1 n1 c1 body ∧ OwnRs wr (w.heap.size + 2) E k d' (tagsN s (f1, f2) r body bad k) ∧ Below (w.heap.size + 2) ((w.alloc (.cells #[.int .i64 f1, .int .i64 f2] 28)).alloc (.cells #[.int .i64 0, .int .i64 0, .int .i64 0, .slice none 0 0, .slice none 0 0] 37)) wr) (fun i _ => upTo count - (intOf i).toNat)
      case atStart => exact ⟨0, none, 0, by omega, rfl, HKC.out, HOC.out, OwnRs.nil_ _ _, HZC.out⟩
      case round =>
        obtain ⟨k, E, d', hk, rfl, hbk, hob, hrs, hz⟩ := hrel
        have HBW := Lib.hid (HB0.out.trans (hz.mono (show w.heap.size ≤ w.heap.size + 2 by omega)))
        have hka : Bk wr w.heap.size 28 [.int .i64 f1, .int .i64 f2] := HK0.out.below hz (by omega)
        have hgw := hbk.lt
        by_cases hlt : k < upTo count
        · have e2 : (k : Int) < 64 := by omega
          have hsz : w.heap.size + 2 ≤ wr.heap.size := by have := hz.size; simp at this; omega
          have ca0 := hka.at_ (i := 0) rfl
          have ca1 := hka.at_ (i := 1) rfl
          have HTG := Lib.hid (tag_any A B n c m d s body (f1, f2) (r, (k : Int)) wr (HS.out.below HBW.out) (HBO.out.below HBW.out) (HT.out.kept HBW.out) hn hm)
          have HKB := Lib.hid hbk
          have HOB := Lib.hid hob
          have HRS := Lib.hid hrs
          have HZ2 := Lib.hid hz
          have HUN := Lib.hid (show upTo count ≤ 64 by omega)
          clear hbk hob hrs hz hka hU
          go_wp2_with fail
          refine HTG.out.mono ?_
          rintro e w1 ⟨A2, n2, c2, rfl, ho2, hb2⟩
          have hn2 : n2 = 16 := by rw [← ho2.len, tagN_len]
          subst hn2
          have HB2 := Lib.hid hb2
          have HO2 := Lib.hid ho2
          have HCT := Lib.hid (contains_any D p q bad (k : Int) w1 (HI.out.below (below_next HBW.out hb2 HBW.out.size)) hp)
          clear ho2 hb2 HTG ca0 ca1
          go_wp2_with fail
          refine HCT.out.mono ?_
          rintro e w2 ⟨rfl, rfl⟩
          clear HCT
          rw [inL_isIn]
          cases hin : isIn bad k
          focus
            have HLT := Lib.hid (show letterTag s (f1, f2) r body bad k = tagN s (f1, f2) (r, (k : Int)) body by unfold letterTag; rw [hin]; rfl)
            have HO3 := Lib.hid (show OwnB w1 wr.heap.size A2 16 c2 (letterTag s (f1, f2) r body bad k) by rw [HLT.out]; exact HO2.out)
            have HB3 := HB2
            clear hin HO2 HB2
            have hsz3 := HB3.out.size
            obtain ⟨hl0, us, hou, hin0⟩ := HRS.out.below HB3.out
            have hl : (tagsN s (f1, f2) r body bad k).length = k := hl0
            have HL0 := Lib.hid hl
            have HOU := Lib.hid hou
            have HIN := Lib.hid hin0
            have k2 := HKB.out.kept HB3.out
            have HK2 := Lib.hid (k2.alloc (.cells #[.slice A2 16 c2] 22))
            have c24 := k2.at_ (i := 4) rfl
            have HNE := Lib.hid (own_ne (World.ownsRow.alloc hou (.cells #[.slice A2 16 c2] 22)) (k2.alloc (.cells #[.slice A2 16 c2] 22)) (by decide))
            have hge : w.heap.size + 2 ≤ w1.heap.size := by omega
            have hk64 : k < 64 := by have := HUN.out; omega
            clear hl0 hl hou hin0 k2
            go_wp2_with (at_builtin
                         refine wpList_append_rd _ rfl _ _ 35 rfl (w.heap.size + 2) 22 i0 _ 24 Tryd.underlying35 hi0 hz0 hz1 hz2 rfl E k d' us rfl (World.ownsRow.alloc HOU.out _) (some ⟨w1.heap.size, 0, none⟩) 1 1 [.slice A2 16 c2] rfl
                           (Rd.new w1 [Value.slice A2 16 c2] 22) (by simp [Value.oneCell']) (by simp only [maxLen]; omega) (by omega) (by simp; omega) ?_
                         intro E3 d3 w3 hown3 hg3 hrow3
                         have k3 := HK2.out.grown hg3 (fun e => HNE.out e.symm)
                         have c34 := k3.at_ (i := 4) rfl
                         have f34 := k3.frozen 4
                         have HK3 := Lib.hid k3
                         have HG3 := Lib.hid hg3
                         have HN3 := Lib.hid hown3
                         clear k3 hg3 hown3 hrow3)
            have ho3 : OwnB w1 (w.heap.size + 2) A2 16 c2 (letterTag s (f1, f2) r body bad k) := HO3.out.more (by omega)
            have hlt16 := letterTag_len s (f1, f2) r body bad k
            have hpush : OwnRs w3 (w.heap.size + 2) E3 (k + 1) d3 (tagsN s (f1, f2) r body bad (k + 1)) := by
              refine OwnRs.push (w := w1.alloc (.cells #[.slice A2 16 c2] 22)) HL0.out (World.ownsRow.alloc HOU.out _) (fun j u l hu hl => ?_) (B := A2) (d := c2) ?_ HG3.out ?_
              · obtain ⟨A4, c4, e4, h4⟩ := HIN.out j u l hu hl
                exact ⟨A4, c4, e4, h4.alloc _⟩
              · rw [hlt16]; exact ho3.alloc _
              · rw [hlt16]; exact HN3.out
            have hob3 : OwnB w3 (w.heap.size + 2) A1 n1 c1 body :=
              World.ownsRow.kept (World.ownsRow.alloc (HOB.out.below HB3.out) (.cells #[.slice A2 16 c2] 22)) HG3.out (rows_apart (World.ownsRow.alloc (HOB.out.below HB3.out) (.cells #[.slice A2 16 c2] 22)) (World.ownsRow.alloc HOU.out (.cells #[.slice A2 16 c2] 22)) (by decide))
            have hz3 : Below (w.heap.size + 2) ((w.alloc (.cells #[.int .i64 f1, .int .i64 f2] 28)).alloc (.cells #[.int .i64 0, .int .i64 0, .int .i64 0, .slice none 0 0, .slice none 0 0] 37)) w3 := by
              have b1 := HZ2.out.trans (HB3.out.mono (show w.heap.size + 2 ≤ wr.heap.size by omega))
              have b2 := b1.alloc (by omega) (.cells #[.slice A2 16 c2] 22)
              exact b2.grown HG3.out (by simp; omega) (fun j e => (World.ownsRow.lt HOU.out j e).1)
            have gs := grown_set (grown_refl w3 (some g)) 4 (.slice E3 (k + 1) d3)
            have HFIN := Lib.hid (show Bk (w3.setCell ⟨g, 4, none⟩ (.slice E3 (k + 1) d3)) g 37 [.int .i64 f1, .int .i64 f2, .int .i64 r, .slice A1 n1 c1, .slice E3 (k + 1) d3] ∧
                OwnB (w3.setCell ⟨g, 4, none⟩ (.slice E3 (k + 1) d3)) (w.heap.size + 2) A1 n1 c1 body ∧ OwnRs (w3.setCell ⟨g, 4, none⟩ (.slice E3 (k + 1) d3)) (w.heap.size + 2) E3 (k + 1) d3 (tagsN s (f1, f2) r body bad (k + 1)) ∧
                Below (w.heap.size + 2) ((w.alloc (.cells #[.int .i64 f1, .int .i64 f2] 28)).alloc (.cells #[.int .i64 0, .int .i64 0, .int .i64 0, .slice none 0 0, .slice none 0 0] 37)) (w3.setCell ⟨g, 4, none⟩ (.slice E3 (k + 1) d3)) from
              ⟨HK3.out.set 4 _, hob3.off HK3.out (by decide) gs, hpush.off HK3.out (by decide) (by decide) gs, below_set hz3 hg2 4 _⟩)
            clear ho3 hpush hob3 hz3 gs HK3 HG3 HN3
            go_roundw
            case rel => exact ⟨k + 1, E3, d3, by omega, by go_num, HFIN.out⟩
            case measure => simp [intOf]; omega

          focus
            have HLT := Lib.hid (show letterTag s (f1, f2) r body bad k = turned (tagN s (f1, f2) (r, (k : Int)) body) by unfold letterTag; rw [hin]; rfl)
            have HLO := Lib.hid (layOver_own A2 16 c2 wr.heap.size _ w1 HO2.out (by omega) HB2.out.size)
            clear hin
            go_wp2_with fail
            refine HLO.out.mono ?_
            rintro e w2 ⟨rfl, ho3, hb3⟩
            have HO3 := Lib.hid (show OwnB w2 wr.heap.size A2 16 c2 (letterTag s (f1, f2) r body bad k) by rw [HLT.out]; exact ho3)
            have HB3 := Lib.hid (HB2.out.trans hb3)
            clear ho3 hb3 HO2 HB2 HLO
            have hsz3 := HB3.out.size
            obtain ⟨hl0, us, hou, hin0⟩ := HRS.out.below HB3.out
            have hl : (tagsN s (f1, f2) r body bad k).length = k := hl0
            have HL0 := Lib.hid hl
            have HOU := Lib.hid hou
            have HIN := Lib.hid hin0
            have k2 := HKB.out.kept HB3.out
            have HK2 := Lib.hid (k2.alloc (.cells #[.slice A2 16 c2] 22))
            have c24 := k2.at_ (i := 4) rfl
            have HNE := Lib.hid (own_ne (World.ownsRow.alloc hou (.cells #[.slice A2 16 c2] 22)) (k2.alloc (.cells #[.slice A2 16 c2] 22)) (by decide))
            have hge : w.heap.size + 2 ≤ w2.heap.size := by omega
            have hk64 : k < 64 := by have := HUN.out; omega
            clear hl0 hl hou hin0 k2
            go_wp2_with (at_builtin
                         refine wpList_append_rd _ rfl _ _ 35 rfl (w.heap.size + 2) 22 i0 _ 24 Tryd.underlying35 hi0 hz0 hz1 hz2 rfl E k d' us rfl (World.ownsRow.alloc HOU.out _) (some ⟨w2.heap.size, 0, none⟩) 1 1 [.slice A2 16 c2] rfl
                           (Rd.new w2 [Value.slice A2 16 c2] 22) (by simp [Value.oneCell']) (by simp only [maxLen]; omega) (by omega) (by simp; omega) ?_
                         intro E3 d3 w3 hown3 hg3 hrow3
                         have k3 := HK2.out.grown hg3 (fun e => HNE.out e.symm)
                         have c34 := k3.at_ (i := 4) rfl
                         have f34 := k3.frozen 4
                         have HK3 := Lib.hid k3
                         have HG3 := Lib.hid hg3
                         have HN3 := Lib.hid hown3
                         clear k3 hg3 hown3 hrow3)
            have ho3 : OwnB w2 (w.heap.size + 2) A2 16 c2 (letterTag s (f1, f2) r body bad k) := HO3.out.more (by omega)
            have hlt16 := letterTag_len s (f1, f2) r body bad k
            have hpush : OwnRs w3 (w.heap.size + 2) E3 (k + 1) d3 (tagsN s (f1, f2) r body bad (k + 1)) := by
              refine OwnRs.push (w := w2.alloc (.cells #[.slice A2 16 c2] 22)) HL0.out (World.ownsRow.alloc HOU.out _) (fun j u l hu hl => ?_) (B := A2) (d := c2) ?_ HG3.out ?_
              · obtain ⟨A4, c4, e4, h4⟩ := HIN.out j u l hu hl
                exact ⟨A4, c4, e4, h4.alloc _⟩
              · rw [hlt16]; exact ho3.alloc _
              · rw [hlt16]; exact HN3.out
            have hob3 : OwnB w3 (w.heap.size + 2) A1 n1 c1 body :=
              World.ownsRow.kept (World.ownsRow.alloc (HOB.out.below HB3.out) (.cells #[.slice A2 16 c2] 22)) HG3.out (rows_apart (World.ownsRow.alloc (HOB.out.below HB3.out) (.cells #[.slice A2 16 c2] 22)) (World.ownsRow.alloc HOU.out (.cells #[.slice A2 16 c2] 22)) (by decide))
            have hz3 : Below (w.heap.size + 2) ((w.alloc (.cells #[.int .i64 f1, .int .i64 f2] 28)).alloc (.cells #[.int .i64 0, .int .i64 0, .int .i64 0, .slice none 0 0, .slice none 0 0] 37)) w3 := by
              have b1 := HZ2.out.trans (HB3.out.mono (show w.heap.size + 2 ≤ wr.heap.size by omega))
              have b2 := b1.alloc (by omega) (.cells #[.slice A2 16 c2] 22)
              exact b2.grown HG3.out (by simp; omega) (fun j e => (World.ownsRow.lt HOU.out j e).1)
            have gs := grown_set (grown_refl w3 (some g)) 4 (.slice E3 (k + 1) d3)
            have HFIN := Lib.hid (show Bk (w3.setCell ⟨g, 4, none⟩ (.slice E3 (k + 1) d3)) g 37 [.int .i64 f1, .int .i64 f2, .int .i64 r, .slice A1 n1 c1, .slice E3 (k + 1) d3] ∧
                OwnB (w3.setCell ⟨g, 4, none⟩ (.slice E3 (k + 1) d3)) (w.heap.size + 2) A1 n1 c1 body ∧ OwnRs (w3.setCell ⟨g, 4, none⟩ (.slice E3 (k + 1) d3)) (w.heap.size + 2) E3 (k + 1) d3 (tagsN s (f1, f2) r body bad (k + 1)) ∧
                Below (w.heap.size + 2) ((w.alloc (.cells #[.int .i64 f1, .int .i64 f2] 28)).alloc (.cells #[.int .i64 0, .int .i64 0, .int .i64 0, .slice none 0 0, .slice none 0 0] 37)) (w3.setCell ⟨g, 4, none⟩ (.slice E3 (k + 1) d3)) from
              ⟨HK3.out.set 4 _, hob3.off HK3.out (by decide) gs, hpush.off HK3.out (by decide) (by decide) gs, below_set hz3 hg2 4 _⟩)
            clear ho3 hpush hob3 hz3 gs HK3 HG3 HN3
            go_roundw
            case rel => exact ⟨k + 1, E3, d3, by omega, by go_num, HFIN.out⟩
            case measure => simp [intOf]; omega

        · have e1 : k = upTo count := by omega
          have e3 : ¬ (k : Int) < 64 := by omega
          have kr : Bk wr (w.heap.size + 1) 37 [.int .i64 0, .int .i64 0, .int .i64 0, .slice none 0 0, .slice none 0 0] := HK1.out.below hz (by omega)
          obtain ⟨c00, c01, c02, c03, c04⟩ := hbk.five
          obtain ⟨c10, c11, c12, c13, c14⟩ := kr.five
          have f10 := kr.frozen 0
          have f11 := kr.frozen 1
          have f12 := kr.frozen 2
          have f13 := kr.frozen 3
          have f14 := kr.frozen 4
          have HSR := Lib.hid (seal_end (f1 := f1) (f2 := f2) (r := r) kr hob hrs HBW.out)
          have E1 := Lib.hid e1
          clear kr hbk hob hrs hz hka hU e1 hlt
          go_wp2_with fail
          refine bodyPost_ret_by (results_cell_row rfl _ _ (w.heap.size + 1) 37 _ _ _ rfl HSR.out.1 Tryd.underlying37 rfl info_letter) rfl ?_
          refine ⟨A1, n1, c1, E, k, d', rfl, HSR.out.2.1, ?_, HSR.out.2.2.2⟩
          rw [← E1.out]
          exact HSR.out.2.2.1
    · have hU := show upTo count = count.toNat by unfold upTo; omega
      go_wp2_with fail
      go_loopw [23] (fun i wr => ∃ (k : Nat) (E : Option Addr) (d' : Nat), k ≤ upTo count ∧ i = .int .i64 k ∧ Bk wr g 37 [.int .i64 f1, .int .i64 f2, .int .i64 r, .slice A1 n1 c1, .slice E k d'] ∧
        OwnB wr (w.heap.size + 2) A1 n1 c1 body ∧ OwnRs wr (w.heap.size + 2) E k d' (tagsN s (f1, f2) r body bad k) ∧ Below (w.heap.size + 2) ((w.alloc (.cells #[.int .i64 f1, .int .i64 f2] 28)).alloc (.cells #[.int .i64 0, .int .i64 0, .int .i64 0, .slice none 0 0, .slice none 0 0] 37)) wr) (fun i _ => upTo count - (intOf i).toNat)
      case atStart => exact ⟨0, none, 0, by omega, rfl, HKC.out, HOC.out, OwnRs.nil_ _ _, HZC.out⟩
      case round =>
        obtain ⟨k, E, d', hk, rfl, hbk, hob, hrs, hz⟩ := hrel
        have HBW := Lib.hid (HB0.out.trans (hz.mono (show w.heap.size ≤ w.heap.size + 2 by omega)))
        have hka : Bk wr w.heap.size 28 [.int .i64 f1, .int .i64 f2] := HK0.out.below hz (by omega)
        have hgw := hbk.lt
        by_cases hlt : k < upTo count
        · have e2 : (k : Int) < count := by omega
          have hsz : w.heap.size + 2 ≤ wr.heap.size := by have := hz.size; simp at this; omega
          have ca0 := hka.at_ (i := 0) rfl
          have ca1 := hka.at_ (i := 1) rfl
          have HTG := Lib.hid (tag_any A B n c m d s body (f1, f2) (r, (k : Int)) wr (HS.out.below HBW.out) (HBO.out.below HBW.out) (HT.out.kept HBW.out) hn hm)
          have HKB := Lib.hid hbk
          have HOB := Lib.hid hob
          have HRS := Lib.hid hrs
          have HZ2 := Lib.hid hz
          have HUN := Lib.hid (show upTo count ≤ 64 by omega)
          clear hbk hob hrs hz hka hU
          go_wp2_with fail
          refine HTG.out.mono ?_
          rintro e w1 ⟨A2, n2, c2, rfl, ho2, hb2⟩
          have hn2 : n2 = 16 := by rw [← ho2.len, tagN_len]
          subst hn2
          have HB2 := Lib.hid hb2
          have HO2 := Lib.hid ho2
          have HCT := Lib.hid (contains_any D p q bad (k : Int) w1 (HI.out.below (below_next HBW.out hb2 HBW.out.size)) hp)
          clear ho2 hb2 HTG ca0 ca1
          go_wp2_with fail
          refine HCT.out.mono ?_
          rintro e w2 ⟨rfl, rfl⟩
          clear HCT
          rw [inL_isIn]
          cases hin : isIn bad k
          focus
            have HLT := Lib.hid (show letterTag s (f1, f2) r body bad k = tagN s (f1, f2) (r, (k : Int)) body by unfold letterTag; rw [hin]; rfl)
            have HO3 := Lib.hid (show OwnB w1 wr.heap.size A2 16 c2 (letterTag s (f1, f2) r body bad k) by rw [HLT.out]; exact HO2.out)
            have HB3 := HB2
            clear hin HO2 HB2
            have hsz3 := HB3.out.size
            obtain ⟨hl0, us, hou, hin0⟩ := HRS.out.below HB3.out
            have hl : (tagsN s (f1, f2) r body bad k).length = k := hl0
            have HL0 := Lib.hid hl
            have HOU := Lib.hid hou
            have HIN := Lib.hid hin0
            have k2 := HKB.out.kept HB3.out
            have HK2 := Lib.hid (k2.alloc (.cells #[.slice A2 16 c2] 22))
            have c24 := k2.at_ (i := 4) rfl
            have HNE := Lib.hid (own_ne (World.ownsRow.alloc hou (.cells #[.slice A2 16 c2] 22)) (k2.alloc (.cells #[.slice A2 16 c2] 22)) (by decide))
            have hge : w.heap.size + 2 ≤ w1.heap.size := by omega
            have hk64 : k < 64 := by have := HUN.out; omega
            clear hl0 hl hou hin0 k2
            go_wp2_with (at_builtin
                         refine wpList_append_rd _ rfl _ _ 35 rfl (w.heap.size + 2) 22 i0 _ 24 Tryd.underlying35 hi0 hz0 hz1 hz2 rfl E k d' us rfl (World.ownsRow.alloc HOU.out _) (some ⟨w1.heap.size, 0, none⟩) 1 1 [.slice A2 16 c2] rfl
                           (Rd.new w1 [Value.slice A2 16 c2] 22) (by simp [Value.oneCell']) (by simp only [maxLen]; omega) (by omega) (by simp; omega) ?_
                         intro E3 d3 w3 hown3 hg3 hrow3
                         have k3 := HK2.out.grown hg3 (fun e => HNE.out e.symm)
                         have c34 := k3.at_ (i := 4) rfl
                         have f34 := k3.frozen 4
                         have HK3 := Lib.hid k3
                         have HG3 := Lib.hid hg3
                         have HN3 := Lib.hid hown3
                         clear k3 hg3 hown3 hrow3)
            have ho3 : OwnB w1 (w.heap.size + 2) A2 16 c2 (letterTag s (f1, f2) r body bad k) := HO3.out.more (by omega)
            have hlt16 := letterTag_len s (f1, f2) r body bad k
            have hpush : OwnRs w3 (w.heap.size + 2) E3 (k + 1) d3 (tagsN s (f1, f2) r body bad (k + 1)) := by
              refine OwnRs.push (w := w1.alloc (.cells #[.slice A2 16 c2] 22)) HL0.out (World.ownsRow.alloc HOU.out _) (fun j u l hu hl => ?_) (B := A2) (d := c2) ?_ HG3.out ?_
              · obtain ⟨A4, c4, e4, h4⟩ := HIN.out j u l hu hl
                exact ⟨A4, c4, e4, h4.alloc _⟩
              · rw [hlt16]; exact ho3.alloc _
              · rw [hlt16]; exact HN3.out
            have hob3 : OwnB w3 (w.heap.size + 2) A1 n1 c1 body :=
              World.ownsRow.kept (World.ownsRow.alloc (HOB.out.below HB3.out) (.cells #[.slice A2 16 c2] 22)) HG3.out (rows_apart (World.ownsRow.alloc (HOB.out.below HB3.out) (.cells #[.slice A2 16 c2] 22)) (World.ownsRow.alloc HOU.out (.cells #[.slice A2 16 c2] 22)) (by decide))
            have hz3 : Below (w.heap.size + 2) ((w.alloc (.cells #[.int .i64 f1, .int .i64 f2] 28)).alloc (.cells #[.int .i64 0, .int .i64 0, .int .i64 0, .slice none 0 0, .slice none 0 0] 37)) w3 := by
              have b1 := HZ2.out.trans (HB3.out.mono (show w.heap.size + 2 ≤ wr.heap.size by omega))
              have b2 := b1.alloc (by omega) (.cells #[.slice A2 16 c2] 22)
              exact b2.grown HG3.out (by simp; omega) (fun j e => (World.ownsRow.lt HOU.out j e).1)
            have gs := grown_set (grown_refl w3 (some g)) 4 (.slice E3 (k + 1) d3)
            have HFIN := Lib.hid (show Bk (w3.setCell ⟨g, 4, none⟩ (.slice E3 (k + 1) d3)) g 37 [.int .i64 f1, .int .i64 f2, .int .i64 r, .slice A1 n1 c1, .slice E3 (k + 1) d3] ∧
                OwnB (w3.setCell ⟨g, 4, none⟩ (.slice E3 (k + 1) d3)) (w.heap.size + 2) A1 n1 c1 body ∧ OwnRs (w3.setCell ⟨g, 4, none⟩ (.slice E3 (k + 1) d3)) (w.heap.size + 2) E3 (k + 1) d3 (tagsN s (f1, f2) r body bad (k + 1)) ∧
                Below (w.heap.size + 2) ((w.alloc (.cells #[.int .i64 f1, .int .i64 f2] 28)).alloc (.cells #[.int .i64 0, .int .i64 0, .int .i64 0, .slice none 0 0, .slice none 0 0] 37)) (w3.setCell ⟨g, 4, none⟩ (.slice E3 (k + 1) d3)) from
              ⟨HK3.out.set 4 _, hob3.off HK3.out (by decide) gs, hpush.off HK3.out (by decide) (by decide) gs, below_set hz3 hg2 4 _⟩)
            clear ho3 hpush hob3 hz3 gs HK3 HG3 HN3
            go_roundw
            case rel => exact ⟨k + 1, E3, d3, by omega, by go_num, HFIN.out⟩
            case measure => simp [intOf]; omega

          focus
            have HLT := Lib.hid (show letterTag s (f1, f2) r body bad k = turned (tagN s (f1, f2) (r, (k : Int)) body) by unfold letterTag; rw [hin]; rfl)
            have HLO := Lib.hid (layOver_own A2 16 c2 wr.heap.size _ w1 HO2.out (by omega) HB2.out.size)
            clear hin
            go_wp2_with fail
            refine HLO.out.mono ?_
            rintro e w2 ⟨rfl, ho3, hb3⟩
            have HO3 := Lib.hid (show OwnB w2 wr.heap.size A2 16 c2 (letterTag s (f1, f2) r body bad k) by rw [HLT.out]; exact ho3)
            have HB3 := Lib.hid (HB2.out.trans hb3)
            clear ho3 hb3 HO2 HB2 HLO
            have hsz3 := HB3.out.size
            obtain ⟨hl0, us, hou, hin0⟩ := HRS.out.below HB3.out
            have hl : (tagsN s (f1, f2) r body bad k).length = k := hl0
            have HL0 := Lib.hid hl
            have HOU := Lib.hid hou
            have HIN := Lib.hid hin0
            have k2 := HKB.out.kept HB3.out
            have HK2 := Lib.hid (k2.alloc (.cells #[.slice A2 16 c2] 22))
            have c24 := k2.at_ (i := 4) rfl
            have HNE := Lib.hid (own_ne (World.ownsRow.alloc hou (.cells #[.slice A2 16 c2] 22)) (k2.alloc (.cells #[.slice A2 16 c2] 22)) (by decide))
            have hge : w.heap.size + 2 ≤ w2.heap.size := by omega
            have hk64 : k < 64 := by have := HUN.out; omega
            clear hl0 hl hou hin0 k2
            go_wp2_with (at_builtin
                         refine wpList_append_rd _ rfl _ _ 35 rfl (w.heap.size + 2) 22 i0 _ 24 Tryd.underlying35 hi0 hz0 hz1 hz2 rfl E k d' us rfl (World.ownsRow.alloc HOU.out _) (some ⟨w2.heap.size, 0, none⟩) 1 1 [.slice A2 16 c2] rfl
                           (Rd.new w2 [Value.slice A2 16 c2] 22) (by simp [Value.oneCell']) (by simp only [maxLen]; omega) (by omega) (by simp; omega) ?_
                         intro E3 d3 w3 hown3 hg3 hrow3
                         have k3 := HK2.out.grown hg3 (fun e => HNE.out e.symm)
                         have c34 := k3.at_ (i := 4) rfl
                         have f34 := k3.frozen 4
                         have HK3 := Lib.hid k3
                         have HG3 := Lib.hid hg3
                         have HN3 := Lib.hid hown3
                         clear k3 hg3 hown3 hrow3)
            have ho3 : OwnB w2 (w.heap.size + 2) A2 16 c2 (letterTag s (f1, f2) r body bad k) := HO3.out.more (by omega)
            have hlt16 := letterTag_len s (f1, f2) r body bad k
            have hpush : OwnRs w3 (w.heap.size + 2) E3 (k + 1) d3 (tagsN s (f1, f2) r body bad (k + 1)) := by
              refine OwnRs.push (w := w2.alloc (.cells #[.slice A2 16 c2] 22)) HL0.out (World.ownsRow.alloc HOU.out _) (fun j u l hu hl => ?_) (B := A2) (d := c2) ?_ HG3.out ?_
              · obtain ⟨A4, c4, e4, h4⟩ := HIN.out j u l hu hl
                exact ⟨A4, c4, e4, h4.alloc _⟩
              · rw [hlt16]; exact ho3.alloc _
              · rw [hlt16]; exact HN3.out
            have hob3 : OwnB w3 (w.heap.size + 2) A1 n1 c1 body :=
              World.ownsRow.kept (World.ownsRow.alloc (HOB.out.below HB3.out) (.cells #[.slice A2 16 c2] 22)) HG3.out (rows_apart (World.ownsRow.alloc (HOB.out.below HB3.out) (.cells #[.slice A2 16 c2] 22)) (World.ownsRow.alloc HOU.out (.cells #[.slice A2 16 c2] 22)) (by decide))
            have hz3 : Below (w.heap.size + 2) ((w.alloc (.cells #[.int .i64 f1, .int .i64 f2] 28)).alloc (.cells #[.int .i64 0, .int .i64 0, .int .i64 0, .slice none 0 0, .slice none 0 0] 37)) w3 := by
              have b1 := HZ2.out.trans (HB3.out.mono (show w.heap.size + 2 ≤ wr.heap.size by omega))
              have b2 := b1.alloc (by omega) (.cells #[.slice A2 16 c2] 22)
              exact b2.grown HG3.out (by simp; omega) (fun j e => (World.ownsRow.lt HOU.out j e).1)
            have gs := grown_set (grown_refl w3 (some g)) 4 (.slice E3 (k + 1) d3)
            have HFIN := Lib.hid (show Bk (w3.setCell ⟨g, 4, none⟩ (.slice E3 (k + 1) d3)) g 37 [.int .i64 f1, .int .i64 f2, .int .i64 r, .slice A1 n1 c1, .slice E3 (k + 1) d3] ∧
                OwnB (w3.setCell ⟨g, 4, none⟩ (.slice E3 (k + 1) d3)) (w.heap.size + 2) A1 n1 c1 body ∧ OwnRs (w3.setCell ⟨g, 4, none⟩ (.slice E3 (k + 1) d3)) (w.heap.size + 2) E3 (k + 1) d3 (tagsN s (f1, f2) r body bad (k + 1)) ∧
                Below (w.heap.size + 2) ((w.alloc (.cells #[.int .i64 f1, .int .i64 f2] 28)).alloc (.cells #[.int .i64 0, .int .i64 0, .int .i64 0, .slice none 0 0, .slice none 0 0] 37)) (w3.setCell ⟨g, 4, none⟩ (.slice E3 (k + 1) d3)) from
              ⟨HK3.out.set 4 _, hob3.off HK3.out (by decide) gs, hpush.off HK3.out (by decide) (by decide) gs, below_set hz3 hg2 4 _⟩)
            clear ho3 hpush hob3 hz3 gs HK3 HG3 HN3
            go_roundw
            case rel => exact ⟨k + 1, E3, d3, by omega, by go_num, HFIN.out⟩
            case measure => simp [intOf]; omega

        · have e1 : k = upTo count := by omega
          have e3 : ¬ (k : Int) < count := by omega
          have kr : Bk wr (w.heap.size + 1) 37 [.int .i64 0, .int .i64 0, .int .i64 0, .slice none 0 0, .slice none 0 0] := HK1.out.below hz (by omega)
          obtain ⟨c00, c01, c02, c03, c04⟩ := hbk.five
          obtain ⟨c10, c11, c12, c13, c14⟩ := kr.five
          have f10 := kr.frozen 0
          have f11 := kr.frozen 1
          have f12 := kr.frozen 2
          have f13 := kr.frozen 3
          have f14 := kr.frozen 4
          have HSR := Lib.hid (seal_end (f1 := f1) (f2 := f2) (r := r) kr hob hrs HBW.out)
          have E1 := Lib.hid e1
          clear kr hbk hob hrs hz hka hU e1 hlt
          go_wp2_with fail
          refine bodyPost_ret_by (results_cell_row rfl _ _ (w.heap.size + 1) 37 _ _ _ rfl HSR.out.1 Tryd.underlying37 rfl info_letter) rfl ?_
          refine ⟨A1, n1, c1, E, k, d', rfl, HSR.out.2.1, ?_, HSR.out.2.2.2⟩
          rw [← E1.out]
          exact HSR.out.2.2.1
end Go.Proofs.YtfdmnnbcnaofgaaDoor
