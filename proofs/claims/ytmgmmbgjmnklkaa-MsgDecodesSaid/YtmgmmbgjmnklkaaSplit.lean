import Derived.Test.YtmgmmbgjmnklkaaSplitPlain
import Derived.Test.YtmgmmbgjmnklkaaMCut
namespace Go.Proofs.Ytmgmmbgjmnklkaa
set_option maxRecDepth 100000
open Go.RowKit
open Pk
set_option linter.unusedVariables false

/-- a slice that reads as these bytes, within a memory -/
def SlV (w : World) (v : Value) (l : List UInt8) : Prop := ∃ A n c, v = .slice A n c ∧ Rd w A n (l.map bv) ∧ n ≤ c ∧ c ≤ maxLen

/-- cutField's answer -/
def FieldPost (A0 : Option Addr) (n0 : Nat) (l : List UInt8) (w : World) (e : Ending) (w' : World) : Prop :=
  (∃ m, w' = w.drewN m) ∧
  (((fld l).1 = 0 ∧ ∃ A n c A2 n2 c2, e = .returned (.tuple #[.slice A n c, .slice A2 n2 c2, .int .i64 0]) ∧ (∀ W, Rd W A0 n0 (l.map bv) → Rd W A n ((fld l).2.1.map bv) ∧ Rd W A2 n2 ((fld l).2.2.map bv)) ∧ n2 ≤ c2 ∧ c2 ≤ maxLen) ∨
   ((fld l).1 ≠ 0 ∧ e = .returned (.tuple #[.slice none 0 0, .slice none 0 0, .int .i64 (fld l).1])))

theorem cutA_cut (A : Option Addr) (c k : Nat) : cutA A c k = if c = k then A else A.map (·.add k) := rfl

set_option maxHeartbeats 1600000 in
set_option maxRecDepth 100000 in
theorem cutField_any (A : Option Addr) (n c : Nat) (l : List UInt8) (w : World) (h : Rd w A n (l.map bv)) (hc : n ≤ c) (hm : c ≤ maxLen) :
    Calls Try.prog 114 #[.slice A n c] w (FieldPost A n l w) := by
  have H := Lib.hid (cutNum_any A n c l w h hc hm)
  have hl : l.length = n := by simpa using h.1
  have HR := Lib.hid h
  have HL := Lib.hid hl
  have HM := Lib.hid hm
  have HC := Lib.hid hc
  clear h hl hc hm
  go_enter Try.func114, Try.ntmps114
  go_wp2_with fail
  refine H.out.mono ?_
  rintro e w1 ⟨⟨m, rfl⟩, ⟨h0, rfl⟩ | ⟨h0, rfl⟩⟩
  · have hcnt := rdN_count h0
    have hlt := rdN_lt l
    have hrd := fun (W : World) (hW : Rd W A n (l.map bv)) => (hW.cut (k := (rdN l).2.1) (cap := c) (by have := HL.out; omega) HC.out)
    simp only [← List.map_drop] at hrd
    have hle : n - (rdN l).2.1 ≤ c - (rdN l).2.1 := by have := HC.out; omega
    have hcm : c - (rdN l).2.1 ≤ 9223372036854775807 := by have := HM.out; simp only [maxLen] at this; omega
    have hdl : (l.drop (rdN l).2.1).length = n - (rdN l).2.1 := by rw [List.length_drop, HL.out]
    have hfl : fld l = if 65536 < (rdN l).1 then (13, [], []) else if (l.drop (rdN l).2.1).length < (rdN l).1 then (11, [], []) else (0, (l.drop (rdN l).2.1).take (rdN l).1, (l.drop (rdN l).2.1).drop (rdN l).1) := by
      unfold fld; rw [if_neg (by omega)]
    have hrd' : ∀ W, Rd W A n (l.map bv) → Rd W (cutA A c (rdN l).2.1) (n - (rdN l).2.1) ((l.drop (rdN l).2.1).map bv) := hrd
    clear hrd
    generalize cutA A c (rdN l).2.1 = B at *
    generalize n - (rdN l).2.1 = n1 at *
    generalize c - (rdN l).2.1 = c1 at *
    generalize l.drop (rdN l).2.1 = r at *
    generalize (rdN l).1 = s at *
    have HFL := Lib.hid hfl
    have HRD := Lib.hid hrd'
    have HDL := Lib.hid hdl
    have HLT := Lib.hid hlt
    clear h0 hcnt hfl hrd' hdl hlt H
    by_cases hs : 65536 < s
    · have hres := Lib.hid (show fld l = (13, [], []) by rw [HFL.out, if_pos hs])
      clear HFL
      go_wp2_with fail
      go_ret3
      exact ⟨⟨m, rfl⟩, .inr (by rw [hres.out]; exact ⟨by simp, rfl⟩)⟩
    · by_cases hs2 : n1 < s
      · have hres := Lib.hid (show fld l = (11, [], []) by rw [HFL.out, if_neg hs, if_pos (by rw [HDL.out]; exact hs2)])
        clear HFL
        go_wp2_with fail
        go_ret3
        exact ⟨⟨m, rfl⟩, .inr (by rw [hres.out]; exact ⟨by simp, rfl⟩)⟩
      · have hres := Lib.hid (show fld l = (0, r.take s, r.drop s) by rw [HFL.out, if_neg hs, if_neg (by rw [HDL.out]; omega)])
        clear HFL
        have e0 : (0 : Int) ≤ (s : Int) := by omega
        have e1 : (s : Int) ≤ (n1 : Int) := by omega
        have e2 : (s : Int) ≤ (c1 : Int) := by omega
        have HF := Lib.hid (show ∀ W, Rd W A n (l.map bv) → Rd W B s ((r.take s).map bv) by
          intro W hW
          have := (HRD.out W hW).front (k := s) (by omega)
          rwa [← List.map_take] at this)
        have HG := Lib.hid (show ∀ W, Rd W A n (l.map bv) → Rd W (if c1 = s then B else B.map (·.add s)) (n1 - s) ((r.drop s).map bv) by
          intro W hW
          have := (HRD.out W hW).cut (k := s) (cap := c1) (by omega) hle
          rwa [← List.map_drop] at this)
        by_cases hsc : c1 = s
        · have HG2 := Lib.hid (show ∀ W, Rd W A n (l.map bv) → Rd W B (n1 - s) ((r.drop s).map bv) by intro W hW; have := HG.out W hW; rwa [if_pos hsc] at this)
          have HS := Lib.hid (show n1 - s ≤ 0 by omega)
          clear HG HRD
          go_wp2_with fail
          go_quiet (fail)
          go_wp2
          go_ret3
          exact ⟨⟨_, World.drewN_drewN w _ _⟩, .inl (by rw [hres.out]; exact ⟨rfl, _, _, _, _, _, _, rfl, (fun W hW => ⟨HF.out W hW, HG2.out W hW⟩), HS.out, by simp [maxLen]⟩)⟩
        · have HG2 := Lib.hid (show ∀ W, Rd W A n (l.map bv) → Rd W (B.map (·.add s)) (n1 - s) ((r.drop s).map bv) by intro W hW; have := HG.out W hW; rwa [if_neg hsc] at this)
          have HS := Lib.hid (show n1 - s ≤ c1 - s by omega)
          have HS2 := Lib.hid (show c1 - s ≤ maxLen by simp only [maxLen]; omega)
          clear HG HRD
          go_wp2_with fail
          go_quiet (fail)
          go_wp2
          go_ret3
          exact ⟨⟨_, World.drewN_drewN w _ _⟩, .inl (by rw [hres.out]; exact ⟨rfl, _, _, _, _, _, _, rfl, (fun W hW => ⟨HF.out W hW, HG2.out W hW⟩), HS.out, HS2.out⟩)⟩
  · have hres := Lib.hid (show fld l = ((rdN l).2.2, [], []) by unfold fld; rw [if_pos h0])
    have hne : ((((rdN l).2.2 : Nat) : Int) != 0) = true := by rw [bne_iff_ne]; omega
    have H0 := Lib.hid h0
    clear h0
    go_wp2_with fail
    go_ret3
    exact ⟨⟨m, rfl⟩, .inr (by rw [hres.out]; exact ⟨H0.out, rfl⟩)⟩

/-- Split's answer -/
def SplitPost (l : List UInt8) (w : World) (e : Ending) (w' : World) : Prop :=
  Below w.heap.size w w' ∧ (((splitN l).1 ≠ 0 ∧ e = .returned (.tuple #[.slice none 0 0, .int .i64 (splitN l).1])) ∨
    ((splitN l).1 = 0 ∧ ∃ A n c, e = .returned (.tuple #[.slice A n c, .int .i64 0]) ∧ OwnRs w' w.heap.size A n c (splitN l).2))

/-- where a loop over the fields stands -/
def SplitAt (l : List UInt8) (w : World) (b fs : Value) (acc : List (List UInt8)) (wr : World) : Prop :=
  ∃ (A0 : Option Addr) (n0 c0 : Nat) (l' : List UInt8) (A' : Option Addr) (n' c' f : Nat), b = .slice A0 n0 c0 ∧ Rd w A0 n0 (l'.map bv) ∧ n0 ≤ c0 ∧ c0 ≤ maxLen ∧ n0 ≤ l.length ∧ l'.length < f ∧
    fs = .slice A' n' c' ∧ OwnRs wr w.heap.size A' n' c' acc ∧ n' ≤ 1024 ∧ glue acc (splitF f acc.length l') = splitN l ∧ Below w.heap.size w wr

theorem split_end {l : List UInt8} {w wr : World} {A : Option Addr} {n c f : Nat} {acc : List (List UInt8)} (hg : glue acc (splitF (f + 1) acc.length []) = splitN l) (ho : OwnRs wr w.heap.size A n c acc) (hb : Below w.heap.size w wr) :
    SplitPost l w (.returned (.tuple #[.slice A n c, .int .i64 0])) wr := by
  rw [glue_end] at hg
  refine ⟨hb, .inr ?_⟩
  rw [← hg]
  exact ⟨rfl, _, _, _, rfl, ho⟩
theorem split_bad {l : List UInt8} {w wr : World} {k : Nat} (hg : Hid (splitN l = (k, []))) (hk : k ≠ 0) (hb : Below w.heap.size w wr) :
    SplitPost l w (.returned (.tuple #[.slice none 0 0, .int .i64 (k : Int)])) wr := by
  refine ⟨hb, .inl ?_⟩
  rw [hg.out]
  exact ⟨hk, rfl⟩

set_option maxHeartbeats 1600000 in
set_option maxRecDepth 100000 in
theorem split_any (A : Option Addr) (n c : Nat) (l : List UInt8) (w : World) (h : Rd w A n (l.map bv)) (hc : n ≤ c) (hm : c ≤ maxLen) (hn : n ≤ 1099511627776) :
    Calls Try.prog 85 #[.slice A n c] w (SplitPost l w) := by
  obtain ⟨i0, hi, hz0, hz1, hz2⟩ := info_parts info_bytes
  have hl : l.length = n := by simpa using h.1
  have HS := Lib.hid (split_start l)
  go_enter Try.func85, Try.ntmps85
  go_wp2
  go_loopw [0, 4] (fun b s wr => ∃ acc, SplitAt l w b s acc wr) (fun b _ _ => match b with | .slice _ n _ => n | _ => 0)
  case atStart => exact ⟨[], A, n, c, l, none, 0, 0, l.length + 1, rfl, h, hc, hm, by omega, by omega, rfl, OwnRs.nil_ _ _, by omega, HS.out.symm, Below.refl _ _⟩
  case round =>
    obtain ⟨acc, A0, n0, c0, l', A', n', c', f, rfl, hr, hc0, hm0, hnl, hf, rfl, ho, hn', hg, hb⟩ := hrel
    have hl' : l'.length = n0 := by simpa using hr.1
    have hacc : acc.length = n' := ho.1
    obtain ⟨f, rfl⟩ : ∃ g, f = g + 1 := ⟨f - 1, by omega⟩
    clear h hc hm hn
    by_cases h0 : 0 < n0
    · have hne : l' ≠ [] := by rintro rfl; simp at hl'; omega
      by_cases hk : n' = 1024
      · have hres := Lib.hid (show splitN l = (13, []) by rw [← hg, glue_many hne (by omega)])
        have hk2 : ((n' : Int) == 1024) = true := by rw [beq_iff_eq]; omega
        clear hg hl hl' hacc hr
        go_wp2
        go_ret2
        exact split_bad (k := 13) hres (by decide) hb
      · have HC := Lib.hid (cutField_any A0 n0 c0 l' wr (hr.below hb) hc0 hm0)
        have hk2 : ((n' : Int) == 1024) = false := by rw [beq_eq_false_iff_ne]; omega
        have hs := hb.size
        have HG := Lib.hid hg
        have HL := Lib.hid hl
        have HL2 := Lib.hid hl'
        have HA := Lib.hid hacc
        have HR0 := Lib.hid hr
        clear hg hl hl' hacc hr
        go_wp2_with fail
        refine HC.out.mono ?_
        rintro e w1 ⟨⟨m, rfl⟩, ⟨hz, A1, n1, c1, A2, n2, c2, rfl, hrr, hc2, hm2⟩ | ⟨hz, rfl⟩⟩
        · obtain ⟨q1, q2, q3⟩ := fld_ok hz
          have hr1 := (hrr _ (HR0.out.below hb)).1
          have hr2 := (hrr _ HR0.out).2
          have hn1 : n1 ≤ 65536 := by have := hr1.1; rw [List.length_map] at this; omega
          have hn2 : n2 < n0 := by have := hr2.1; rw [List.length_map] at this; have := HL2.out; omega
          have HGL := Lib.hid (show glue (acc ++ [(fld l').2.1]) (splitF f (acc ++ [(fld l').2.1]).length (fld l').2.2) = splitN l by
            rw [← HG.out, glue_step hne (by have := HA.out; omega) hz]; simp)
          have HN2 := Lib.hid (show (fld l').2.2.length = n2 by have := hr2.1; rwa [List.length_map] at this)
          have HCL := Lib.hid (clone_any A1 n1 c1 (fld l').2.1 (wr.drewN m) (hr1.drewN m) (by omega))
          have HR2 := Lib.hid hr2
          clear hz q1 q2 q3 hne hr1 hr2 hrr
          go_wp2_with fail
          refine HCL.out.mono ?_
          rintro e w2 ⟨A3, n3, c3, rfl, ho3, hb3⟩
          have hn3 : (fld l').2.1.length = n3 := OwnB.len ho3
          subst hn3
          have hb3' := below_undrawn hb3
          have hs3 := hb3'.size
          obtain ⟨hl0, us, hou, hin⟩ := ho.below hb3'
          have HIN := Lib.hid hin
          have HL0 := Lib.hid hl0
          have HF := Lib.hid hf
          clear hin hl0 hf
          go_wp2_with (at_builtin
                       refine wpList_append_rd _ rfl _ _ 44 rfl w.heap.size 22 i0 _ 24 Try.underlying44 hi hz0 hz1 hz2 rfl A' n' c' us rfl (World.ownsRow.alloc hou _) (some ⟨w2.heap.size, 0, none⟩) 1 1 [.slice A3 (fld l').2.1.length c3] rfl
                         (Rd.new w2 [Value.slice A3 (fld l').2.1.length c3] 22) (by simp [Value.oneCell']) (by simp only [maxLen]; omega) (by omega) (by simp; omega) ?_
                       intro A4 c4 w4 hown4 hg4 hrow4)
          have b1 := hb.trans (hb3'.mono hs)
          have b2 := b1.alloc b1.size (.cells #[.slice A3 (fld l').2.1.length c3] 22)
          have b4 : Below w.heap.size w w4 := b2.grown hg4 b2.size (OwnRs.block ho)
          go_roundw
          case rel =>
            refine ⟨acc ++ [(fld l').2.1], A2, n2, c2, (fld l').2.2, A4, n' + 1, c4, f, rfl, HR2.out, hc2, hm2, by omega, by have := HF.out; have := HN2.out; have := HL2.out; omega, rfl, ?_, by omega, HGL.out, b4⟩
            exact OwnRs.push (w := w2.alloc (.cells #[.slice A3 (fld l').2.1.length c3] 22)) HL0.out (World.ownsRow.alloc hou _) (fun k u l hu hl => by
              obtain ⟨A5, c5, e5, h5⟩ := HIN.out k u l hu hl
              exact ⟨A5, c5, e5, h5.alloc _⟩) ((own_base ho3 hs).alloc _) hg4 hown4
          case measure => omega
        · have hres := Lib.hid (show splitN l = ((fld l').1, []) by rw [← HG.out, glue_bad hne (by have := HA.out; omega) hz])
          have hz2 : ((((fld l').1 : Nat) : Int) != 0) = true := by rw [bne_iff_ne]; omega
          have HZ := Lib.hid hz
          clear hz hne
          go_wp2_with fail
          go_ret2
          exact split_bad hres HZ.out (below_drewN hb m)
    · have e0 : n0 = 0 := by omega
      subst e0
      have e1 : l' = [] := List.eq_nil_of_length_eq_zero hl'
      subst e1
      have HG := Lib.hid hg
      clear hg hl hl' hacc hr
      go_wp2
      go_ret2
      exact split_end HG.out ho hb
end Go.Proofs.Ytmgmmbgjmnklkaa
