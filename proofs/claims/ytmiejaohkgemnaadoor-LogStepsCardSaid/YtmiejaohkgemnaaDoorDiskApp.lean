/-
  The disk's Append. Walks; no statement.
-/
import Derived.Test.YtmiejaohkgemnaaDoorMDev
import Derived.Test.YtmiejaohkgemnaaDoorRefDisk3
namespace Go.Proofs.YtmiejaohkgemnaaDoor
open Go.RowKit
set_option linter.unusedVariables false

theorem DkAt.spent {w w1 : World} {F : Nat → Prop} {g : Nat} {P : PD} {A0 A1 : Option Addr} {n0 c0 n1 c1 : Nat} (h : DkAt w F g P A0 n0 c0 A1 n1 c1)
    (hb : Bk w1 g 73 [.slice A0 n0 c0, .int .i64 P.s0, .slice A1 n1 c1, .int .i64 P.s1, .int .i64 (drawn P.power)]) (hg : w.grownBy w1 (some g)) : DkAt w1 F g P.drew A0 n0 c0 A1 n1 c1 :=
  ⟨hb, h.r0.off h.bk (by decide) hg, h.r1.off h.bk (by decide) hg, h.mine, h.f0, h.f1, h.apart, fun i hi => Nat.lt_of_lt_of_le (h.lt i hi) hg.size, h.fine, drawn_in h.pw⟩
theorem PD.drew_none {P : PD} (h : P.power = 0) : P.drew = P := by
  unfold PD.drew drawn
  rw [h]
  cases P
  simp_all
theorem DkAt.chg {w w1 : World} {F : Nat → Prop} {g : Nat} {P : PD} {A0 A1 : Option Addr} {n0 c0 n1 c1 : Nat} (h : DkAt w F g P A0 n0 c0 A1 n1 c1) (hg : w.grownBy w1 (some g)) : Chg F w w1 :=
  (Chg.refl F w).grown hg (fun k e => by injection e with e; subst e; exact .inl h.mine)
/-- a call whose area is none, or that has no power: what is left -/
theorem Did.down {w w1 : World} {F : Nat → Prop} {g : Nat} {P : PD} {A0 A1 : Option Addr} {n0 c0 n1 c1 : Nat} {W : World} (hW : Below W.heap.size W w) (h : DkAt w F g P A0 n0 c0 A1 n1 c1)
    (hb : Bk w1 g 73 [.slice A0 n0 c0, .int .i64 P.s0, .slice A1 n1 c1, .int .i64 P.s1, .int .i64 (drawn P.power)]) (hg : w.grownBy w1 (some g)) (hp : P.power = 0) : Did F g (P, 40) W (.returned (.int .i64 40)) w1 :=
  ⟨rfl, F, ⟨A0, n0, c0, A1, n1, c1, by have := h.spent hb hg; rwa [PD.drew_none hp] at this⟩, fun _ => .inl, Chg.behind hW (h.chg hg)⟩
/-- how the loop over the parts stands -/
def App0 (w1 : World) (g : Nat) (A0 : Option Addr) (n0 c0 : Nat) (l : List UInt8) (parts : List (List UInt8)) (v1 v2 v3 v4 : Value) (k : Nat) (wr : World) : Prop :=
  ∃ A n c, Bk wr g 73 [.slice A n c, v1, v2, v3, v4] ∧ OwnB wr 0 A n c (l ++ (parts.take k).flatten) ∧
    (∀ b, (Value.slice A n c).ownBlock = some b → (Value.slice A0 n0 c0).ownBlock = some b ∨ w1.heap.size ≤ b) ∧ Chg (fun i => i = g ∨ (Value.slice A0 n0 c0).ownBlock = some i) w1 wr
set_option maxHeartbeats 1000000 in
theorem append_0 (g : Nat) (P : PD) (F : Nat → Prop) (A0 A1 : Option Addr) (n0 c0 n1 c1 : Nat) (B : Option Addr) (q d : Nat) (parts : List (List UInt8)) (w : World) (h : DkAt w F g P A0 n0 c0 A1 n1 c1)
    (hB : ∀ w', Chg F w w' → RdRows w' B q parts) (bd : P.d0.length + parts.flatten.length ≤ 1099511627776) (hq : q ≤ 1099511627776) (hz : P.power ≠ 0) :
    Calls Tryd.prog 30 #[.pointer (some ⟨g, 0, none⟩), .int .i64 0, .slice B q d] w (Did F g (P.append 0 parts) w) := by
  obtain ⟨i0, hi, hz0, hz1, hz2⟩ := info_parts info_u8
  have HR := Lib.hid (show P.append 0 parts = (P.drew.setData 0 (P.data 0 ++ parts.flatten), 0) by unfold PD.append; simp [known, hz])
  have hb := (Below.refl w.heap.size w).alloc (Nat.le_refl _) (.cells #[.int .i64 0] 3)
  have hk := h.kept hb
  have HB := Lib.hid hb
  have HH := Lib.hid h
  have HKD := Lib.hid hk
  have HM := Lib.hid (missing_in (some ⟨w.heap.size, 0, none⟩) 1 1 [0] (w.alloc (.cells #[.int .i64 0] 3)) (Rd.new w ([0].map iv) 3) (by simp [maxLen]))
  have HK := Lib.hid (show (!([0] : List Int).all known) = false from rfl)
  have HSP := Lib.hid (spend_any g (.slice A0 n0 c0) (.int .i64 P.s0) (.slice A1 n1 c1) (.int .i64 P.s1) P.power _ hk.bk hk.pw)
  have HE := Lib.hid (show decide (P.power ≠ 0) = true by simp [hz])
  have HPB := Lib.hid hB
  have HBD := Lib.hid bd
  have hql : parts.length = q := (hB w (Chg.refl F w)).1
  have HQL := Lib.hid hql
  rw [HR.out]
  clear h hb hk hB bd hz hql
  go_enter Tryd.func30, Tryd.ntmps30
  go_wp2_with fail
  refine HM.out.mono ?_
  rintro e w' ⟨rfl, rfl⟩
  rw [HK.out]
  go_wp2_with fail
  refine HSP.out.mono ?_
  rintro e w1 ⟨rfl, kb, hg, hs⟩
  rw [HE.out]
  have hd1 := HKD.out.spent kb hg
  have HC1 := Lib.hid (Chg.behind HB.out (HKD.out.chg hg))
  have HD1 := Lib.hid hd1
  have HAT := Lib.hid (show App0 w1 g A0 n0 c0 P.d0 parts (.int .i64 P.s0) (.slice A1 n1 c1) (.int .i64 P.s1) (.int .i64 (drawn P.power)) 0 w1 from
    ⟨A0, n0, c0, kb, by have o : OwnB w1 0 A0 n0 c0 P.d0 := hd1.r0; simpa using o, fun b hb => .inl hb, Chg.refl _ _⟩)
  clear kb hg hs hd1 HM HSP HKD HB
  go_wp2_with fail
  go_loopw [23] (fun i wr => ∃ k : Nat, k ≤ q ∧ i = .int .i64 k ∧ App0 w1 g A0 n0 c0 P.d0 parts (.int .i64 P.s0) (.slice A1 n1 c1) (.int .i64 P.s1) (.int .i64 (drawn P.power)) k wr) (fun i _ => q - (intOf i).toNat)
  case atStart => exact ⟨0, by omega, rfl, HAT.out⟩
  case round =>
    clear HAT
    obtain ⟨k, hk, rfl, A, m, c, kb, ho, hA, hc⟩ := hrel
    have HKB := Lib.hid kb
    have HO := Lib.hid ho
    have HA := Lib.hid hA
    have HC := Lib.hid hc
    have hcF : Chg F w1 wr := hc.more (by rintro i (rfl | e); exact .inl HD1.out.mine; exact .inl (HD1.out.f0 i e))
    have HCF := Lib.hid hcF
    by_cases hkq : k < q
    · obtain ⟨a, E, e, rfl, _, hcl, _, _, hr, _⟩ := (HPB.out wr (HC1.out.same hcF)).at_ hkq
      have hkl : k < parts.length := by rw [HQL.out]; exact hkq
      have hf := flat_take parts k hkl
      have hle := flat_le parts (k + 1)
      rw [hf, List.length_append] at hle
      have hml := ho.len
      rw [List.length_append] at hml
      generalize parts.getD k [] = x at *
      have HF := Lib.hid hf
      have HX := Lib.hid hr
      have HNM := Lib.hid (show m + x.length ≤ 1099511627776 by have := HBD.out; omega)
      have HKQ := Lib.hid hkq
      have y1 : (0 : Int) ≤ (k : Int) := by omega
      have y2 : (k : Int) < (q : Int) := by omega
      have y3 : (q : Int) ≤ 1099511627776 := by omega
      obtain ⟨q0, q1, q2, q3, q4⟩ := kb.five
      clear hr hf hle hml hkl kb ho hA hc hcF q1 q2 q3 q4
      go_wp2_with (at_builtin
                   refine wpList_append_rd _ rfl _ _ 32 rfl 0 5 i0 _ 1 Tryd.underlying32 hi hz0 hz1 hz2 rfl A m c ((P.d0 ++ (parts.take k).flatten).map bv) rfl HO.out E x.length e (x.map bv) rfl
                     HX.out (oneCell_bytes x) (by have := HNM.out; simp only [maxLen]; omega) (by have := HNM.out; omega) (Nat.zero_le _) ?_
                   intro A2 c2 w2 hown2 hg2 hrow2
                   have HO2 := Lib.hid hown2
                   have HG2 := Lib.hid hg2
                   have HR2 := Lib.hid hrow2
                   have kb2 := HKB.out.grown hg2 (fun e => own_ne HO.out HKB.out (by decide) e.symm)
                   have HKB2 := Lib.hid kb2
                   obtain ⟨t0, _, _, _, _⟩ := kb2.five
                   have u0 := kb2.frozen 0
                   clear hown2 hg2 hrow2 kb2)
      have HOB := Lib.hid (show OwnB w2 0 A2 (m + x.length) c2 (P.d0 ++ (parts.take (k + 1)).flatten) by
        rw [HF.out, ← List.append_assoc]
        simpa [OwnB] using HO2.out)
      have HCN := Lib.hid ((HC.out.grown HG2.out (fun b e => (HA.out b e).imp .inr id)).set (g := g) (.inl (.inl rfl)) 0 (.slice A2 (m + x.length) c2))
      have HAN := Lib.hid (show ∀ b, (Value.slice A2 (m + x.length) c2).ownBlock = some b → (Value.slice A0 n0 c0).ownBlock = some b ∨ w1.heap.size ≤ b from fun b e => by
        rcases HR2.out with r | r
        · rw [r] at e; exact HA.out b e
        · rw [r] at e; injection e with e; subst e; exact .inr HC.out.size)
      go_roundw
      case rel => exact ⟨k + 1, by have := HKQ.out; omega, by go_num, A2, m + x.length, c2, HKB2.out.set 0 _, HOB.out.off HKB2.out (by decide) (grown_set (grown_refl _ _) 0 _), HAN.out, HCN.out⟩
      case measure => have := HKQ.out; simp [intOf]; omega
    · have HEK := Lib.hid (show parts.take k = parts from List.take_of_length_le (by have := HQL.out; omega))
      clear kb ho hA hc hcF
      go_wp2_with fail
      go_ret
      have ho := HO.out
      rw [HEK.out] at ho
      have hr1 := HC.out.owns HD1.out.r1 (fun b e => by
        rintro (rfl | e0)
        · exact own_ne HD1.out.r1 HD1.out.bk (by decide) e
        · exact HD1.out.apart b e0 e)
      obtain ⟨F', hd, hF'⟩ := HD1.out.put0 (Q := P.drew.setData 0 (P.data 0 ++ parts.flatten)) HKB.out ho hr1 HC.out.size HA.out (by
        have := HD1.out.fine
        unfold PD.Fine PD.drew PD.setData PD.data at *
        simp at *
        omega) (drawn_in HH.out.pw)
      exact ⟨rfl, F', hd, fun i hi => (hF' i hi).imp id (fun hh => Nat.le_trans HC1.out.size hh), HC1.out.same HCF.out⟩
/-- how the loop over the parts stands -/
def App1 (w1 : World) (g : Nat) (A1 : Option Addr) (n1 c1 : Nat) (l : List UInt8) (parts : List (List UInt8)) (v1 v2 v3 v4 : Value) (k : Nat) (wr : World) : Prop :=
  ∃ A n c, Bk wr g 73 [v1, v2, .slice A n c, v3, v4] ∧ OwnB wr 0 A n c (l ++ (parts.take k).flatten) ∧
    (∀ b, (Value.slice A n c).ownBlock = some b → (Value.slice A1 n1 c1).ownBlock = some b ∨ w1.heap.size ≤ b) ∧ Chg (fun i => i = g ∨ (Value.slice A1 n1 c1).ownBlock = some i) w1 wr
set_option maxHeartbeats 1000000 in
theorem append_1 (g : Nat) (P : PD) (F : Nat → Prop) (A0 A1 : Option Addr) (n0 c0 n1 c1 : Nat) (B : Option Addr) (q d : Nat) (parts : List (List UInt8)) (w : World) (h : DkAt w F g P A0 n0 c0 A1 n1 c1)
    (hB : ∀ w', Chg F w w' → RdRows w' B q parts) (bd : P.d1.length + parts.flatten.length ≤ 1099511627776) (hq : q ≤ 1099511627776) (hz : P.power ≠ 0) :
    Calls Tryd.prog 30 #[.pointer (some ⟨g, 0, none⟩), .int .i64 1, .slice B q d] w (Did F g (P.append 1 parts) w) := by
  obtain ⟨i0, hi, hz0, hz1, hz2⟩ := info_parts info_u8
  have HR := Lib.hid (show P.append 1 parts = (P.drew.setData 1 (P.data 1 ++ parts.flatten), 0) by unfold PD.append; simp [known, hz])
  have hb := (Below.refl w.heap.size w).alloc (Nat.le_refl _) (.cells #[.int .i64 1] 3)
  have hk := h.kept hb
  have HB := Lib.hid hb
  have HH := Lib.hid h
  have HKD := Lib.hid hk
  have HM := Lib.hid (missing_in (some ⟨w.heap.size, 0, none⟩) 1 1 [1] (w.alloc (.cells #[.int .i64 1] 3)) (Rd.new w ([1].map iv) 3) (by simp [maxLen]))
  have HK := Lib.hid (show (!([1] : List Int).all known) = false from rfl)
  have HSP := Lib.hid (spend_any g (.slice A0 n0 c0) (.int .i64 P.s0) (.slice A1 n1 c1) (.int .i64 P.s1) P.power _ hk.bk hk.pw)
  have HE := Lib.hid (show decide (P.power ≠ 0) = true by simp [hz])
  have HPB := Lib.hid hB
  have HBD := Lib.hid bd
  have hql : parts.length = q := (hB w (Chg.refl F w)).1
  have HQL := Lib.hid hql
  rw [HR.out]
  clear h hb hk hB bd hz hql
  go_enter Tryd.func30, Tryd.ntmps30
  go_wp2_with fail
  refine HM.out.mono ?_
  rintro e w' ⟨rfl, rfl⟩
  rw [HK.out]
  go_wp2_with fail
  refine HSP.out.mono ?_
  rintro e w1 ⟨rfl, kb, hg, hs⟩
  rw [HE.out]
  have hd1 := HKD.out.spent kb hg
  have HC1 := Lib.hid (Chg.behind HB.out (HKD.out.chg hg))
  have HD1 := Lib.hid hd1
  have HAT := Lib.hid (show App1 w1 g A1 n1 c1 P.d1 parts (.slice A0 n0 c0) (.int .i64 P.s0) (.int .i64 P.s1) (.int .i64 (drawn P.power)) 0 w1 from
    ⟨A1, n1, c1, kb, by have o : OwnB w1 0 A1 n1 c1 P.d1 := hd1.r1; simpa using o, fun b hb => .inl hb, Chg.refl _ _⟩)
  clear kb hg hs hd1 HM HSP HKD HB
  go_wp2_with fail
  go_loopw [23] (fun i wr => ∃ k : Nat, k ≤ q ∧ i = .int .i64 k ∧ App1 w1 g A1 n1 c1 P.d1 parts (.slice A0 n0 c0) (.int .i64 P.s0) (.int .i64 P.s1) (.int .i64 (drawn P.power)) k wr) (fun i _ => q - (intOf i).toNat)
  case atStart => exact ⟨0, by omega, rfl, HAT.out⟩
  case round =>
    clear HAT
    obtain ⟨k, hk, rfl, A, m, c, kb, ho, hA, hc⟩ := hrel
    have HKB := Lib.hid kb
    have HO := Lib.hid ho
    have HA := Lib.hid hA
    have HC := Lib.hid hc
    have hcF : Chg F w1 wr := hc.more (by rintro i (rfl | e); exact .inl HD1.out.mine; exact .inl (HD1.out.f1 i e))
    have HCF := Lib.hid hcF
    by_cases hkq : k < q
    · obtain ⟨a, E, e, rfl, _, hcl, _, _, hr, _⟩ := (HPB.out wr (HC1.out.same hcF)).at_ hkq
      have hkl : k < parts.length := by rw [HQL.out]; exact hkq
      have hf := flat_take parts k hkl
      have hle := flat_le parts (k + 1)
      rw [hf, List.length_append] at hle
      have hml := ho.len
      rw [List.length_append] at hml
      generalize parts.getD k [] = x at *
      have HF := Lib.hid hf
      have HX := Lib.hid hr
      have HNM := Lib.hid (show m + x.length ≤ 1099511627776 by have := HBD.out; omega)
      have HKQ := Lib.hid hkq
      have y1 : (0 : Int) ≤ (k : Int) := by omega
      have y2 : (k : Int) < (q : Int) := by omega
      have y3 : (q : Int) ≤ 1099511627776 := by omega
      obtain ⟨q0, q1, q2, q3, q4⟩ := kb.five
      clear hr hf hle hml hkl kb ho hA hc hcF q0 q1 q3 q4
      go_wp2_with (at_builtin
                   refine wpList_append_rd _ rfl _ _ 32 rfl 0 5 i0 _ 1 Tryd.underlying32 hi hz0 hz1 hz2 rfl A m c ((P.d1 ++ (parts.take k).flatten).map bv) rfl HO.out E x.length e (x.map bv) rfl
                     HX.out (oneCell_bytes x) (by have := HNM.out; simp only [maxLen]; omega) (by have := HNM.out; omega) (Nat.zero_le _) ?_
                   intro A2 c2 w2 hown2 hg2 hrow2
                   have HO2 := Lib.hid hown2
                   have HG2 := Lib.hid hg2
                   have HR2 := Lib.hid hrow2
                   have kb2 := HKB.out.grown hg2 (fun e => own_ne HO.out HKB.out (by decide) e.symm)
                   have HKB2 := Lib.hid kb2
                   obtain ⟨_, _, t2, _, _⟩ := kb2.five
                   have u2 := kb2.frozen 2
                   clear hown2 hg2 hrow2 kb2)
      have HOB := Lib.hid (show OwnB w2 0 A2 (m + x.length) c2 (P.d1 ++ (parts.take (k + 1)).flatten) by
        rw [HF.out, ← List.append_assoc]
        simpa [OwnB] using HO2.out)
      have HCN := Lib.hid ((HC.out.grown HG2.out (fun b e => (HA.out b e).imp .inr id)).set (g := g) (.inl (.inl rfl)) 2 (.slice A2 (m + x.length) c2))
      have HAN := Lib.hid (show ∀ b, (Value.slice A2 (m + x.length) c2).ownBlock = some b → (Value.slice A1 n1 c1).ownBlock = some b ∨ w1.heap.size ≤ b from fun b e => by
        rcases HR2.out with r | r
        · rw [r] at e; exact HA.out b e
        · rw [r] at e; injection e with e; subst e; exact .inr HC.out.size)
      go_roundw
      case rel => exact ⟨k + 1, by have := HKQ.out; omega, by go_num, A2, m + x.length, c2, HKB2.out.set 2 _, HOB.out.off HKB2.out (by decide) (grown_set (grown_refl _ _) 2 _), HAN.out, HCN.out⟩
      case measure => have := HKQ.out; simp [intOf]; omega
    · have HEK := Lib.hid (show parts.take k = parts from List.take_of_length_le (by have := HQL.out; omega))
      clear kb ho hA hc hcF
      go_wp2_with fail
      go_ret
      have ho := HO.out
      rw [HEK.out] at ho
      have hr0 := HC.out.owns HD1.out.r0 (fun b e => by
        rintro (rfl | e0)
        · exact own_ne HD1.out.r0 HD1.out.bk (by decide) e
        · exact HD1.out.apart b e e0)
      obtain ⟨F', hd, hF'⟩ := HD1.out.put1 (Q := P.drew.setData 1 (P.data 1 ++ parts.flatten)) HKB.out hr0 ho HC.out.size HA.out (by
        have := HD1.out.fine
        unfold PD.Fine PD.drew PD.setData PD.data at *
        simp at *
        omega) (drawn_in HH.out.pw)
      exact ⟨rfl, F', hd, fun i hi => (hF' i hi).imp id (fun hh => Nat.le_trans HC1.out.size hh), HC1.out.same HCF.out⟩
theorem data_01 (P : PD) : P.data 0 = P.d0 ∧ P.data 1 = P.d1 := ⟨rfl, rfl⟩
theorem disk_append (g : Nat) (a : Int) (P : PD) (F : Nat → Prop) (B : Option Addr) (q d : Nat) (parts : List (List UInt8)) (w : World) (h : Dk w F g P)
    (hB : ∀ w', Chg F w w' → RdRows w' B q parts) (b0 : P.d0.length + parts.flatten.length ≤ 1099511627776) (b1 : P.d1.length + parts.flatten.length ≤ 1099511627776) (hq : q ≤ 1099511627776) :
    Calls Tryd.prog 30 #[.pointer (some ⟨g, 0, none⟩), .int .i64 a, .slice B q d] w (Did F g (P.append a parts) w) := by
  have HDK := Lib.hid h
  obtain ⟨A0, n0, c0, A1, n1, c1, h⟩ := h
  cases hkn : known a
  · have hb := (Below.refl w.heap.size w).alloc (Nat.le_refl _) (.cells #[.int .i64 a] 3)
    have HB := Lib.hid hb
    have HM := Lib.hid (missing_in (some ⟨w.heap.size, 0, none⟩) 1 1 [a] (w.alloc (.cells #[.int .i64 a] 3)) (Rd.new w ([a].map iv) 3) (by simp [maxLen]))
    rw [known_one, hkn] at HM
    have HR := Lib.hid (show P.append a parts = (P, 41) by unfold PD.append; rw [hkn]; rfl)
    rw [HR.out]
    clear hkn h hB b0 b1 hq hb
    go_enter Tryd.func30, Tryd.ntmps30
    go_wp2_with fail
    refine HM.out.mono ?_
    rintro e w' ⟨rfl, rfl⟩
    go_wp2_with fail
    go_ret
    exact Did.none HDK.out HB.out
  · by_cases hz : P.power = 0
    · have hb := (Below.refl w.heap.size w).alloc (Nat.le_refl _) (.cells #[.int .i64 a] 3)
      have hk := h.kept hb
      have HB := Lib.hid hb
      have HKD := Lib.hid hk
      have HM := Lib.hid (missing_in (some ⟨w.heap.size, 0, none⟩) 1 1 [a] (w.alloc (.cells #[.int .i64 a] 3)) (Rd.new w ([a].map iv) 3) (by simp [maxLen]))
      rw [known_one, hkn] at HM
      have HSP := Lib.hid (spend_any g (.slice A0 n0 c0) (.int .i64 P.s0) (.slice A1 n1 c1) (.int .i64 P.s1) P.power _ hk.bk hk.pw)
      have HE := Lib.hid (show decide (P.power ≠ 0) = false by simp [hz])
      have HZ := Lib.hid hz
      have HR := Lib.hid (show P.append a parts = (P, 40) by unfold PD.append; rw [hkn]; simp [hz])
      rw [HR.out]
      clear hkn h hB b0 b1 hq hb hk hz
      go_enter Tryd.func30, Tryd.ntmps30
      go_wp2_with fail
      refine HM.out.mono ?_
      rintro e w' ⟨rfl, rfl⟩
      go_wp2_with fail
      refine HSP.out.mono ?_
      rintro e w1 ⟨rfl, kb, hg, hs⟩
      rw [HE.out]
      have HKB := Lib.hid kb
      have HG := Lib.hid hg
      clear kb hg hs
      go_wp2_with fail
      go_ret
      exact Did.down HB.out HKD.out HKB.out HG.out HZ.out
    · rcases known_cases hkn with rfl | rfl
      · exact append_0 g P F A0 A1 n0 c0 n1 c1 B q d parts w h hB b0 hq hz
      · exact append_1 g P F A0 A1 n0 c0 n1 c1 B q d parts w h hB b1 hq hz
end Go.Proofs.YtmiejaohkgemnaaDoor
