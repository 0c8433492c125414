/-
  The reference's Encode. A walk; no statement.
-/
import Derived.Test.YtmgmmbgjmnklkaaMsgRef9
import Derived.Test.YtmgmmbgjmnklkaaMsgRight1
import Derived.Test.YtmgmmbgjmnklkaaMsgRight2
import Derived.Test.YtmgmmbgjmnklkaaMsgRight3
import Derived.Deep.CutRange
namespace Go.Proofs.Ytmgmmbgjmnklkaa
set_option maxRecDepth 100000
open Go.RowKit
open Pk
set_option linter.unusedVariables false

theorem refRight_any (m : Mg) (q : Mad) (F : Nat → Prop) (w : World) (h : MgR F w m q) (hk : kindB m.kind = true) : Calls Try.prog 40 #[.agg #[.int .i64 m.kind, .int .i64 m.view, .int .i64 m.seq, .int .i64 m.client, .int .i64 m.stamp, .int .i64 m.e.c, .int .i64 m.e.s, .int .i64 m.e.t, .slice q.ea m.e.dig.length q.ec, .slice q.ga m.dig.length q.gc, .slice q.da m.data.length q.dc, .slice q.pa m.proof.length q.pc, .slice q.va m.proven.length q.vc]] w (Tells (.bool m.ok) w) := by
  obtain ⟨k, v, s, c, t, e, g, d, pf, pn⟩ := m
  rcases kind_cases hk with rfl | rfl | rfl | rfl | rfl | rfl | rfl | rfl | rfl | rfl | rfl | rfl | rfl | rfl
  · exact refRight_1 v s c t e g d pf pn q F w h
  · exact refRight_2 v s c t e g d pf pn q F w h
  · exact refRight_3 v s c t e g d pf pn q F w h
  · exact refRight_4 v s c t e g d pf pn q F w h
  · exact refRight_5 v s c t e g d pf pn q F w h
  · exact refRight_6 v s c t e g d pf pn q F w h
  · exact refRight_7 v s c t e g d pf pn q F w h
  · exact refRight_8 v s c t e g d pf pn q F w h
  · exact refRight_9 v s c t e g d pf pn q F w h
  · exact refRight_10 v s c t e g d pf pn q F w h
  · exact refRight_11 v s c t e g d pf pn q F w h
  · exact refRight_12 v s c t e g d pf pn q F w h
  · exact refRight_13 v s c t e g d pf pn q F w h
  · exact refRight_14 v s c t e g d pf pn q F w h
theorem enc_nums (v : Int) : numsN [v] = encI v := by simp [numsN, encI]
theorem letters_len (k : Int) : (lettersOf k).length = (partsN k).length := by simp [lettersOf]
theorem letters_at {k : Int} {i p : Nat} (h : (partsN k)[i]? = some p) : (lettersOf k)[i]? = some (letterB p) := by unfold lettersOf; rw [List.getElem?_map, h]; rfl
theorem letters_none {k : Int} (h : kindB k = false) : lettersOf k = [] := by unfold lettersOf; rw [(parts_kind k).2 h]; rfl
theorem letters_some {k : Int} (h : kindB k = true) : lettersOf k ≠ [] := by
  intro e
  have h2 : partsN k = [] := by unfold lettersOf at e; simpa using e
  rw [(parts_kind k).1 h2] at h
  cases h
theorem refNums1_any (v : Int) (X : World) (h : 0 ≤ v ∧ v < 4611686018427387904) : Calls Try.prog 41 #[.slice (some ⟨X.heap.size, 0, none⟩) 1 1] (X.alloc (.cells #[.int .i64 v] 3)) fun e w' => ∃ A n c, e = .returned (.slice A n c) ∧ OwnB w' X.heap.size A n c (encI v) ∧ Below X.heap.size X w' := by
  have hr : Rd (X.alloc (.cells #[.int .i64 v] 3)) (some ⟨X.heap.size, 0, none⟩) 1 ([v].map iv) := Rd.new X [.int .i64 v] 3
  have hb := (Below.refl X.heap.size X).alloc (Nat.le_refl _) (.cells #[.int .i64 v] 3)
  refine (refNumsB_any _ _ _ _ _ hr (by omega) ?_).mono ?_
  · simp [numsBad]
    omega
  · rintro e w2 ⟨A, n, c, rfl, ho, hb2⟩
    rw [enc_nums] at ho
    exact ⟨A, n, c, rfl, ho.more hb.size, below_next hb hb2 hb.size⟩

theorem nine8 {p : Nat} (h : p ≤ 8) : p = 0 ∨ p = 1 ∨ p = 2 ∨ p = 3 ∨ p = 4 ∨ p = 5 ∨ p = 6 ∨ p = 7 ∨ p = 8 := by omega
set_option maxHeartbeats 6400000 in
theorem refEncode_any (m : Mg) (q : Mad) (w : World) (h : MgR AllB w m q) : Calls Try.prog 14 #[.agg #[.int .i64 m.kind, .int .i64 m.view, .int .i64 m.seq, .int .i64 m.client, .int .i64 m.stamp, .int .i64 m.e.c, .int .i64 m.e.s, .int .i64 m.e.t, .slice q.ea m.e.dig.length q.ec, .slice q.ga m.dig.length q.gc, .slice q.da m.data.length q.dc, .slice q.pa m.proof.length q.pc, .slice q.va m.proven.length q.vc]] w (EncP m.encode w) := by
  obtain ⟨i0, hi, hz0, hz1, hz2⟩ := info_parts info_bytes
  have hB := (Below.refl w.heap.size w).alloc (Nat.le_refl _) (.cells #[.int .i64 m.kind, .int .i64 m.view, .int .i64 m.seq, .int .i64 m.client, .int .i64 m.stamp, .int .i64 m.e.c, .int .i64 m.e.s, .int .i64 m.e.t, .slice q.ea m.e.dig.length q.ec, .slice q.ga m.dig.length q.gc, .slice q.da m.data.length q.dc, .slice q.pa m.proof.length q.pc, .slice q.va m.proven.length q.vc] 28)
  have HB := Lib.hid hB
  have HK := Lib.hid (Bk.new w 28 [.int .i64 m.kind, .int .i64 m.view, .int .i64 m.seq, .int .i64 m.client, .int .i64 m.stamp, .int .i64 m.e.c, .int .i64 m.e.s, .int .i64 m.e.t, .slice q.ea m.e.dig.length q.ec, .slice q.ga m.dig.length q.gc, .slice q.da m.data.length q.dc, .slice q.pa m.proof.length q.pc, .slice q.va m.proven.length q.vc])
  have HR := Lib.hid ((h.keep (F' := (fun b => b < w.heap.size)) ⟨Nat.le_refl _, fun _ _ _ => rfl⟩ fun _ _ h => h).below hB)
  clear h hB
  by_cases hk : kindB m.kind = true
  rotate_left
  · have hk2 : kindB m.kind = false := by simpa using hk
    have HEN := Lib.hid (show m.encode = (80, []) by unfold Mg.encode; rw [if_pos hk2])
    have HP := Lib.hid (show ∀ W, Calls Try.prog 39 #[.int .i64 m.kind] W (Tells (.string ⟨([] : List UInt8).toArray⟩) W) from fun W => by
      have := refParts_any m.kind W
      rwa [letters_none hk2] at this)
    clear hk hk2
    go_enter Try.func14, Try.ntmps14
    go_wp2_with fail
    refine (HP.out _).mono ?_
    rintro e w1 ⟨rfl, hb1⟩
    have HB1 := Lib.hid (below_next HB.out hb1 HB.out.size)
    clear hb1
    go_wp2_with fail
    go_ret2
    exact ⟨HB1.out, none, 0, 0, by rw [HEN.out]; rfl, by rw [HEN.out]; exact OwnB.nil_ _ _⟩
  have HL := Lib.hid (parts_lt m.kind)
  have HN := Lib.hid (parts_len m.kind)
  have HKI := Lib.hid (show 0 ≤ m.kind ∧ m.kind < 4611686018427387904 by unfold kindB at hk; simp only [decide_eq_true_eq] at hk; omega)
  have HMP := Lib.hid (show m.pack = match allX m.partPack (partsN m.kind) with | none => none | some rows => joinX (encI m.kind :: rows) from rfl)
  have HMO := Lib.hid (show m.ok = true → ∀ p ∈ partsN m.kind, m.partOk p = true by
    intro hok
    unfold Mg.ok at hok
    simp only [Bool.and_eq_true, List.all_eq_true] at hok
    exact hok.1)
  have HE1 := Lib.hid (show m.ok = false → m.encode = (81, []) by intro hok; unfold Mg.encode; rw [if_neg (by rw [hk]; decide), if_pos hok])
  have HE2 := Lib.hid (show m.ok = true → m.encode = encX m.pack by
    intro hok
    unfold Mg.encode encX
    rw [if_neg (by rw [hk]; decide), if_neg (by rw [hok]; decide)]
    cases m.pack <;> rfl)
  have HP := Lib.hid (fun W => refParts_any m.kind W)
  have HLL := Lib.hid (letters_len m.kind)
  have HLA := Lib.hid (fun (i p : Nat) (h : (partsN m.kind)[i]? = some p) => letters_at h)
  have hls := letters_some hk
  have HRT := Lib.hid (fun F W hr => refRight_any m q F W hr hk)
  generalize lettersOf m.kind = ls at *
  generalize partsN m.kind = ps at *
  have hlz : 0 < ls.length := List.length_pos_iff.2 hls
  clear hk
  go_enter Try.func14, Try.ntmps14
  go_wp2_with fail
  refine (HP.out _).mono ?_
  rintro e w1 ⟨rfl, hb1⟩
  have HB1 := Lib.hid (below_next HB.out hb1 HB.out.size)
  have HK1 := Lib.hid (HK.out.kept hb1)
  have HR1 := Lib.hid (HR.out.below hb1)
  clear hb1
  have k0 := HK1.out.at_ (i := 0) rfl
  have k1 := HK1.out.at_ (i := 1) rfl
  have k2 := HK1.out.at_ (i := 2) rfl
  have k3 := HK1.out.at_ (i := 3) rfl
  have k4 := HK1.out.at_ (i := 4) rfl
  have k5 := HK1.out.at_ (i := 5) rfl
  have k6 := HK1.out.at_ (i := 6) rfl
  have k7 := HK1.out.at_ (i := 7) rfl
  have k8 := HK1.out.at_ (i := 8) rfl
  have k9 := HK1.out.at_ (i := 9) rfl
  have k10 := HK1.out.at_ (i := 10) rfl
  have k11 := HK1.out.at_ (i := 11) rfl
  have k12 := HK1.out.at_ (i := 12) rfl
  have hle : ls.isEmpty = false := by cases ls with | nil => exact absurd rfl hls | cons a b => rfl
  clear hls
  go_wp2_with fail
  refine (HRT.out _ _ HR1.out).mono ?_
  rintro e w2 ⟨rfl, hb2⟩
  have HB2 := Lib.hid (below_next HB1.out hb2 HB1.out.size)
  have HK2 := Lib.hid (HK1.out.kept hb2)
  have HR2 := Lib.hid (HR1.out.below hb2)
  clear hb2 HRT HB HK HR HB1 HK1 HR1 k0 k1 k2 k3 k4 k5 k6 k7 k8 k9 k10 k11 k12
  cases hok : m.ok
  · have HEN := Lib.hid (HE1.out hok)
    clear hok
    go_wp2_with fail
    go_ret2
    exact ⟨HB2.out, none, 0, 0, by rw [HEN.out]; rfl, by rw [HEN.out]; exact OwnB.nil_ _ _⟩
  have HOK := Lib.hid (HMO.out hok)
  have HEN := Lib.hid (HE2.out hok)
  have k0 := HK2.out.at_ (i := 0) rfl
  clear hok HMO HE1 HE2
  go_wp2_with fail
  refine (refNums1_any m.kind w2 HKI.out).mono ?_
  rintro e w3 ⟨A1, n1, c1, rfl, ho1, hb3⟩
  obtain rfl : (encI m.kind).length = n1 := ho1.len
  have HB3 := Lib.hid (below_next HB2.out hb3 HB2.out.size)
  have HK3 := Lib.hid (HK2.out.kept hb3)
  have HR3 := Lib.hid (HR2.out.below hb3)
  have HS := Lib.hid (own_one w3 (.slice A1 (encI m.kind).length c1) (encI m.kind) w.heap.size HB3.out.size ⟨A1, c1, rfl, (BF.own ho1).all⟩)
  have hB4 := (Below.refl w3.heap.size w3).alloc (Nat.le_refl _) (.cells #[.slice A1 (encI m.kind).length c1] 22)
  have HB4 := Lib.hid (below_next HB3.out hB4 HB3.out.size)
  have HK4 := Lib.hid (HK3.out.kept hB4)
  have HR4 := Lib.hid (HR3.out.below hB4)
  clear hb3 ho1 hB4 HB2 HK2 HR2 HB3 HK3 HR3 k0
  go_wp2_with fail
  go_loopw [5, 6] (fun s i wr => ∃ (A' : Option Addr) (n' c' k : Nat) (rows : List (List UInt8)), k ≤ ps.length ∧ s = .slice A' n' c' ∧ i = .int .i64 k ∧ OwnS RB 22 AllB w.heap.size wr A' n' c' (encI m.kind :: rows) ∧ allX m.partPack (ps.take k) = some rows ∧
    Bk wr w.heap.size 28 [.int .i64 m.kind, .int .i64 m.view, .int .i64 m.seq, .int .i64 m.client, .int .i64 m.stamp, .int .i64 m.e.c, .int .i64 m.e.s, .int .i64 m.e.t, .slice q.ea m.e.dig.length q.ec, .slice q.ga m.dig.length q.gc, .slice q.da m.data.length q.dc, .slice q.pa m.proof.length q.pc, .slice q.va m.proven.length q.vc] ∧ MgR (fun b => b < w.heap.size) wr m q ∧ Below w.heap.size w wr) (fun _ i _ => ps.length - (intOf i).toNat)
  case atStart => exact ⟨_, 1, 1, 0, [], by omega, rfl, rfl, HS.out, rfl, HK4.out, HR4.out, HB4.out⟩
  case round =>
    obtain ⟨A', n', c', k, rows, hk, rfl, rfl, ho, ha, kb, hrm, hb⟩ := hrel
    have hal := allX_len ha
    have hol := ho.1
    rw [List.length_take] at hal
    rw [List.length_cons] at hol
    obtain rfl : n' = k + 1 := by omega
    have HA := Lib.hid ha
    have HBW := Lib.hid hb
    by_cases hlt : k < ps.length
    · have hx : ps[k]? = some ps[k] := List.getElem?_eq_getElem hlt
      have hq := HLA.out k _ hx
      have hkl : k < ls.length := by have := HLL.out; omega
      have hmem := List.getElem_mem hlt
      have HM := Lib.hid hmem
      have hp9 := HL.out _ hmem
      have hpo := HOK.out _ hmem
      have HSN := Lib.hid (show ps.take (k + 1) = ps.take k ++ [ps[k]] from List.take_succ_eq_append_getElem hlt)
      generalize ps[k] = p at *
      have hlk : ls[k] = letterB p := by rw [List.getElem?_eq_getElem hkl] at hq; exact Option.some.inj hq
      have y1 : (0 : Int) ≤ (k : Int) := by omega
      have y2 : (k : Int) < (ls.length : Int) := by omega
      have y3 : ps.length ≤ 4 := HN.out
      have HO := Lib.hid ho
      have HKW := Lib.hid kb
      have HRW := Lib.hid hrm
      have HPO := Lib.hid hpo
      have HLK := Lib.hid hlk
      obtain ⟨X, hX⟩ : ∃ X, X = wr.alloc (.cells #[] 5) := ⟨_, rfl⟩
      have hbx : Below wr.heap.size wr X := by rw [hX]; exact (Below.refl _ _).alloc (Nat.le_refl _) _
      have HBX := Lib.hid hbx
      have HKX := Lib.hid (kb.kept hbx)
      have HRX := Lib.hid (hrm.below hbx)
      clear ho kb hrm ha hb hx hq hmem hal hol hpo hlk hbx
      go_upto_region 11 with fail
      rw [← hX]
      clear hX
      have z0 := HKX.out.at_ (i := 0) rfl
      have z1 := HKX.out.at_ (i := 1) rfl
      have z2 := HKX.out.at_ (i := 2) rfl
      have z3 := HKX.out.at_ (i := 3) rfl
      have z4 := HKX.out.at_ (i := 4) rfl
      have z5 := HKX.out.at_ (i := 5) rfl
      have z6 := HKX.out.at_ (i := 6) rfl
      have z7 := HKX.out.at_ (i := 7) rfl
      have z8 := HKX.out.at_ (i := 8) rfl
      have z9 := HKX.out.at_ (i := 9) rfl
      have z10 := HKX.out.at_ (i := 10) rfl
      have z11 := HKX.out.at_ (i := 11) rfl
      have z12 := HKX.out.at_ (i := 12) rfl
      have h9 : p ≤ 8 := by omega
      clear hp9
      rcases nine8 h9 with rfl | rfl | rfl | rfl | rfl | rfl | rfl | rfl | rfl
      · have hks : k < ByteArray.size ⟨ls.toArray⟩ := hkl
        have hlk : ((⟨ls.toArray⟩ : ByteArray)[k]'hks).toNat = 118 := by show (ls[k]).toNat = _; rw [HLK.out]; rfl
        have b0 : ((((⟨ls.toArray⟩ : ByteArray)[k]'hks).toNat : Int) == 118) = true := by rw [hlk]; rfl
        clear hlk
        have HC := Lib.hid (refNums1_any m.view X (by have := wide_lt (show wideB m.view = true from HPO.out); omega))
        go_wp2_with fail
        refine HC.out.mono ?_
        rintro e w4 ⟨A4, n4, c4, rfl, ho4, hbx4⟩
        obtain rfl : (encI m.view).length = n4 := ho4.len
        have hb4 := below_next HBX.out hbx4 HBX.out.size
        have hf : BF (fun b => b < w.heap.size ∨ wr.heap.size ≤ b) w4 A4 c4 (encI m.view) := (BF.own ho4).keep ⟨Nat.le_refl _, fun _ _ _ => rfl⟩ fun b hb _ => .inr (Nat.le_trans HBX.out.size hb)
        have hl : m.partPack 0 = some (encI m.view) := rfl
        have HB4 := Lib.hid (below_next HBW.out hb4 HBW.out.size)
        have HK4 := Lib.hid (HKW.out.kept hb4)
        have HR4 := Lib.hid (HRW.out.below hb4)
        have HF := Lib.hid hf
        have HL4 := Lib.hid hl
        have HBG := Lib.hid (fun g hg => HO.out.block g hg)
        have HBL := Lib.hid (fun g hg => HO.out.block_lt g hg)
        obtain ⟨hl0, css, hcl, hou, hin⟩ := HO.out.below hb4
        have HL0 := Lib.hid hl0
        have HCL := Lib.hid hcl
        have HIN := Lib.hid hin
        have hs4 := HB4.out.size
        clear hb4 hf hl hl0 hcl hin hbx4 ho4 b0 z0 z1 z2 z3 z4 z5 z6 z7 z8 z9 z10 z11 z12
        go_wp2_with (at_builtin
                     refine wpList_append_rd _ rfl _ _ 44 rfl w.heap.size 22 i0 _ 24 Try.underlying44 hi hz0 hz1 hz2 rfl A' (k + 1) c' css.flatten rfl (World.ownsRow.alloc hou _) (some ⟨w4.heap.size, 0, none⟩) 1 1 [.slice A4 (encI m.view).length c4] rfl
                       (Rd.new w4 [Value.slice A4 (encI m.view).length c4] 22) (by simp [Value.oneCell']) (by simp only [maxLen]; omega) (by omega) (by simp; omega) ?_
                     intro A5 c5 w5 hown5 hg5 hrow5)
        have hB5 := (Below.refl w4.heap.size w4).alloc (Nat.le_refl _) (.cells #[.slice A4 (encI m.view).length c4] 22)
        have HX := Lib.hid (show OwnS RB 22 AllB w.heap.size w5 A5 (k + 1 + 1) c5 ((encI m.kind :: rows) ++ [encI m.view]) from
          OwnS.push (R := RB) (G := AllB) (F := fun b => b < w.heap.size ∨ wr.heap.size ≤ b) (w := w4.alloc (.cells #[.slice A4 (encI m.view).length c4] 22)) HL0.out HCL.out (fun j y cs hy hc => RB.below (HIN.out j y cs hy hc) hB5) ⟨A4, c4, rfl, HF.out.below hB5⟩
            (fun b hb _ => ⟨trivial, fun e => by
              rcases hb with hb | hb
              · have := HBG.out b e.symm; omega
              · have := HBL.out b e.symm; omega⟩) hg5 hown5 hrow5)
        have HB5 := Lib.hid ((HB4.out.alloc HB4.out.size (.cells #[.slice A4 (encI m.view).length c4] 22)).grown hg5 (by have := HB4.out.size; simp; omega) (fun g hg => HBG.out g hg))
        have HK5 := Lib.hid ((HK4.out.alloc (.cells #[.slice A4 (encI m.view).length c4] 22)).grown hg5 (fun e => own_ne hou HK4.out (by decide) e.symm))
        have HR5 := Lib.hid ((HR4.out.below hB5).keep (Kp.of_grown hg5 (fun b hb e => by have := HBG.out b e.symm; omega)) fun _ h _ => h)
        clear hown5 hg5 hrow5 hB5 hou
        go_roundw
        case rel => exact ⟨A5, k + 1 + 1, c5, k + 1, rows ++ [encI m.view], by omega, rfl, by go_num, HX.out, by rw [HSN.out]; exact allX_snoc HA.out HL4.out, HK5.out, HR5.out, HB5.out⟩
        case measure => simp [intOf]; omega
      · have hks : k < ByteArray.size ⟨ls.toArray⟩ := hkl
        have hlk : ((⟨ls.toArray⟩ : ByteArray)[k]'hks).toNat = 115 := by show (ls[k]).toNat = _; rw [HLK.out]; rfl
        have b0 : ((((⟨ls.toArray⟩ : ByteArray)[k]'hks).toNat : Int) == 118) = false := by rw [hlk]; rfl
        have b1 : ((((⟨ls.toArray⟩ : ByteArray)[k]'hks).toNat : Int) == 115) = true := by rw [hlk]; rfl
        clear hlk
        have HC := Lib.hid (refNums1_any m.seq X (by have := wide_lt (show wideB m.seq = true from HPO.out); omega))
        go_wp2_with fail
        refine HC.out.mono ?_
        rintro e w4 ⟨A4, n4, c4, rfl, ho4, hbx4⟩
        obtain rfl : (encI m.seq).length = n4 := ho4.len
        have hb4 := below_next HBX.out hbx4 HBX.out.size
        have hf : BF (fun b => b < w.heap.size ∨ wr.heap.size ≤ b) w4 A4 c4 (encI m.seq) := (BF.own ho4).keep ⟨Nat.le_refl _, fun _ _ _ => rfl⟩ fun b hb _ => .inr (Nat.le_trans HBX.out.size hb)
        have hl : m.partPack 1 = some (encI m.seq) := rfl
        have HB4 := Lib.hid (below_next HBW.out hb4 HBW.out.size)
        have HK4 := Lib.hid (HKW.out.kept hb4)
        have HR4 := Lib.hid (HRW.out.below hb4)
        have HF := Lib.hid hf
        have HL4 := Lib.hid hl
        have HBG := Lib.hid (fun g hg => HO.out.block g hg)
        have HBL := Lib.hid (fun g hg => HO.out.block_lt g hg)
        obtain ⟨hl0, css, hcl, hou, hin⟩ := HO.out.below hb4
        have HL0 := Lib.hid hl0
        have HCL := Lib.hid hcl
        have HIN := Lib.hid hin
        have hs4 := HB4.out.size
        clear hb4 hf hl hl0 hcl hin hbx4 ho4 b0 b1 z0 z1 z2 z3 z4 z5 z6 z7 z8 z9 z10 z11 z12
        go_wp2_with (at_builtin
                     refine wpList_append_rd _ rfl _ _ 44 rfl w.heap.size 22 i0 _ 24 Try.underlying44 hi hz0 hz1 hz2 rfl A' (k + 1) c' css.flatten rfl (World.ownsRow.alloc hou _) (some ⟨w4.heap.size, 0, none⟩) 1 1 [.slice A4 (encI m.seq).length c4] rfl
                       (Rd.new w4 [Value.slice A4 (encI m.seq).length c4] 22) (by simp [Value.oneCell']) (by simp only [maxLen]; omega) (by omega) (by simp; omega) ?_
                     intro A5 c5 w5 hown5 hg5 hrow5)
        have hB5 := (Below.refl w4.heap.size w4).alloc (Nat.le_refl _) (.cells #[.slice A4 (encI m.seq).length c4] 22)
        have HX := Lib.hid (show OwnS RB 22 AllB w.heap.size w5 A5 (k + 1 + 1) c5 ((encI m.kind :: rows) ++ [encI m.seq]) from
          OwnS.push (R := RB) (G := AllB) (F := fun b => b < w.heap.size ∨ wr.heap.size ≤ b) (w := w4.alloc (.cells #[.slice A4 (encI m.seq).length c4] 22)) HL0.out HCL.out (fun j y cs hy hc => RB.below (HIN.out j y cs hy hc) hB5) ⟨A4, c4, rfl, HF.out.below hB5⟩
            (fun b hb _ => ⟨trivial, fun e => by
              rcases hb with hb | hb
              · have := HBG.out b e.symm; omega
              · have := HBL.out b e.symm; omega⟩) hg5 hown5 hrow5)
        have HB5 := Lib.hid ((HB4.out.alloc HB4.out.size (.cells #[.slice A4 (encI m.seq).length c4] 22)).grown hg5 (by have := HB4.out.size; simp; omega) (fun g hg => HBG.out g hg))
        have HK5 := Lib.hid ((HK4.out.alloc (.cells #[.slice A4 (encI m.seq).length c4] 22)).grown hg5 (fun e => own_ne hou HK4.out (by decide) e.symm))
        have HR5 := Lib.hid ((HR4.out.below hB5).keep (Kp.of_grown hg5 (fun b hb e => by have := HBG.out b e.symm; omega)) fun _ h _ => h)
        clear hown5 hg5 hrow5 hB5 hou
        go_roundw
        case rel => exact ⟨A5, k + 1 + 1, c5, k + 1, rows ++ [encI m.seq], by omega, rfl, by go_num, HX.out, by rw [HSN.out]; exact allX_snoc HA.out HL4.out, HK5.out, HR5.out, HB5.out⟩
        case measure => simp [intOf]; omega
      · have hks : k < ByteArray.size ⟨ls.toArray⟩ := hkl
        have hlk : ((⟨ls.toArray⟩ : ByteArray)[k]'hks).toNat = 99 := by show (ls[k]).toNat = _; rw [HLK.out]; rfl
        have b0 : ((((⟨ls.toArray⟩ : ByteArray)[k]'hks).toNat : Int) == 118) = false := by rw [hlk]; rfl
        have b1 : ((((⟨ls.toArray⟩ : ByteArray)[k]'hks).toNat : Int) == 115) = false := by rw [hlk]; rfl
        have b2 : ((((⟨ls.toArray⟩ : ByteArray)[k]'hks).toNat : Int) == 99) = true := by rw [hlk]; rfl
        clear hlk
        have HC := Lib.hid (refNums1_any m.client X (by have h : peerB m.client = true := HPO.out; unfold peerB at h; simp only [decide_eq_true_eq] at h; omega))
        go_wp2_with fail
        refine HC.out.mono ?_
        rintro e w4 ⟨A4, n4, c4, rfl, ho4, hbx4⟩
        obtain rfl : (encI m.client).length = n4 := ho4.len
        have hb4 := below_next HBX.out hbx4 HBX.out.size
        have hf : BF (fun b => b < w.heap.size ∨ wr.heap.size ≤ b) w4 A4 c4 (encI m.client) := (BF.own ho4).keep ⟨Nat.le_refl _, fun _ _ _ => rfl⟩ fun b hb _ => .inr (Nat.le_trans HBX.out.size hb)
        have hl : m.partPack 2 = some (encI m.client) := rfl
        have HB4 := Lib.hid (below_next HBW.out hb4 HBW.out.size)
        have HK4 := Lib.hid (HKW.out.kept hb4)
        have HR4 := Lib.hid (HRW.out.below hb4)
        have HF := Lib.hid hf
        have HL4 := Lib.hid hl
        have HBG := Lib.hid (fun g hg => HO.out.block g hg)
        have HBL := Lib.hid (fun g hg => HO.out.block_lt g hg)
        obtain ⟨hl0, css, hcl, hou, hin⟩ := HO.out.below hb4
        have HL0 := Lib.hid hl0
        have HCL := Lib.hid hcl
        have HIN := Lib.hid hin
        have hs4 := HB4.out.size
        clear hb4 hf hl hl0 hcl hin hbx4 ho4 b0 b1 b2 z0 z1 z2 z3 z4 z5 z6 z7 z8 z9 z10 z11 z12
        go_wp2_with (at_builtin
                     refine wpList_append_rd _ rfl _ _ 44 rfl w.heap.size 22 i0 _ 24 Try.underlying44 hi hz0 hz1 hz2 rfl A' (k + 1) c' css.flatten rfl (World.ownsRow.alloc hou _) (some ⟨w4.heap.size, 0, none⟩) 1 1 [.slice A4 (encI m.client).length c4] rfl
                       (Rd.new w4 [Value.slice A4 (encI m.client).length c4] 22) (by simp [Value.oneCell']) (by simp only [maxLen]; omega) (by omega) (by simp; omega) ?_
                     intro A5 c5 w5 hown5 hg5 hrow5)
        have hB5 := (Below.refl w4.heap.size w4).alloc (Nat.le_refl _) (.cells #[.slice A4 (encI m.client).length c4] 22)
        have HX := Lib.hid (show OwnS RB 22 AllB w.heap.size w5 A5 (k + 1 + 1) c5 ((encI m.kind :: rows) ++ [encI m.client]) from
          OwnS.push (R := RB) (G := AllB) (F := fun b => b < w.heap.size ∨ wr.heap.size ≤ b) (w := w4.alloc (.cells #[.slice A4 (encI m.client).length c4] 22)) HL0.out HCL.out (fun j y cs hy hc => RB.below (HIN.out j y cs hy hc) hB5) ⟨A4, c4, rfl, HF.out.below hB5⟩
            (fun b hb _ => ⟨trivial, fun e => by
              rcases hb with hb | hb
              · have := HBG.out b e.symm; omega
              · have := HBL.out b e.symm; omega⟩) hg5 hown5 hrow5)
        have HB5 := Lib.hid ((HB4.out.alloc HB4.out.size (.cells #[.slice A4 (encI m.client).length c4] 22)).grown hg5 (by have := HB4.out.size; simp; omega) (fun g hg => HBG.out g hg))
        have HK5 := Lib.hid ((HK4.out.alloc (.cells #[.slice A4 (encI m.client).length c4] 22)).grown hg5 (fun e => own_ne hou HK4.out (by decide) e.symm))
        have HR5 := Lib.hid ((HR4.out.below hB5).keep (Kp.of_grown hg5 (fun b hb e => by have := HBG.out b e.symm; omega)) fun _ h _ => h)
        clear hown5 hg5 hrow5 hB5 hou
        go_roundw
        case rel => exact ⟨A5, k + 1 + 1, c5, k + 1, rows ++ [encI m.client], by omega, rfl, by go_num, HX.out, by rw [HSN.out]; exact allX_snoc HA.out HL4.out, HK5.out, HR5.out, HB5.out⟩
        case measure => simp [intOf]; omega
      · have hks : k < ByteArray.size ⟨ls.toArray⟩ := hkl
        have hlk : ((⟨ls.toArray⟩ : ByteArray)[k]'hks).toNat = 116 := by show (ls[k]).toNat = _; rw [HLK.out]; rfl
        have b0 : ((((⟨ls.toArray⟩ : ByteArray)[k]'hks).toNat : Int) == 118) = false := by rw [hlk]; rfl
        have b1 : ((((⟨ls.toArray⟩ : ByteArray)[k]'hks).toNat : Int) == 115) = false := by rw [hlk]; rfl
        have b2 : ((((⟨ls.toArray⟩ : ByteArray)[k]'hks).toNat : Int) == 99) = false := by rw [hlk]; rfl
        have b3 : ((((⟨ls.toArray⟩ : ByteArray)[k]'hks).toNat : Int) == 116) = true := by rw [hlk]; rfl
        clear hlk
        have HC := Lib.hid (refNums1_any m.stamp X (by have := wide_lt (show wideB m.stamp = true from HPO.out); omega))
        go_wp2_with fail
        refine HC.out.mono ?_
        rintro e w4 ⟨A4, n4, c4, rfl, ho4, hbx4⟩
        obtain rfl : (encI m.stamp).length = n4 := ho4.len
        have hb4 := below_next HBX.out hbx4 HBX.out.size
        have hf : BF (fun b => b < w.heap.size ∨ wr.heap.size ≤ b) w4 A4 c4 (encI m.stamp) := (BF.own ho4).keep ⟨Nat.le_refl _, fun _ _ _ => rfl⟩ fun b hb _ => .inr (Nat.le_trans HBX.out.size hb)
        have hl : m.partPack 3 = some (encI m.stamp) := rfl
        have HB4 := Lib.hid (below_next HBW.out hb4 HBW.out.size)
        have HK4 := Lib.hid (HKW.out.kept hb4)
        have HR4 := Lib.hid (HRW.out.below hb4)
        have HF := Lib.hid hf
        have HL4 := Lib.hid hl
        have HBG := Lib.hid (fun g hg => HO.out.block g hg)
        have HBL := Lib.hid (fun g hg => HO.out.block_lt g hg)
        obtain ⟨hl0, css, hcl, hou, hin⟩ := HO.out.below hb4
        have HL0 := Lib.hid hl0
        have HCL := Lib.hid hcl
        have HIN := Lib.hid hin
        have hs4 := HB4.out.size
        clear hb4 hf hl hl0 hcl hin hbx4 ho4 b0 b1 b2 b3 z0 z1 z2 z3 z4 z5 z6 z7 z8 z9 z10 z11 z12
        go_wp2_with (at_builtin
                     refine wpList_append_rd _ rfl _ _ 44 rfl w.heap.size 22 i0 _ 24 Try.underlying44 hi hz0 hz1 hz2 rfl A' (k + 1) c' css.flatten rfl (World.ownsRow.alloc hou _) (some ⟨w4.heap.size, 0, none⟩) 1 1 [.slice A4 (encI m.stamp).length c4] rfl
                       (Rd.new w4 [Value.slice A4 (encI m.stamp).length c4] 22) (by simp [Value.oneCell']) (by simp only [maxLen]; omega) (by omega) (by simp; omega) ?_
                     intro A5 c5 w5 hown5 hg5 hrow5)
        have hB5 := (Below.refl w4.heap.size w4).alloc (Nat.le_refl _) (.cells #[.slice A4 (encI m.stamp).length c4] 22)
        have HX := Lib.hid (show OwnS RB 22 AllB w.heap.size w5 A5 (k + 1 + 1) c5 ((encI m.kind :: rows) ++ [encI m.stamp]) from
          OwnS.push (R := RB) (G := AllB) (F := fun b => b < w.heap.size ∨ wr.heap.size ≤ b) (w := w4.alloc (.cells #[.slice A4 (encI m.stamp).length c4] 22)) HL0.out HCL.out (fun j y cs hy hc => RB.below (HIN.out j y cs hy hc) hB5) ⟨A4, c4, rfl, HF.out.below hB5⟩
            (fun b hb _ => ⟨trivial, fun e => by
              rcases hb with hb | hb
              · have := HBG.out b e.symm; omega
              · have := HBL.out b e.symm; omega⟩) hg5 hown5 hrow5)
        have HB5 := Lib.hid ((HB4.out.alloc HB4.out.size (.cells #[.slice A4 (encI m.stamp).length c4] 22)).grown hg5 (by have := HB4.out.size; simp; omega) (fun g hg => HBG.out g hg))
        have HK5 := Lib.hid ((HK4.out.alloc (.cells #[.slice A4 (encI m.stamp).length c4] 22)).grown hg5 (fun e => own_ne hou HK4.out (by decide) e.symm))
        have HR5 := Lib.hid ((HR4.out.below hB5).keep (Kp.of_grown hg5 (fun b hb e => by have := HBG.out b e.symm; omega)) fun _ h _ => h)
        clear hown5 hg5 hrow5 hB5 hou
        go_roundw
        case rel => exact ⟨A5, k + 1 + 1, c5, k + 1, rows ++ [encI m.stamp], by omega, rfl, by go_num, HX.out, by rw [HSN.out]; exact allX_snoc HA.out HL4.out, HK5.out, HR5.out, HB5.out⟩
        case measure => simp [intOf]; omega
      · have hks : k < ByteArray.size ⟨ls.toArray⟩ := hkl
        have hlk : ((⟨ls.toArray⟩ : ByteArray)[k]'hks).toNat = 101 := by show (ls[k]).toNat = _; rw [HLK.out]; rfl
        have b0 : ((((⟨ls.toArray⟩ : ByteArray)[k]'hks).toNat : Int) == 118) = false := by rw [hlk]; rfl
        have b1 : ((((⟨ls.toArray⟩ : ByteArray)[k]'hks).toNat : Int) == 115) = false := by rw [hlk]; rfl
        have b2 : ((((⟨ls.toArray⟩ : ByteArray)[k]'hks).toNat : Int) == 99) = false := by rw [hlk]; rfl
        have b3 : ((((⟨ls.toArray⟩ : ByteArray)[k]'hks).toNat : Int) == 116) = false := by rw [hlk]; rfl
        have b4 : ((((⟨ls.toArray⟩ : ByteArray)[k]'hks).toNat : Int) == 101) = true := by rw [hlk]; rfl
        clear hlk
        have HC := Lib.hid (refPackEntry_any m.e q.ea q.ec _ X HRX.out.e)
        go_wp2_with fail
        refine HC.out.mono ?_
        rw [en_enc (show m.e.ok = true from HPO.out)]
        rintro e w4 ⟨hbx4, A4, n4, c4, rfl, ho4⟩
        have ho4 : OwnB w4 X.heap.size A4 n4 c4 m.e.pack := ho4
        obtain rfl : (m.e.pack).length = n4 := ho4.len
        have hb4 := below_next HBX.out hbx4 HBX.out.size
        have hf : BF (fun b => b < w.heap.size ∨ wr.heap.size ≤ b) w4 A4 c4 m.e.pack := (BF.own ho4).keep ⟨Nat.le_refl _, fun _ _ _ => rfl⟩ fun b hb _ => .inr (Nat.le_trans HBX.out.size hb)
        have hl : m.partPack 4 = some m.e.pack := rfl
        dsimp only
        have HB4 := Lib.hid (below_next HBW.out hb4 HBW.out.size)
        have HK4 := Lib.hid (HKW.out.kept hb4)
        have HR4 := Lib.hid (HRW.out.below hb4)
        have HF := Lib.hid hf
        have HL4 := Lib.hid hl
        have HBG := Lib.hid (fun g hg => HO.out.block g hg)
        have HBL := Lib.hid (fun g hg => HO.out.block_lt g hg)
        obtain ⟨hl0, css, hcl, hou, hin⟩ := HO.out.below hb4
        have HL0 := Lib.hid hl0
        have HCL := Lib.hid hcl
        have HIN := Lib.hid hin
        have hs4 := HB4.out.size
        clear hb4 hf hl hl0 hcl hin hbx4 ho4 b0 b1 b2 b3 b4 z0 z1 z2 z3 z4 z5 z6 z7 z8 z9 z10 z11 z12
        go_wp2_with (at_builtin
                     refine wpList_append_rd _ rfl _ _ 44 rfl w.heap.size 22 i0 _ 24 Try.underlying44 hi hz0 hz1 hz2 rfl A' (k + 1) c' css.flatten rfl (World.ownsRow.alloc hou _) (some ⟨w4.heap.size, 0, none⟩) 1 1 [.slice A4 (m.e.pack).length c4] rfl
                       (Rd.new w4 [Value.slice A4 (m.e.pack).length c4] 22) (by simp [Value.oneCell']) (by simp only [maxLen]; omega) (by omega) (by simp; omega) ?_
                     intro A5 c5 w5 hown5 hg5 hrow5)
        have hB5 := (Below.refl w4.heap.size w4).alloc (Nat.le_refl _) (.cells #[.slice A4 (m.e.pack).length c4] 22)
        have HX := Lib.hid (show OwnS RB 22 AllB w.heap.size w5 A5 (k + 1 + 1) c5 ((encI m.kind :: rows) ++ [m.e.pack]) from
          OwnS.push (R := RB) (G := AllB) (F := fun b => b < w.heap.size ∨ wr.heap.size ≤ b) (w := w4.alloc (.cells #[.slice A4 (m.e.pack).length c4] 22)) HL0.out HCL.out (fun j y cs hy hc => RB.below (HIN.out j y cs hy hc) hB5) ⟨A4, c4, rfl, HF.out.below hB5⟩
            (fun b hb _ => ⟨trivial, fun e => by
              rcases hb with hb | hb
              · have := HBG.out b e.symm; omega
              · have := HBL.out b e.symm; omega⟩) hg5 hown5 hrow5)
        have HB5 := Lib.hid ((HB4.out.alloc HB4.out.size (.cells #[.slice A4 (m.e.pack).length c4] 22)).grown hg5 (by have := HB4.out.size; simp; omega) (fun g hg => HBG.out g hg))
        have HK5 := Lib.hid ((HK4.out.alloc (.cells #[.slice A4 (m.e.pack).length c4] 22)).grown hg5 (fun e => own_ne hou HK4.out (by decide) e.symm))
        have HR5 := Lib.hid ((HR4.out.below hB5).keep (Kp.of_grown hg5 (fun b hb e => by have := HBG.out b e.symm; omega)) fun _ h _ => h)
        clear hown5 hg5 hrow5 hB5 hou
        go_roundw
        case rel => exact ⟨A5, k + 1 + 1, c5, k + 1, rows ++ [m.e.pack], by omega, rfl, by go_num, HX.out, by rw [HSN.out]; exact allX_snoc HA.out HL4.out, HK5.out, HR5.out, HB5.out⟩
        case measure => simp [intOf]; omega
      · have hks : k < ByteArray.size ⟨ls.toArray⟩ := hkl
        have hlk : ((⟨ls.toArray⟩ : ByteArray)[k]'hks).toNat = 100 := by show (ls[k]).toNat = _; rw [HLK.out]; rfl
        have b0 : ((((⟨ls.toArray⟩ : ByteArray)[k]'hks).toNat : Int) == 118) = false := by rw [hlk]; rfl
        have b1 : ((((⟨ls.toArray⟩ : ByteArray)[k]'hks).toNat : Int) == 115) = false := by rw [hlk]; rfl
        have b2 : ((((⟨ls.toArray⟩ : ByteArray)[k]'hks).toNat : Int) == 99) = false := by rw [hlk]; rfl
        have b3 : ((((⟨ls.toArray⟩ : ByteArray)[k]'hks).toNat : Int) == 116) = false := by rw [hlk]; rfl
        have b4 : ((((⟨ls.toArray⟩ : ByteArray)[k]'hks).toNat : Int) == 101) = false := by rw [hlk]; rfl
        have b5 : ((((⟨ls.toArray⟩ : ByteArray)[k]'hks).toNat : Int) == 100) = true := by rw [hlk]; rfl
        clear hlk
        have hb4 := HBX.out
        have hf : BF (fun b => b < w.heap.size ∨ wr.heap.size ≤ b) X q.ga q.gc m.dig := HRX.out.g.keep ⟨Nat.le_refl _, fun _ _ _ => rfl⟩ fun b hb _ => .inl hb
        have hl : m.partPack 5 = some m.dig := rfl
        have HB4 := Lib.hid (below_next HBW.out hb4 HBW.out.size)
        have HK4 := Lib.hid (HKW.out.kept hb4)
        have HR4 := Lib.hid (HRW.out.below hb4)
        have HF := Lib.hid hf
        have HL4 := Lib.hid hl
        have HBG := Lib.hid (fun g hg => HO.out.block g hg)
        have HBL := Lib.hid (fun g hg => HO.out.block_lt g hg)
        obtain ⟨hl0, css, hcl, hou, hin⟩ := HO.out.below hb4
        have HL0 := Lib.hid hl0
        have HCL := Lib.hid hcl
        have HIN := Lib.hid hin
        have hs4 := HB4.out.size
        clear hb4 hf hl hl0 hcl hin
        go_wp2_with (at_builtin
                     refine wpList_append_rd _ rfl _ _ 44 rfl w.heap.size 22 i0 _ 24 Try.underlying44 hi hz0 hz1 hz2 rfl A' (k + 1) c' css.flatten rfl (World.ownsRow.alloc hou _) (some ⟨X.heap.size, 0, none⟩) 1 1 [.slice q.ga (m.dig).length q.gc] rfl
                       (Rd.new X [Value.slice q.ga (m.dig).length q.gc] 22) (by simp [Value.oneCell']) (by simp only [maxLen]; omega) (by omega) (by simp; omega) ?_
                     intro A5 c5 w5 hown5 hg5 hrow5)
        have hB5 := (Below.refl X.heap.size X).alloc (Nat.le_refl _) (.cells #[.slice q.ga (m.dig).length q.gc] 22)
        have HX := Lib.hid (show OwnS RB 22 AllB w.heap.size w5 A5 (k + 1 + 1) c5 ((encI m.kind :: rows) ++ [m.dig]) from
          OwnS.push (R := RB) (G := AllB) (F := fun b => b < w.heap.size ∨ wr.heap.size ≤ b) (w := X.alloc (.cells #[.slice q.ga (m.dig).length q.gc] 22)) HL0.out HCL.out (fun j y cs hy hc => RB.below (HIN.out j y cs hy hc) hB5) ⟨q.ga, q.gc, rfl, HF.out.below hB5⟩
            (fun b hb _ => ⟨trivial, fun e => by
              rcases hb with hb | hb
              · have := HBG.out b e.symm; omega
              · have := HBL.out b e.symm; omega⟩) hg5 hown5 hrow5)
        have HB5 := Lib.hid ((HB4.out.alloc HB4.out.size (.cells #[.slice q.ga (m.dig).length q.gc] 22)).grown hg5 (by have := HB4.out.size; simp; omega) (fun g hg => HBG.out g hg))
        have HK5 := Lib.hid ((HK4.out.alloc (.cells #[.slice q.ga (m.dig).length q.gc] 22)).grown hg5 (fun e => own_ne hou HK4.out (by decide) e.symm))
        have HR5 := Lib.hid ((HR4.out.below hB5).keep (Kp.of_grown hg5 (fun b hb e => by have := HBG.out b e.symm; omega)) fun _ h _ => h)
        clear hown5 hg5 hrow5 hB5 hou
        go_roundw
        case rel => exact ⟨A5, k + 1 + 1, c5, k + 1, rows ++ [m.dig], by omega, rfl, by go_num, HX.out, by rw [HSN.out]; exact allX_snoc HA.out HL4.out, HK5.out, HR5.out, HB5.out⟩
        case measure => simp [intOf]; omega
      · have hks : k < ByteArray.size ⟨ls.toArray⟩ := hkl
        have hlk : ((⟨ls.toArray⟩ : ByteArray)[k]'hks).toNat = 98 := by show (ls[k]).toNat = _; rw [HLK.out]; rfl
        have b0 : ((((⟨ls.toArray⟩ : ByteArray)[k]'hks).toNat : Int) == 118) = false := by rw [hlk]; rfl
        have b1 : ((((⟨ls.toArray⟩ : ByteArray)[k]'hks).toNat : Int) == 115) = false := by rw [hlk]; rfl
        have b2 : ((((⟨ls.toArray⟩ : ByteArray)[k]'hks).toNat : Int) == 99) = false := by rw [hlk]; rfl
        have b3 : ((((⟨ls.toArray⟩ : ByteArray)[k]'hks).toNat : Int) == 116) = false := by rw [hlk]; rfl
        have b4 : ((((⟨ls.toArray⟩ : ByteArray)[k]'hks).toNat : Int) == 101) = false := by rw [hlk]; rfl
        have b5 : ((((⟨ls.toArray⟩ : ByteArray)[k]'hks).toNat : Int) == 100) = false := by rw [hlk]; rfl
        have b6 : ((((⟨ls.toArray⟩ : ByteArray)[k]'hks).toNat : Int) == 98) = true := by rw [hlk]; rfl
        clear hlk
        have hb4 := HBX.out
        have hf : BF (fun b => b < w.heap.size ∨ wr.heap.size ≤ b) X q.da q.dc m.data := HRX.out.d.keep ⟨Nat.le_refl _, fun _ _ _ => rfl⟩ fun b hb _ => .inl hb
        have hl : m.partPack 6 = some m.data := rfl
        have HB4 := Lib.hid (below_next HBW.out hb4 HBW.out.size)
        have HK4 := Lib.hid (HKW.out.kept hb4)
        have HR4 := Lib.hid (HRW.out.below hb4)
        have HF := Lib.hid hf
        have HL4 := Lib.hid hl
        have HBG := Lib.hid (fun g hg => HO.out.block g hg)
        have HBL := Lib.hid (fun g hg => HO.out.block_lt g hg)
        obtain ⟨hl0, css, hcl, hou, hin⟩ := HO.out.below hb4
        have HL0 := Lib.hid hl0
        have HCL := Lib.hid hcl
        have HIN := Lib.hid hin
        have hs4 := HB4.out.size
        clear hb4 hf hl hl0 hcl hin
        go_wp2_with (at_builtin
                     refine wpList_append_rd _ rfl _ _ 44 rfl w.heap.size 22 i0 _ 24 Try.underlying44 hi hz0 hz1 hz2 rfl A' (k + 1) c' css.flatten rfl (World.ownsRow.alloc hou _) (some ⟨X.heap.size, 0, none⟩) 1 1 [.slice q.da (m.data).length q.dc] rfl
                       (Rd.new X [Value.slice q.da (m.data).length q.dc] 22) (by simp [Value.oneCell']) (by simp only [maxLen]; omega) (by omega) (by simp; omega) ?_
                     intro A5 c5 w5 hown5 hg5 hrow5)
        have hB5 := (Below.refl X.heap.size X).alloc (Nat.le_refl _) (.cells #[.slice q.da (m.data).length q.dc] 22)
        have HX := Lib.hid (show OwnS RB 22 AllB w.heap.size w5 A5 (k + 1 + 1) c5 ((encI m.kind :: rows) ++ [m.data]) from
          OwnS.push (R := RB) (G := AllB) (F := fun b => b < w.heap.size ∨ wr.heap.size ≤ b) (w := X.alloc (.cells #[.slice q.da (m.data).length q.dc] 22)) HL0.out HCL.out (fun j y cs hy hc => RB.below (HIN.out j y cs hy hc) hB5) ⟨q.da, q.dc, rfl, HF.out.below hB5⟩
            (fun b hb _ => ⟨trivial, fun e => by
              rcases hb with hb | hb
              · have := HBG.out b e.symm; omega
              · have := HBL.out b e.symm; omega⟩) hg5 hown5 hrow5)
        have HB5 := Lib.hid ((HB4.out.alloc HB4.out.size (.cells #[.slice q.da (m.data).length q.dc] 22)).grown hg5 (by have := HB4.out.size; simp; omega) (fun g hg => HBG.out g hg))
        have HK5 := Lib.hid ((HK4.out.alloc (.cells #[.slice q.da (m.data).length q.dc] 22)).grown hg5 (fun e => own_ne hou HK4.out (by decide) e.symm))
        have HR5 := Lib.hid ((HR4.out.below hB5).keep (Kp.of_grown hg5 (fun b hb e => by have := HBG.out b e.symm; omega)) fun _ h _ => h)
        clear hown5 hg5 hrow5 hB5 hou
        go_roundw
        case rel => exact ⟨A5, k + 1 + 1, c5, k + 1, rows ++ [m.data], by omega, rfl, by go_num, HX.out, by rw [HSN.out]; exact allX_snoc HA.out HL4.out, HK5.out, HR5.out, HB5.out⟩
        case measure => simp [intOf]; omega
      · have hks : k < ByteArray.size ⟨ls.toArray⟩ := hkl
        have hlk : ((⟨ls.toArray⟩ : ByteArray)[k]'hks).toNat = 108 := by show (ls[k]).toNat = _; rw [HLK.out]; rfl
        have b0 : ((((⟨ls.toArray⟩ : ByteArray)[k]'hks).toNat : Int) == 118) = false := by rw [hlk]; rfl
        have b1 : ((((⟨ls.toArray⟩ : ByteArray)[k]'hks).toNat : Int) == 115) = false := by rw [hlk]; rfl
        have b2 : ((((⟨ls.toArray⟩ : ByteArray)[k]'hks).toNat : Int) == 99) = false := by rw [hlk]; rfl
        have b3 : ((((⟨ls.toArray⟩ : ByteArray)[k]'hks).toNat : Int) == 116) = false := by rw [hlk]; rfl
        have b4 : ((((⟨ls.toArray⟩ : ByteArray)[k]'hks).toNat : Int) == 101) = false := by rw [hlk]; rfl
        have b5 : ((((⟨ls.toArray⟩ : ByteArray)[k]'hks).toNat : Int) == 100) = false := by rw [hlk]; rfl
        have b6 : ((((⟨ls.toArray⟩ : ByteArray)[k]'hks).toNat : Int) == 98) = false := by rw [hlk]; rfl
        have b7 : ((((⟨ls.toArray⟩ : ByteArray)[k]'hks).toNat : Int) == 108) = true := by rw [hlk]; rfl
        clear hlk
        have HC := Lib.hid (refPacks_any q.pa q.pc m.proof _ X HRX.out.p (ltsOk_mem (show ltsOk m.proof = true from HPO.out)))
        go_wp2_with fail
        refine HC.out.mono ?_
        rintro e w4 ⟨hbx4, A4, n4, c4, rfl, ho4⟩
        have hb4 := below_next HBX.out hbx4 HBX.out.size
        cases hpk : ltsPack m.proof with
        | none =>
          have hl : m.partPack 7 = none := hpk
          simp only [encX]
          have HB4 := Lib.hid (below_next HBW.out hb4 HBW.out.size)
          have HF := Lib.hid (show m.encode = (13, []) by rw [HEN.out, HMP.out, allX_none HM.out hl]; rfl)
          clear hb4 hl hpk hbx4 ho4 b0 b1 b2 b3 b4 b5 b6 b7 z0 z1 z2 z3 z4 z5 z6 z7 z8 z9 z10 z11 z12
          go_wp2_with fail
          go_ret2
          exact ⟨HB4.out, none, 0, 0, by rw [HF.out]; rfl, by rw [HF.out]; exact OwnB.nil_ _ _⟩
        | some l =>
          rw [hpk] at ho4
          have ho4 : OwnB w4 X.heap.size A4 n4 c4 l := ho4
          obtain rfl : l.length = n4 := ho4.len
          have hf : BF (fun b => b < w.heap.size ∨ wr.heap.size ≤ b) w4 A4 c4 l := (BF.own ho4).keep ⟨Nat.le_refl _, fun _ _ _ => rfl⟩ fun b hb _ => .inr (Nat.le_trans HBX.out.size hb)
          have hl : m.partPack 7 = some l := hpk
          simp only [encX]
          have HB4 := Lib.hid (below_next HBW.out hb4 HBW.out.size)
          have HK4 := Lib.hid (HKW.out.kept hb4)
          have HR4 := Lib.hid (HRW.out.below hb4)
          have HF := Lib.hid hf
          have HL4 := Lib.hid hl
          have HBG := Lib.hid (fun g hg => HO.out.block g hg)
          have HBL := Lib.hid (fun g hg => HO.out.block_lt g hg)
          obtain ⟨hl0, css, hcl, hou, hin⟩ := HO.out.below hb4
          have HL0 := Lib.hid hl0
          have HCL := Lib.hid hcl
          have HIN := Lib.hid hin
          have hs4 := HB4.out.size
          clear hb4 hf hl hpk hl0 hcl hin hbx4 ho4 b0 b1 b2 b3 b4 b5 b6 b7 z0 z1 z2 z3 z4 z5 z6 z7 z8 z9 z10 z11 z12
          go_wp2_with (at_builtin
                       refine wpList_append_rd _ rfl _ _ 44 rfl w.heap.size 22 i0 _ 24 Try.underlying44 hi hz0 hz1 hz2 rfl A' (k + 1) c' css.flatten rfl (World.ownsRow.alloc hou _) (some ⟨w4.heap.size, 0, none⟩) 1 1 [.slice A4 (l).length c4] rfl
                         (Rd.new w4 [Value.slice A4 (l).length c4] 22) (by simp [Value.oneCell']) (by simp only [maxLen]; omega) (by omega) (by simp; omega) ?_
                       intro A5 c5 w5 hown5 hg5 hrow5)
          have hB5 := (Below.refl w4.heap.size w4).alloc (Nat.le_refl _) (.cells #[.slice A4 (l).length c4] 22)
          have HX := Lib.hid (show OwnS RB 22 AllB w.heap.size w5 A5 (k + 1 + 1) c5 ((encI m.kind :: rows) ++ [l]) from
            OwnS.push (R := RB) (G := AllB) (F := fun b => b < w.heap.size ∨ wr.heap.size ≤ b) (w := w4.alloc (.cells #[.slice A4 (l).length c4] 22)) HL0.out HCL.out (fun j y cs hy hc => RB.below (HIN.out j y cs hy hc) hB5) ⟨A4, c4, rfl, HF.out.below hB5⟩
              (fun b hb _ => ⟨trivial, fun e => by
                rcases hb with hb | hb
                · have := HBG.out b e.symm; omega
                · have := HBL.out b e.symm; omega⟩) hg5 hown5 hrow5)
          have HB5 := Lib.hid ((HB4.out.alloc HB4.out.size (.cells #[.slice A4 (l).length c4] 22)).grown hg5 (by have := HB4.out.size; simp; omega) (fun g hg => HBG.out g hg))
          have HK5 := Lib.hid ((HK4.out.alloc (.cells #[.slice A4 (l).length c4] 22)).grown hg5 (fun e => own_ne hou HK4.out (by decide) e.symm))
          have HR5 := Lib.hid ((HR4.out.below hB5).keep (Kp.of_grown hg5 (fun b hb e => by have := HBG.out b e.symm; omega)) fun _ h _ => h)
          clear hown5 hg5 hrow5 hB5 hou
          go_roundw
          case rel => exact ⟨A5, k + 1 + 1, c5, k + 1, rows ++ [l], by omega, rfl, by go_num, HX.out, by rw [HSN.out]; exact allX_snoc HA.out HL4.out, HK5.out, HR5.out, HB5.out⟩
          case measure => simp [intOf]; omega
      · have hks : k < ByteArray.size ⟨ls.toArray⟩ := hkl
        have hlk : ((⟨ls.toArray⟩ : ByteArray)[k]'hks).toNat = 112 := by show (ls[k]).toNat = _; rw [HLK.out]; rfl
        have b0 : ((((⟨ls.toArray⟩ : ByteArray)[k]'hks).toNat : Int) == 118) = false := by rw [hlk]; rfl
        have b1 : ((((⟨ls.toArray⟩ : ByteArray)[k]'hks).toNat : Int) == 115) = false := by rw [hlk]; rfl
        have b2 : ((((⟨ls.toArray⟩ : ByteArray)[k]'hks).toNat : Int) == 99) = false := by rw [hlk]; rfl
        have b3 : ((((⟨ls.toArray⟩ : ByteArray)[k]'hks).toNat : Int) == 116) = false := by rw [hlk]; rfl
        have b4 : ((((⟨ls.toArray⟩ : ByteArray)[k]'hks).toNat : Int) == 101) = false := by rw [hlk]; rfl
        have b5 : ((((⟨ls.toArray⟩ : ByteArray)[k]'hks).toNat : Int) == 100) = false := by rw [hlk]; rfl
        have b6 : ((((⟨ls.toArray⟩ : ByteArray)[k]'hks).toNat : Int) == 98) = false := by rw [hlk]; rfl
        have b7 : ((((⟨ls.toArray⟩ : ByteArray)[k]'hks).toNat : Int) == 108) = false := by rw [hlk]; rfl
        have b8 : ((((⟨ls.toArray⟩ : ByteArray)[k]'hks).toNat : Int) == 112) = true := by rw [hlk]; rfl
        clear hlk
        have HC := Lib.hid (refProven_any q.va q.vc m.proven _ X HRX.out.v (pvsOk_mem (show pvsOk m.proven = true from HPO.out)))
        go_wp2_with fail
        refine HC.out.mono ?_
        rintro e w4 ⟨hbx4, A4, n4, c4, rfl, ho4⟩
        have hb4 := below_next HBX.out hbx4 HBX.out.size
        cases hpk : pvsPack m.proven with
        | none =>
          have hl : m.partPack 8 = none := hpk
          simp only [encX]
          have HB4 := Lib.hid (below_next HBW.out hb4 HBW.out.size)
          have HF := Lib.hid (show m.encode = (13, []) by rw [HEN.out, HMP.out, allX_none HM.out hl]; rfl)
          clear hb4 hl hpk hbx4 ho4 b0 b1 b2 b3 b4 b5 b6 b7 b8 z0 z1 z2 z3 z4 z5 z6 z7 z8 z9 z10 z11 z12
          go_wp2_with fail
          go_ret2
          exact ⟨HB4.out, none, 0, 0, by rw [HF.out]; rfl, by rw [HF.out]; exact OwnB.nil_ _ _⟩
        | some l =>
          rw [hpk] at ho4
          have ho4 : OwnB w4 X.heap.size A4 n4 c4 l := ho4
          obtain rfl : l.length = n4 := ho4.len
          have hf : BF (fun b => b < w.heap.size ∨ wr.heap.size ≤ b) w4 A4 c4 l := (BF.own ho4).keep ⟨Nat.le_refl _, fun _ _ _ => rfl⟩ fun b hb _ => .inr (Nat.le_trans HBX.out.size hb)
          have hl : m.partPack 8 = some l := hpk
          simp only [encX]
          have HB4 := Lib.hid (below_next HBW.out hb4 HBW.out.size)
          have HK4 := Lib.hid (HKW.out.kept hb4)
          have HR4 := Lib.hid (HRW.out.below hb4)
          have HF := Lib.hid hf
          have HL4 := Lib.hid hl
          have HBG := Lib.hid (fun g hg => HO.out.block g hg)
          have HBL := Lib.hid (fun g hg => HO.out.block_lt g hg)
          obtain ⟨hl0, css, hcl, hou, hin⟩ := HO.out.below hb4
          have HL0 := Lib.hid hl0
          have HCL := Lib.hid hcl
          have HIN := Lib.hid hin
          have hs4 := HB4.out.size
          clear hb4 hf hl hpk hl0 hcl hin hbx4 ho4 b0 b1 b2 b3 b4 b5 b6 b7 b8 z0 z1 z2 z3 z4 z5 z6 z7 z8 z9 z10 z11 z12
          go_wp2_with (at_builtin
                       refine wpList_append_rd _ rfl _ _ 44 rfl w.heap.size 22 i0 _ 24 Try.underlying44 hi hz0 hz1 hz2 rfl A' (k + 1) c' css.flatten rfl (World.ownsRow.alloc hou _) (some ⟨w4.heap.size, 0, none⟩) 1 1 [.slice A4 (l).length c4] rfl
                         (Rd.new w4 [Value.slice A4 (l).length c4] 22) (by simp [Value.oneCell']) (by simp only [maxLen]; omega) (by omega) (by simp; omega) ?_
                       intro A5 c5 w5 hown5 hg5 hrow5)
          have hB5 := (Below.refl w4.heap.size w4).alloc (Nat.le_refl _) (.cells #[.slice A4 (l).length c4] 22)
          have HX := Lib.hid (show OwnS RB 22 AllB w.heap.size w5 A5 (k + 1 + 1) c5 ((encI m.kind :: rows) ++ [l]) from
            OwnS.push (R := RB) (G := AllB) (F := fun b => b < w.heap.size ∨ wr.heap.size ≤ b) (w := w4.alloc (.cells #[.slice A4 (l).length c4] 22)) HL0.out HCL.out (fun j y cs hy hc => RB.below (HIN.out j y cs hy hc) hB5) ⟨A4, c4, rfl, HF.out.below hB5⟩
              (fun b hb _ => ⟨trivial, fun e => by
                rcases hb with hb | hb
                · have := HBG.out b e.symm; omega
                · have := HBL.out b e.symm; omega⟩) hg5 hown5 hrow5)
          have HB5 := Lib.hid ((HB4.out.alloc HB4.out.size (.cells #[.slice A4 (l).length c4] 22)).grown hg5 (by have := HB4.out.size; simp; omega) (fun g hg => HBG.out g hg))
          have HK5 := Lib.hid ((HK4.out.alloc (.cells #[.slice A4 (l).length c4] 22)).grown hg5 (fun e => own_ne hou HK4.out (by decide) e.symm))
          have HR5 := Lib.hid ((HR4.out.below hB5).keep (Kp.of_grown hg5 (fun b hb e => by have := HBG.out b e.symm; omega)) fun _ h _ => h)
          clear hown5 hg5 hrow5 hB5 hou
          go_roundw
          case rel => exact ⟨A5, k + 1 + 1, c5, k + 1, rows ++ [l], by omega, rfl, by go_num, HX.out, by rw [HSN.out]; exact allX_snoc HA.out HL4.out, HK5.out, HR5.out, HB5.out⟩
          case measure => simp [intOf]; omega
    · have e : ps.take k = ps := List.take_of_length_le (by omega)
      have HA2 := Lib.hid (show allX m.partPack ps = some rows by have := HA.out; rwa [e] at this)
      have HP2 := Lib.hid (show m.pack = joinX (encI m.kind :: rows) by rw [HMP.out, HA2.out])
      have HT := Lib.hid (show total (encI m.kind :: rows) ≤ 68719476736 by
        have h1 := total_bound (N := 4194880) (ls := rows) (fun b hb => by obtain ⟨x, hx1, hx⟩ := allX_mem HA2.out b hb; exact part_pack_len (HOK.out x hx1) hx)
        have h2 := allX_len HA2.out
        have h3 := encN_len9 (v := m.kind.toNat) (by have := HKI.out; omega)
        have h4 := HN.out
        simp only [total]
        unfold encI
        have : rows.length * (1 + 4194880) ≤ 4 * (1 + 4194880) := Nat.mul_le_mul_right _ (by omega)
        omega)
      have HRR := Lib.hid (ho.rds (fun _ _ => trivial)).rows
      rw [show (encI m.kind :: rows).length = k + 1 by simp; omega] at HRR
      have y2 : ¬ ((k : Int) < (ls.length : Int)) := by have := HLL.out; omega
      clear e ha hb ho hal hol kb hrm
      go_wp2_with fail
      refine (refJoinX_any _ _ _ _ _ HRR.out HT.out).mono ?_
      rw [← HP2.out]
      rintro e w4 ⟨hb1, ⟨b, hbk, A4, n4, c4, rfl, ho4⟩ | ⟨hbk, rfl⟩⟩
      · have HB2 := Lib.hid (below_next HBW.out hb1 HBW.out.size)
        have HE := Lib.hid (show m.encode = (0, b) by rw [HEN.out, hbk]; rfl)
        have HO := Lib.hid (ho4.more HBW.out.size)
        clear hb1 hbk ho4
        go_wp2_with fail
        go_ret2
        exact ⟨HB2.out, A4, n4, c4, by rw [HE.out]; rfl, by rw [HE.out]; exact HO.out⟩
      · have HB2 := Lib.hid (below_next HBW.out hb1 HBW.out.size)
        have HE := Lib.hid (show m.encode = (13, []) by rw [HEN.out, hbk]; rfl)
        clear hb1 hbk
        go_wp2_with fail
        go_ret2
        exact ⟨HB2.out, none, 0, 0, by rw [HE.out]; rfl, by rw [HE.out]; exact OwnB.nil_ _ _⟩
end Go.Proofs.Ytmgmmbgjmnklkaa
