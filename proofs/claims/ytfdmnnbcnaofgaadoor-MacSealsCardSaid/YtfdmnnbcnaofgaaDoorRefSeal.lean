import Derived.Test.YtfdmnnbcnaofgaaDoorMacSeal
import Derived.Test.YtfdmnnbcnaofgaaDoorRefOpen
namespace Go.Proofs.YtfdmnnbcnaofgaaDoor
open Go.RowKit
open Pk Sh
set_option linter.unusedVariables false

set_option maxHeartbeats 1600000 in
set_option maxRecDepth 100000 in
theorem refSeal_any (A B D : Option Addr) (n c m d p q : Nat) (s body : List UInt8) (f : Int × Int) (r count : Int) (bad : List Int) (w : World) (h : Sl w A n c s) (hb : Sl w B m d body) (hi : Rd w D p (bad.map iv)) (hn : n ≤ 65536) (hm : m ≤ 65536) (hp : p ≤ 4294967296) :
    Calls Tryd.prog 23 #[.slice A n c, .agg #[.int .i64 f.1, .int .i64 f.2], .int .i64 r, .int .i64 count, .slice B m d, .slice D p q] w (FreshL f.1 f.2 r body (tagsN s f r body bad (upTo count)) w) := by
  obtain ⟨i0, hi0, hz0, hz1, hz2⟩ := info_parts info_bytes
  obtain ⟨f1, f2⟩ := f
  have b0 := ((Below.refl w.heap.size w).alloc (Nat.le_refl _) (.cells #[.int .i64 f1, .int .i64 f2] 28)).alloc (by simp) (.cells #[.int .i64 0, .int .i64 0, .int .i64 0, .slice none 0 0, .slice none 0 0] 37)
  have HB0 := Lib.hid b0
  have HK0 := Lib.hid ((Bk.new w 28 [.int .i64 f1, .int .i64 f2]).alloc (.cells #[.int .i64 0, .int .i64 0, .int .i64 0, .slice none 0 0, .slice none 0 0] 37))
  have hk1 := Bk.new (w.alloc (.cells #[.int .i64 f1, .int .i64 f2] 28)) 37 [.int .i64 0, .int .i64 0, .int .i64 0, .slice none 0 0, .slice none 0 0]
  rw [show (w.alloc (.cells #[.int .i64 f1, .int .i64 f2] 28)).heap.size = w.heap.size + 1 by simp] at hk1
  have HK1 := Lib.hid hk1
  have HS := Lib.hid h
  have HBO := Lib.hid hb
  have HI := Lib.hid hi
  have HC := Lib.hid (show ∀ W, Rd W B m (body.map bv) → Calls Tryd.prog 14 #[.slice B m d] W (fun e w' => ∃ A1 n1 c1, e = .returned (.slice A1 n1 c1) ∧ OwnB w' W.heap.size A1 n1 c1 body ∧ Below W.heap.size W w') from fun W hW => copyBytes_any B m d body W hW (by omega))
  have HRB := Lib.hid (hb.below b0).rd
  have hz := Bk.new ((w.alloc (.cells #[.int .i64 f1, .int .i64 f2] 28)).alloc (.cells #[.int .i64 0, .int .i64 0, .int .i64 0, .slice none 0 0, .slice none 0 0] 37)) 37 [.int .i64 0, .int .i64 0, .int .i64 0, .slice none 0 0, .slice none 0 0]
  rw [show ((w.alloc (.cells #[.int .i64 f1, .int .i64 f2] 28)).alloc (.cells #[.int .i64 0, .int .i64 0, .int .i64 0, .slice none 0 0, .slice none 0 0] 37)).heap.size = w.heap.size + 1 + 1 by simp] at hz
  have HZ := Lib.hid hz
  clear b0 hk1 h hb hi hz
  go_enter Tryd.func23, Tryd.ntmps23
  go_upto_region 1 with fail
  go_cut [13] from 19 to 23 (fun p wx => SealMid f1 f2 r body w p wx)
  case first =>
    go_region_held3 (fun w' => w'.cell? ⟨w.heap.size, 0, none⟩ = some (.int .i64 f1) ∧ w'.cell? ⟨w.heap.size, 1, none⟩ = some (.int .i64 f2)) (first | go_keep | with_reducible exact KA.two | with_reducible exact (KA.alloc _).two | exact (KA.five_far (by omega) _ _ _ _ _).two)
      ((go_at_call 14; with_reducible refine (HC.out _ ?_).mono ?_; focus first | exact HRB.out | exact HRB.out.drew | exact HRB.out.alloc _ | exact (HRB.out.alloc _).drew
        rintro e w' ⟨A1, n1, c1, rfl, ho1, hb1⟩
        have KA : Bk w' w.heap.size 28 [.int .i64 f1, .int .i64 f2] := by
          first
            | with_reducible exact kept_drew hb1 HK0.out
            | with_reducible exact kept_drew hb1 (HK0.out.alloc _)
        try
          have kz : Bk w' (w.heap.size + 1 + 1) 37 [.int .i64 0, .int .i64 0, .int .i64 0, .slice none 0 0, .slice none 0 0] := by with_reducible exact kept_drew hb1 HZ.out
          obtain ⟨q0, q1, q2, q3, q4⟩ := kz.five
          have v0 := kz.frozen 0
          have v1 := kz.frozen 1
          have v2 := kz.frozen 2
          have v3 := kz.frozen 3
          have v4 := kz.frozen 4))
    focus
      have hb2 : Below _ ((w.alloc (.cells #[.int .i64 f1, .int .i64 f2] 28)).alloc (.cells #[.int .i64 0, .int .i64 0, .int .i64 0, .slice none 0 0, .slice none 0 0] 37)) w' := below_undrawn (n := 1) (show Below _ (World.drewN ((w.alloc (.cells #[.int .i64 f1, .int .i64 f2] 28)).alloc (.cells #[.int .i64 0, .int .i64 0, .int .i64 0, .slice none 0 0, .slice none 0 0] 37)) 1) w' from hb1)
      have hb3 : Below (w.heap.size + 2) ((w.alloc (.cells #[.int .i64 f1, .int .i64 f2] 28)).alloc (.cells #[.int .i64 0, .int .i64 0, .int .i64 0, .slice none 0 0, .slice none 0 0] 37)) w' := hb2.mono (by show w.heap.size + 2 ≤ (((w.alloc (.cells #[.int .i64 f1, .int .i64 f2] 28)).alloc (.cells #[.int .i64 0, .int .i64 0, .int .i64 0, .slice none 0 0, .slice none 0 0] 37))).heap.size; simp)
      have hsz : w.heap.size + 2 ≤ w'.heap.size := by have := hb2.size; simp at this; omega
      have HM := Lib.hid (show SealMid f1 f2 r body w (.pointer (some ⟨w'.heap.size, 0, none⟩)) (w'.alloc (.cells #[.int .i64 f1, .int .i64 f2, .int .i64 r, .slice A1 n1 c1, .slice none 0 0] 37)) from
        ⟨_, A1, n1, c1, rfl, Bk.new _ _ _, (ho1.more (by show w.heap.size + 2 ≤ (((w.alloc (.cells #[.int .i64 f1, .int .i64 f2] 28)).alloc (.cells #[.int .i64 0, .int .i64 0, .int .i64 0, .slice none 0 0, .slice none 0 0] 37))).heap.size; simp)).alloc _, hsz, hb3.alloc hsz _⟩)
      clear ho1 hb1 hb2 hb3
      go_wp2_with fail
      go_meet
      exact HM.out
    focus
      have hb2 : Below _ (((w.alloc (.cells #[.int .i64 f1, .int .i64 f2] 28)).alloc (.cells #[.int .i64 0, .int .i64 0, .int .i64 0, .slice none 0 0, .slice none 0 0] 37)).alloc (.cells #[.int .i64 0, .int .i64 0, .int .i64 0, .slice none 0 0, .slice none 0 0] 37)) w' := below_undrawn (n := 1) (show Below _ (World.drewN (((w.alloc (.cells #[.int .i64 f1, .int .i64 f2] 28)).alloc (.cells #[.int .i64 0, .int .i64 0, .int .i64 0, .slice none 0 0, .slice none 0 0] 37)).alloc (.cells #[.int .i64 0, .int .i64 0, .int .i64 0, .slice none 0 0, .slice none 0 0] 37)) 1) w' from hb1)
      have hb3 : Below (w.heap.size + 2) ((w.alloc (.cells #[.int .i64 f1, .int .i64 f2] 28)).alloc (.cells #[.int .i64 0, .int .i64 0, .int .i64 0, .slice none 0 0, .slice none 0 0] 37)) w' := (((Below.refl (w.heap.size + 2) ((w.alloc (.cells #[.int .i64 f1, .int .i64 f2] 28)).alloc (.cells #[.int .i64 0, .int .i64 0, .int .i64 0, .slice none 0 0, .slice none 0 0] 37))).alloc (by show w.heap.size + 2 ≤ (((w.alloc (.cells #[.int .i64 f1, .int .i64 f2] 28)).alloc (.cells #[.int .i64 0, .int .i64 0, .int .i64 0, .slice none 0 0, .slice none 0 0] 37))).heap.size; simp) (.cells #[.int .i64 0, .int .i64 0, .int .i64 0, .slice none 0 0, .slice none 0 0] 37)).trans (hb2.mono (by show w.heap.size + 2 ≤ (((w.alloc (.cells #[.int .i64 f1, .int .i64 f2] 28)).alloc (.cells #[.int .i64 0, .int .i64 0, .int .i64 0, .slice none 0 0, .slice none 0 0] 37)).alloc (.cells #[.int .i64 0, .int .i64 0, .int .i64 0, .slice none 0 0, .slice none 0 0] 37)).heap.size; simp)))
      have kk := ((((kz.set 0 (.int .i64 f1)).set 1 (.int .i64 f2)).set 2 (.int .i64 r)).set 3 (.slice A1 n1 c1)).set 4 (.slice none 0 0)
      have gg := grown_set (grown_set (grown_set (grown_set (grown_set (grown_refl w' (some (w.heap.size + 1 + 1))) 0 (.int .i64 f1)) 1 (.int .i64 f2)) 2 (.int .i64 r)) 3 (.slice A1 n1 c1)) 4 (.slice none 0 0)
      have HM := Lib.hid (show SealMid f1 f2 r body w (.pointer (some ⟨w.heap.size + 1 + 1, 0, none⟩)) (((((w'.setCell ⟨w.heap.size + 1 + 1, 0, none⟩ (.int .i64 f1)).setCell ⟨w.heap.size + 1 + 1, 1, none⟩ (.int .i64 f2)).setCell ⟨w.heap.size + 1 + 1, 2, none⟩ (.int .i64 r)).setCell ⟨w.heap.size + 1 + 1, 3, none⟩ (.slice A1 n1 c1)).setCell ⟨w.heap.size + 1 + 1, 4, none⟩ (.slice none 0 0)) from
        ⟨_, A1, n1, c1, rfl, kk, (ho1.more (by show w.heap.size + 2 ≤ (((w.alloc (.cells #[.int .i64 f1, .int .i64 f2] 28)).alloc (.cells #[.int .i64 0, .int .i64 0, .int .i64 0, .slice none 0 0, .slice none 0 0] 37)).alloc (.cells #[.int .i64 0, .int .i64 0, .int .i64 0, .slice none 0 0, .slice none 0 0] 37)).heap.size; simp)).off kz (by decide) gg, Nat.le_refl _, below_set (below_set (below_set (below_set (below_set hb3 (Nat.le_refl _) 0 _) (Nat.le_refl _) 1 _) (Nat.le_refl _) 2 _) (Nat.le_refl _) 3 _) (Nat.le_refl _) 4 _⟩)
      clear ho1 hb1 hb2 hb3 kk gg kz
      go_wp2_with fail
      go_meet
      exact HM.out
  case rest =>
    obtain ⟨g, A1, n1, c1, rfl, hk, ho, hg2, hz⟩ := hcut
    have HKC := Lib.hid hk
    have HOC := Lib.hid ho
    have HZC := Lib.hid hz
    clear hk ho hz
    have hU := show upTo count = (min count 64).toNat from rfl
    go_wp2_with fail
    go_loopw [14] (fun i wr => ∃ (k : Nat) (E : Option Addr) (d' : Nat), k ≤ upTo count ∧ i = .int .i64 k ∧ Bk wr g 37 [.int .i64 f1, .int .i64 f2, .int .i64 r, .slice A1 n1 c1, .slice E k d'] ∧
        OwnB wr (w.heap.size + 2) A1 n1 c1 body ∧ OwnRs wr (w.heap.size + 2) E k d' (tagsN s (f1, f2) r body bad k) ∧ Below (w.heap.size + 2) ((w.alloc (.cells #[.int .i64 f1, .int .i64 f2] 28)).alloc (.cells #[.int .i64 0, .int .i64 0, .int .i64 0, .slice none 0 0, .slice none 0 0] 37)) wr) (fun i _ => upTo count - (intOf i).toNat)
    case atStart => exact ⟨0, none, 0, by omega, rfl, HKC.out, HOC.out, OwnRs.nil_ _ _, HZC.out⟩
    case round =>
        obtain ⟨wo, hwo⟩ : ∃ wo, wo = wr := ⟨_, rfl⟩
        rw [← hwo] at hrel ⊢
        clear hwo
        obtain ⟨k, E, d', hk, rfl, hbk, hob, hrs, hz⟩ := hrel
        have HBW := Lib.hid (HB0.out.trans (hz.mono (show w.heap.size ≤ w.heap.size + 2 by omega)))
        have hka : Bk wo w.heap.size 28 [.int .i64 f1, .int .i64 f2] := HK0.out.below hz (by omega)
        have hgw := hbk.lt
        by_cases hlt : k < upTo count
        · have e2 : (k : Int) < count := by omega
          have e64 : (k : Int) < 64 := by omega
          have hsz : w.heap.size + 2 ≤ wo.heap.size := by have := hz.size; simp at this; omega
          have ca0 := hka.at_ (i := 0) rfl
          have ca1 := hka.at_ (i := 1) rfl
          have HTG := Lib.hid (refTag_any A B n c m d s body (f1, f2) (r, (k : Int)) wo (HS.out.below HBW.out) (HBO.out.below HBW.out) hn hm)
          have HKB := Lib.hid hbk
          have HOB := Lib.hid hob
          have HRS := Lib.hid hrs
          have HZ2 := Lib.hid hz
          have HUN := Lib.hid (show upTo count ≤ 64 by omega)
          clear hbk hob hrs hz hka hU
          go_wp2_with fail
          refine HTG.out.mono ?_
          rintro e w1 ⟨A2, n2, c2, rfl, ho2, hb2⟩
          have hn2 : n2 = 16 := by rw [← ho2.len, tagN_len]
          subst hn2
          obtain ⟨g2, rfl, hg2b, hnc2, hcm2, rest2, hbk2, hlen2⟩ := own_at ho2 (by omega)
          have HB2 := Lib.hid hb2
          have HO2 := Lib.hid ho2
          have HBK2 := Lib.hid hbk2
          have HLN2 := Lib.hid hlen2
          have HI1 := Lib.hid (HI.out.below (below_next HBW.out hb2 HBW.out.size))
          have HPL := Lib.hid (show bad.length = p by simpa using HI.out.1)
          have HTL := Lib.hid (tagN_len s (f1, f2) (r, (k : Int)) body)
          clear ho2 hb2 HTG ca0 ca1 hbk2 hlen2
          go_wp2_with fail
          go_loop [16, 17] (fun b i => ∃ j : Nat, j ≤ p ∧ i = .int .i64 j ∧ b = .bool (inL (bad.take j) (k : Int))) (fun _ i => p - (intOf i).toNat)
          case atStart => exact ⟨0, by omega, rfl, rfl⟩
          case round =>
            obtain ⟨j, hj, rfl, rfl⟩ := hrel
            by_cases hjp : j < p
            · have hjl : j < bad.length := by rw [HPL.out]; exact hjp
              obtain ⟨a, rfl, _, hc⟩ := HI1.out.at_ hjp
              have gx : (bad.map iv).getD j undef = .int .i64 bad[j] := by
                rw [getD_eq (by simpa using hjl)]; simp [iv]
              rw [gx] at hc
              have q1 : (0 : Int) ≤ (j : Int) := by omega
              have q2 : (j : Int) < (p : Int) := by omega
              have hnext : inL (bad.take (j + 1)) (k : Int) = (inL (bad.take j) (k : Int) || decide (bad[j] = (k : Int))) := by
                unfold inL
                rw [List.take_succ_eq_append_getElem hjl, List.any_append]
                simp
              generalize bad[j] = v at *
              clear gx
              cases hb : inL (bad.take j) (k : Int)
              · rw [hb, Bool.false_or] at hnext
                have HNX := Lib.hid hnext
                clear hnext hb
                by_cases hv : v = (k : Int)
                · have hve : (v == (k : Int)) = true := by simp [hv]
                  have HDV := Lib.hid (show decide (v = (k : Int)) = true by simp [hv])
                  clear hv
                  go_wp2
                  go_round
                  case rel => exact ⟨j + 1, by omega, by go_num, by rw [HNX.out, HDV.out]⟩
                  case measure => simp [intOf]; omega
                · have hve : (v == (k : Int)) = false := by simp [hv]
                  have HDV := Lib.hid (show decide (v = (k : Int)) = false by simp [hv])
                  clear hv
                  go_wp2
                  go_round
                  case rel => exact ⟨j + 1, by omega, by go_num, by rw [HNX.out, HDV.out]⟩
                  case measure => simp [intOf]; omega
              · rw [hb, Bool.true_or] at hnext
                have HNX := Lib.hid hnext
                clear hnext hb
                go_wp2
                go_round
                case rel => exact ⟨j + 1, by omega, by go_num, by rw [HNX.out]⟩
                case measure => simp [intOf]; omega
            · have ej : bad.take j = bad := List.take_of_length_le (by have := HPL.out; omega)
              rw [ej, inL_isIn]
              clear ej
              cases hin : isIn bad k
              focus
                have HLT := Lib.hid (show letterTag s (f1, f2) r body bad k = tagN s (f1, f2) (r, (k : Int)) body by unfold letterTag; rw [hin]; rfl)
                have HO3 := Lib.hid (show OwnB w1 wo.heap.size (some ⟨g2, 0, none⟩) 16 c2 (letterTag s (f1, f2) r body bad k) by rw [HLT.out]; exact HO2.out)
                have HB3 := HB2
                clear hin HO2 HB2 HBK2
                go_wp2_with fail
                go_loopw [18] (fun i wz => i = .int .i64 0 ∧ wz = w1) (fun _ _ => 0)
                case atStart => exact ⟨rfl, rfl⟩
                case round =>
                  obtain ⟨rfl, hwr⟩ := hrel
                  rw [hwr]
                  clear hwr
                  have hsz3 := HB3.out.size
                  obtain ⟨hl0, us, hou, hin0⟩ := HRS.out.below HB3.out
                  have hl : (tagsN s (f1, f2) r body bad k).length = k := hl0
                  have HL0 := Lib.hid hl
                  have HOU := Lib.hid hou
                  have HIN := Lib.hid hin0
                  have k2 := HKB.out.kept HB3.out
                  have HK2 := Lib.hid (k2.alloc (.cells #[.slice (some ⟨g2, 0, none⟩) 16 c2] 22))
                  have c24 := k2.at_ (i := 4) rfl
                  have HNE := Lib.hid (own_ne (World.ownsRow.alloc hou (.cells #[.slice (some ⟨g2, 0, none⟩) 16 c2] 22)) (k2.alloc (.cells #[.slice (some ⟨g2, 0, none⟩) 16 c2] 22)) (by decide))
                  have hge : w.heap.size + 2 ≤ w1.heap.size := by omega
                  have hk64 : k < 64 := by have := HUN.out; omega
                  clear hl0 hl hou hin0 k2
                  go_wp2_with (at_builtin
                               refine wpList_append_rd _ rfl _ _ 35 rfl (w.heap.size + 2) 22 i0 _ 24 Tryd.underlying35 hi0 hz0 hz1 hz2 rfl E k d' us rfl (World.ownsRow.alloc HOU.out _) (some ⟨w1.heap.size, 0, none⟩) 1 1 [.slice (some ⟨g2, 0, none⟩) 16 c2] rfl
                                 (Rd.new w1 [Value.slice (some ⟨g2, 0, none⟩) 16 c2] 22) (by simp [Value.oneCell']) (by simp only [maxLen]; omega) (by omega) (by simp; omega) ?_
                               intro E3 d3 w3 hown3 hg3 hrow3
                               have k3 := HK2.out.grown hg3 (fun e => HNE.out e.symm)
                               have c34 := k3.at_ (i := 4) rfl
                               have f34 := k3.frozen 4
                               have HK3 := Lib.hid k3
                               have HG3 := Lib.hid hg3
                               have HN3 := Lib.hid hown3
                               clear k3 hg3 hown3 hrow3)
                  have ho3 : OwnB w1 (w.heap.size + 2) (some ⟨g2, 0, none⟩) 16 c2 (letterTag s (f1, f2) r body bad k) := HO3.out.more (by omega)
                  have hlt16 := letterTag_len s (f1, f2) r body bad k
                  have hpush : OwnRs w3 (w.heap.size + 2) E3 (k + 1) d3 (tagsN s (f1, f2) r body bad (k + 1)) := by
                    refine OwnRs.push (w := w1.alloc (.cells #[.slice (some ⟨g2, 0, none⟩) 16 c2] 22)) HL0.out (World.ownsRow.alloc HOU.out _) (fun j u l hu hl => ?_) (B := some ⟨g2, 0, none⟩) (d := c2) ?_ HG3.out ?_
                    · obtain ⟨A4, c4, e4, h4⟩ := HIN.out j u l hu hl
                      exact ⟨A4, c4, e4, h4.alloc _⟩
                    · rw [hlt16]; exact ho3.alloc _
                    · rw [hlt16]; exact HN3.out
                  have hob3 : OwnB w3 (w.heap.size + 2) A1 n1 c1 body :=
                    World.ownsRow.kept (World.ownsRow.alloc (HOB.out.below HB3.out) (.cells #[.slice (some ⟨g2, 0, none⟩) 16 c2] 22)) HG3.out (rows_apart (World.ownsRow.alloc (HOB.out.below HB3.out) (.cells #[.slice (some ⟨g2, 0, none⟩) 16 c2] 22)) (World.ownsRow.alloc HOU.out (.cells #[.slice (some ⟨g2, 0, none⟩) 16 c2] 22)) (by decide))
                  have hz3 : Below (w.heap.size + 2) ((w.alloc (.cells #[.int .i64 f1, .int .i64 f2] 28)).alloc (.cells #[.int .i64 0, .int .i64 0, .int .i64 0, .slice none 0 0, .slice none 0 0] 37)) w3 := by
                    have b1 := HZ2.out.trans (HB3.out.mono (show w.heap.size + 2 ≤ wo.heap.size by omega))
                    have b2 := b1.alloc (by omega) (.cells #[.slice (some ⟨g2, 0, none⟩) 16 c2] 22)
                    exact b2.grown HG3.out (by simp; omega) (fun j e => (World.ownsRow.lt HOU.out j e).1)
                  have gs := grown_set (grown_refl w3 (some g)) 4 (.slice E3 (k + 1) d3)
                  have HFIN := Lib.hid (show Bk (w3.setCell ⟨g, 4, none⟩ (.slice E3 (k + 1) d3)) g 37 [.int .i64 f1, .int .i64 f2, .int .i64 r, .slice A1 n1 c1, .slice E3 (k + 1) d3] ∧
                      OwnB (w3.setCell ⟨g, 4, none⟩ (.slice E3 (k + 1) d3)) (w.heap.size + 2) A1 n1 c1 body ∧ OwnRs (w3.setCell ⟨g, 4, none⟩ (.slice E3 (k + 1) d3)) (w.heap.size + 2) E3 (k + 1) d3 (tagsN s (f1, f2) r body bad (k + 1)) ∧
                      Below (w.heap.size + 2) ((w.alloc (.cells #[.int .i64 f1, .int .i64 f2] 28)).alloc (.cells #[.int .i64 0, .int .i64 0, .int .i64 0, .slice none 0 0, .slice none 0 0] 37)) (w3.setCell ⟨g, 4, none⟩ (.slice E3 (k + 1) d3)) from
                    ⟨HK3.out.set 4 _, hob3.off HK3.out (by decide) gs, hpush.off HK3.out (by decide) (by decide) gs, below_set hz3 hg2 4 _⟩)
                  clear ho3 hpush hob3 hz3 gs HK3 HG3 HN3
                  go_roundw
                  case rel => exact ⟨k + 1, E3, d3, by omega, by go_num, HFIN.out⟩
                  case measure => simp [intOf]; omega
              focus
                have HLT := Lib.hid (show letterTag s (f1, f2) r body bad k = turned (tagN s (f1, f2) (r, (k : Int)) body) by unfold letterTag; rw [hin]; rfl)
                clear hin
                go_wp2_with fail
                go_loopw [18] (fun i wz => ∃ j : Nat, j ≤ 16 ∧ i = .int .i64 j ∧ Bk wz g2 5 (half 255 (tagN s (f1, f2) (r, (k : Int)) body) rest2 j) ∧ w1.grownBy wz (some g2)) (fun i _ => 16 - (intOf i).toNat)
                case atStart => exact ⟨0, by omega, rfl, by simpa [half, laid] using HBK2.out, grown_refl _ _⟩
                case round =>
                  obtain ⟨j, hj, rfl, hbj, hgj⟩ := hrel
                  by_cases hj16 : j < 16
                  · have hjl : j < (tagN s (f1, f2) (r, (k : Int)) body).length := by rw [HTL.out]; exact hj16
                    have hc := hbj.at_ (half_at 255 _ rest2 hjl)
                    have hf := hbj.frozen j
                    have hst := half_set 255 _ rest2 hjl
                    have hx : bits .xor .u8 (((tagN s (f1, f2) (r, (k : Int)) body)[j]).toNat : Int) 255 = (((tagN s (f1, f2) (r, (k : Int)) body)[j] ^^^ 255).toNat : Int) := xor_u8 _ 255
                    simp only [bv] at hc hst
                    generalize (tagN s (f1, f2) (r, (k : Int)) body)[j] = x at hc hst hx
                    have HBJ := Lib.hid hbj
                    have HGJ := Lib.hid hgj
                    have HST := Lib.hid hst
                    have q1 : (0 : Int) ≤ (j : Int) := by omega
                    have q2 : (j : Int) < 16 := by omega
                    clear hbj hgj hst hjl
                    go_wp2
                    go_roundw
                    case rel =>
                      refine ⟨j + 1, by omega, by go_num, ?_, grown_set HGJ.out j _⟩
                      have e := HBJ.out.set j (.int .u8 ((x ^^^ 255).toNat : Int))
                      rw [HST.out] at e
                      exact e
                    case measure => simp [intOf]; omega
                  · have e16 : j = 16 := by omega
                    subst e16
                    have hlast : half 255 (tagN s (f1, f2) (r, (k : Int)) body) rest2 16 = (turned (tagN s (f1, f2) (r, (k : Int)) body)).map bv ++ rest2 := by
                      unfold half
                      rw [List.take_of_length_le (by rw [HTL.out]; exact Nat.le_refl _), List.drop_eq_nil_of_le (by rw [HTL.out]; exact Nat.le_refl _)]
                      rfl
                    rw [hlast] at hbj
                    have HO3 := Lib.hid (show OwnB wr wo.heap.size (some ⟨g2, 0, none⟩) 16 c2 (letterTag s (f1, f2) r body bad k) by
                      rw [HLT.out]
                      exact own_back hbj (by rw [← HLN2.out]; simp [turned]) hg2b (by rw [turned_len, HTL.out]) hnc2 hcm2)
                    have HB3 := Lib.hid (HB2.out.grown hgj HB2.out.size (fun k e => by injection e with e; omega))
                    clear hbj hgj hlast HO2 HB2 HBK2
                    have hsz3 := HB3.out.size
                    obtain ⟨hl0, us, hou, hin0⟩ := HRS.out.below HB3.out
                    have hl : (tagsN s (f1, f2) r body bad k).length = k := hl0
                    have HL0 := Lib.hid hl
                    have HOU := Lib.hid hou
                    have HIN := Lib.hid hin0
                    have k2 := HKB.out.kept HB3.out
                    have HK2 := Lib.hid (k2.alloc (.cells #[.slice (some ⟨g2, 0, none⟩) 16 c2] 22))
                    have c24 := k2.at_ (i := 4) rfl
                    have HNE := Lib.hid (own_ne (World.ownsRow.alloc hou (.cells #[.slice (some ⟨g2, 0, none⟩) 16 c2] 22)) (k2.alloc (.cells #[.slice (some ⟨g2, 0, none⟩) 16 c2] 22)) (by decide))
                    have hge : w.heap.size + 2 ≤ wr.heap.size := by omega
                    have hk64 : k < 64 := by have := HUN.out; omega
                    clear hl0 hl hou hin0 k2
                    go_wp2_with (at_builtin
                                 refine wpList_append_rd _ rfl _ _ 35 rfl (w.heap.size + 2) 22 i0 _ 24 Tryd.underlying35 hi0 hz0 hz1 hz2 rfl E k d' us rfl (World.ownsRow.alloc HOU.out _) (some ⟨wr.heap.size, 0, none⟩) 1 1 [.slice (some ⟨g2, 0, none⟩) 16 c2] rfl
                                   (Rd.new wr [Value.slice (some ⟨g2, 0, none⟩) 16 c2] 22) (by simp [Value.oneCell']) (by simp only [maxLen]; omega) (by omega) (by simp; omega) ?_
                                 intro E3 d3 w3 hown3 hg3 hrow3
                                 have k3 := HK2.out.grown hg3 (fun e => HNE.out e.symm)
                                 have c34 := k3.at_ (i := 4) rfl
                                 have f34 := k3.frozen 4
                                 have HK3 := Lib.hid k3
                                 have HG3 := Lib.hid hg3
                                 have HN3 := Lib.hid hown3
                                 clear k3 hg3 hown3 hrow3)
                    have ho3 : OwnB wr (w.heap.size + 2) (some ⟨g2, 0, none⟩) 16 c2 (letterTag s (f1, f2) r body bad k) := HO3.out.more (by omega)
                    have hlt16 := letterTag_len s (f1, f2) r body bad k
                    have hpush : OwnRs w3 (w.heap.size + 2) E3 (k + 1) d3 (tagsN s (f1, f2) r body bad (k + 1)) := by
                      refine OwnRs.push (w := wr.alloc (.cells #[.slice (some ⟨g2, 0, none⟩) 16 c2] 22)) HL0.out (World.ownsRow.alloc HOU.out _) (fun j u l hu hl => ?_) (B := some ⟨g2, 0, none⟩) (d := c2) ?_ HG3.out ?_
                      · obtain ⟨A4, c4, e4, h4⟩ := HIN.out j u l hu hl
                        exact ⟨A4, c4, e4, h4.alloc _⟩
                      · rw [hlt16]; exact ho3.alloc _
                      · rw [hlt16]; exact HN3.out
                    have hob3 : OwnB w3 (w.heap.size + 2) A1 n1 c1 body :=
                      World.ownsRow.kept (World.ownsRow.alloc (HOB.out.below HB3.out) (.cells #[.slice (some ⟨g2, 0, none⟩) 16 c2] 22)) HG3.out (rows_apart (World.ownsRow.alloc (HOB.out.below HB3.out) (.cells #[.slice (some ⟨g2, 0, none⟩) 16 c2] 22)) (World.ownsRow.alloc HOU.out (.cells #[.slice (some ⟨g2, 0, none⟩) 16 c2] 22)) (by decide))
                    have hz3 : Below (w.heap.size + 2) ((w.alloc (.cells #[.int .i64 f1, .int .i64 f2] 28)).alloc (.cells #[.int .i64 0, .int .i64 0, .int .i64 0, .slice none 0 0, .slice none 0 0] 37)) w3 := by
                      have b1 := HZ2.out.trans (HB3.out.mono (show w.heap.size + 2 ≤ wo.heap.size by omega))
                      have b2 := b1.alloc (by omega) (.cells #[.slice (some ⟨g2, 0, none⟩) 16 c2] 22)
                      exact b2.grown HG3.out (by simp; omega) (fun j e => (World.ownsRow.lt HOU.out j e).1)
                    have gs := grown_set (grown_refl w3 (some g)) 4 (.slice E3 (k + 1) d3)
                    have HFIN := Lib.hid (show Bk (w3.setCell ⟨g, 4, none⟩ (.slice E3 (k + 1) d3)) g 37 [.int .i64 f1, .int .i64 f2, .int .i64 r, .slice A1 n1 c1, .slice E3 (k + 1) d3] ∧
                        OwnB (w3.setCell ⟨g, 4, none⟩ (.slice E3 (k + 1) d3)) (w.heap.size + 2) A1 n1 c1 body ∧ OwnRs (w3.setCell ⟨g, 4, none⟩ (.slice E3 (k + 1) d3)) (w.heap.size + 2) E3 (k + 1) d3 (tagsN s (f1, f2) r body bad (k + 1)) ∧
                        Below (w.heap.size + 2) ((w.alloc (.cells #[.int .i64 f1, .int .i64 f2] 28)).alloc (.cells #[.int .i64 0, .int .i64 0, .int .i64 0, .slice none 0 0, .slice none 0 0] 37)) (w3.setCell ⟨g, 4, none⟩ (.slice E3 (k + 1) d3)) from
                      ⟨HK3.out.set 4 _, hob3.off HK3.out (by decide) gs, hpush.off HK3.out (by decide) (by decide) gs, below_set hz3 hg2 4 _⟩)
                    clear ho3 hpush hob3 hz3 gs HK3 HG3 HN3
                    go_roundw
                    case rel => exact ⟨k + 1, E3, d3, by omega, by go_num, HFIN.out⟩
                    case measure => simp [intOf]; omega
        · have e1 : k = upTo count := by omega
          by_cases e2 : (k : Int) < count
          · have e64 : ¬ (k : Int) < 64 := by omega
            have kr : Bk wo (w.heap.size + 1) 37 [.int .i64 0, .int .i64 0, .int .i64 0, .slice none 0 0, .slice none 0 0] := HK1.out.below hz (by omega)
            obtain ⟨c00, c01, c02, c03, c04⟩ := hbk.five
            obtain ⟨c10, c11, c12, c13, c14⟩ := kr.five
            have f10 := kr.frozen 0
            have f11 := kr.frozen 1
            have f12 := kr.frozen 2
            have f13 := kr.frozen 3
            have f14 := kr.frozen 4
            have HSR := Lib.hid (seal_end (f1 := f1) (f2 := f2) (r := r) kr hob hrs HBW.out)
            have E1 := Lib.hid e1
            clear kr hbk hob hrs hz hka hU e1 hlt
            go_wp2_with fail
            refine bodyPost_ret_by (results_cell_row rfl _ _ (w.heap.size + 1) 37 _ _ _ rfl HSR.out.1 Tryd.underlying37 rfl info_letter) rfl ?_
            refine ⟨A1, n1, c1, E, k, d', rfl, HSR.out.2.1, ?_, HSR.out.2.2.2⟩
            rw [← E1.out]
            exact HSR.out.2.2.1
          · skip
            have kr : Bk wo (w.heap.size + 1) 37 [.int .i64 0, .int .i64 0, .int .i64 0, .slice none 0 0, .slice none 0 0] := HK1.out.below hz (by omega)
            obtain ⟨c00, c01, c02, c03, c04⟩ := hbk.five
            obtain ⟨c10, c11, c12, c13, c14⟩ := kr.five
            have f10 := kr.frozen 0
            have f11 := kr.frozen 1
            have f12 := kr.frozen 2
            have f13 := kr.frozen 3
            have f14 := kr.frozen 4
            have HSR := Lib.hid (seal_end (f1 := f1) (f2 := f2) (r := r) kr hob hrs HBW.out)
            have E1 := Lib.hid e1
            clear kr hbk hob hrs hz hka hU e1 hlt
            go_wp2_with fail
            refine bodyPost_ret_by (results_cell_row rfl _ _ (w.heap.size + 1) 37 _ _ _ rfl HSR.out.1 Tryd.underlying37 rfl info_letter) rfl ?_
            refine ⟨A1, n1, c1, E, k, d', rfl, HSR.out.2.1, ?_, HSR.out.2.2.2⟩
            rw [← E1.out]
            exact HSR.out.2.2.1
end Go.Proofs.YtfdmnnbcnaofgaaDoor
