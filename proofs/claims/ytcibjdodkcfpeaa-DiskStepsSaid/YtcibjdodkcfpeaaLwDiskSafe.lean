/-
  DiskSafe: the walk.
-/
import Derived.Test.YtcibjdodkcfpeaaDiskScript
import Derived.Deep.QuietTactic
import Derived.BigQuiet
namespace Go.Proofs.Ytcibjdodkcfpeaa
open Go.RowKit
set_option linter.unusedVariables false

theorem wf_i64 {x : Int} (h : (Lit.int .i64 x).wf = true) : -9223372036854775808 ≤ x ∧ x ≤ 9223372036854775807 := by
  simpa [Lit.wf, IntKind.min, IntKind.max, IntKind.bits, IntKind.signed] using h
namespace PD
theorem read_none (P : PD) (a : Int) (h : known a = false) : P.read a = ([], 41) := by unfold read; rw [h]; rfl
theorem read_some (P : PD) (a : Int) (h : known a = true) : P.read a = (P.data a, 0) := by unfold read; rw [h]; rfl
theorem sync_all (P : PD) (h : P.power = -1) : P.sync [] = (⟨-1, P.d0, P.d1, P.d0.length, P.d1.length⟩, 0) := by
  rw [sync_eq P [] rfl (by omega)]
  simp [told, drawn, h]
theorem append_ok (P : PD) (a : Int) (m : List UInt8) (h : P.power = -1) (ha : known a = true) : P.append a [m] = (P.drew.setData a (P.data a ++ m), 0) := by
  unfold append
  rw [ha, if_pos rfl, if_neg (by omega)]
  simp
/-- what a loss of power leaves of what was synced and then added to -/
theorem safe_crash (d0 d1 : List UInt8) (a : Int) (m : List UInt8) (ks : List Int) (ha : known a = true) : ∃ j, j ≤ m.length ∧
    (((((⟨-1, d0, d1, d0.length, d1.length⟩ : PD).append a [m]).1).crash ks (-1)).data a = (⟨-1, d0, d1, d0.length, d1.length⟩ : PD).data a ++ m.take j) := by
  rw [append_ok _ a m rfl ha]
  have key : ∀ (d : List UInt8) (k : Int), ∃ j, j ≤ m.length ∧ (d ++ m).take (left (d ++ m) d.length k) = d ++ m.take j := fun d k => by
    have hl := left_eq (d ++ m) d.length k (by omega) (by simp; omega)
    refine ⟨left (d ++ m) d.length k - d.length, ?_, ?_⟩
    · simp at hl; omega
    · rw [List.take_append, List.take_of_length_le (by simp at hl; omega)]
  rcases known_cases ha with rfl | rfl
  · obtain ⟨j, h1, h2⟩ := key d0 (ks.getD 0 0)
    exact ⟨j, h1, by simpa [crash, data, setData, drew] using h2⟩
  · obtain ⟨j, h1, h2⟩ := key d1 (ks.getD 1 0)
    exact ⟨j, h1, by simpa [crash, data, setData, drew] using h2⟩
theorem left_all (l : List UInt8) : left l l.length 0 = l.length := by unfold left; simp
theorem crash_again (P : PD) (ks : List Int) (p q : Int) (a : Int) (ha : known a = true) : ((P.crash ks p).crash [] q).data a = (P.crash ks p).data a := by
  rcases known_cases ha with rfl | rfl
  · show List.take (left (P.crash ks p).d0 (P.crash ks p).d0.length 0) (P.crash ks p).d0 = (P.crash ks p).d0
    rw [left_all, List.take_length]
  · show List.take (left (P.crash ks p).d1 (P.crash ks p).d1.length 0) (P.crash ks p).d1 = (P.crash ks p).d1
    rw [left_all, List.take_length]
end PD
/-- how the loop over the script stands -/
def SafeAt (w : World) (g : Nat) (ops : List Call) (k : Nat) (wr : World) : Prop := ∃ F P, On w.heap.size w wr F g P ∧ P.power = -1 ∧ Small P ops k
set_option maxHeartbeats 3200000 in
theorem diskSafe_walk (w : World) (v0 : Value) (ops0 : List Call) (h0 : InCalls w v0 ops0) (a : Int) (ha : (Lit.int .i64 a).wf = true) (v2 : Value) (m : List UInt8) (h2 : InBs w v2 m) (v3 : Value) (ks : List Int) (h3 : InIs w v3 ks) :
    Calls Try.prog 4 #[v0, .int .i64 a, v2, v3] w (Tr w) := by
  obtain ⟨A, n0, c, rfl, hnc, hcm, hA, hAz⟩ := h0
  obtain ⟨⟨B, b, d, rfl, hbd, hdm, hB, hBz⟩, hms⟩ := h2
  obtain ⟨⟨C, q, qc, rfl, hqc, hqm, hC, hCw, hCz⟩, hks⟩ := h3
  have hmb : m.length = b := by simpa using hB.1
  have hkq : ks.length = q := by simpa using hC.1
  have HA := Lib.hid hA
  have HB := Lib.hid hB
  have HC := Lib.hid hC
  have HMB := Lib.hid hmb
  have HKQ := Lib.hid (show q ≤ 17592186044416 by omega)
  have HKW := Lib.hid (show ∀ x ∈ ks, -9223372036854775808 ≤ x ∧ x ≤ 9223372036854775807 from fun x hx => wf_i64 (hCw x hx))
  have HBD := Lib.hid hbd
  have y1 : (b : Int) ≤ 140737488355328 := by omega
  have HAL := Lib.hid (alive_ok w)
  have HNC := Lib.hid hnc
  have HCM := Lib.hid hcm
  clear hA hB hC hmb hms hAz hBz hCz hdm hbd hqc hqm hCw hkq hks ha hnc hcm
  go_enter Try.func4, Try.ntmps4
  go_wp2_with fail
  refine HAL.out.mono ?_
  rintro e w1 ⟨rfl, hb1⟩
  have HB1 := Lib.hid hb1
  have HCU := Lib.hid (cut_any A n0 c ops0 w1 (HA.out.below hb1) HNC.out HCM.out)
  clear hb1 HAL
  go_wp2_with fail
  refine HCU.out.mono ?_
  rintro e w2 ⟨n1, rfl, hr, hn60, hn01, rfl⟩
  have HGR := Lib.hid (great_any A n1 c (ops0.take 60) w2 hr hn60)
  have HN60 := Lib.hid hn60
  have HN01 := Lib.hid (show n1 ≤ c by have := HNC.out; omega)
  have HR1 := Lib.hid hr
  have HR1W := Lib.hid (show RdCalls w A n1 (ops0.take 60) from by
    have h := HA.out.front (m := min n0 60) (by omega)
    have e : ops0.take (min n0 60) = ops0.take 60 := by
      have := HA.out.1
      rw [← this, List.take_eq_take_iff]
      omega
    have e1 : n1 = min n0 60 := by
      have := hr.1
      have := HA.out.1
      rw [List.length_take] at *
      omega
    rw [e1, ← e]; exact h)
  generalize ops0.take 60 = ops at *
  clear hr hn60 hn01 HCU HA
  go_wp2_with fail
  refine HGR.out.mono ?_
  rintro e w3 ⟨gr, rfl, hgr, rfl⟩
  have HBE := HB1
  cases gr
  · have HW := Lib.hid (hgr rfl)
    clear hgr HGR
    by_cases hg : b ≤ 5000
    · have HG := Lib.hid hg
      have y3 : ¬ (5000 : Int) < (b : Int) := by omega
      have HN := Lib.hid (disk_new (-1) w3 (by omega))
      clear hg
      go_wp2_with fail
      refine HN.out.mono ?_
      rintro e w4 hm
      obtain ⟨g, F, rfl, hon, _, _⟩ := Made.on HBE.out HBE.out.size hm
      have HAT := Lib.hid (show SafeAt w g ops 0 w4 from ⟨F, PD.new (-1), hon, rfl, by simp [Small, PD.new]⟩)
      have HRW := Lib.hid (show RdCalls w A n1 ops from HR1W.out)
      clear hm hon HN HBE HB1 HR1
      go_wp2_with fail
      go_loopw [10] (fun i wr => ∃ k : Nat, k ≤ n1 ∧ i = .int .i64 k ∧ SafeAt w g ops k wr) (fun i _ => n1 - (intOf i).toNat)
      case atStart => exact ⟨0, Nat.zero_le _, rfl, HAT.out⟩
      case round =>
        clear HAT
        obtain ⟨k, hk, rfl, F, P, hon, hpw, hsm⟩ := hrel
        have HON := Lib.hid hon
        have HPW := Lib.hid hpw
        have HSM := Lib.hid hsm
        by_cases hkn : k < n1
        · have hkl : k < ops.length := by rw [HRW.out.1]; exact hkn
          obtain ⟨x, rfl, _, hca⟩ := (HRW.out.below hon.be).2 k ops[k] (List.getElem?_eq_getElem hkl)
          obtain ⟨R, r, rc, S, s, sc, x0, x1, x2, x3, x4, _, _, _, hRr, hI, _⟩ := hca.five
          obtain ⟨R', r', rc', eB, _, _, hRd, _, _⟩ := hRr
          injection eB with eB1 eB2 eB3
          subst eB1 eB2 eB3
          obtain ⟨S', s', sc', eC, _, _, hRi, _, _⟩ := hI
          injection eC with eC1 eC2 eC3
          subst eC1 eC2 eC3
          have HAC := Lib.hid (act_at (g := g) (pc := rc) (qc := sc) hkl HW.out hsm hon.dk hRd hRi)
          have HNX := Lib.hid (hsm.next hkl)
          have HPX := Lib.hid (P.power_act ops[k] hpw)
          generalize ops[k] = o at *
          have HKN := Lib.hid hkn
          have y4 : (0 : Int) ≤ (k : Int) := by omega
          have y5 : (k : Int) < (n1 : Int) := by omega
          have y6 : (n1 : Int) ≤ 60 := by have := HN60.out; omega
          have w1 : IntKind.i64.wrap ((k : Int) + 1) = (k : Int) + 1 := by simp only [IntKind.wrap, IntKind.bits, IntKind.signed]; simp; omega
          clear hon hpw hsm hca hRd hRi hkl
          go_wp2_with fail
          refine HAC.out.mono ?_
          rintro e w5 hd
          obtain ⟨rfl, F5, hon, _, _⟩ := HON.out.did hd
          have HAT := Lib.hid (show SafeAt w g ops (k + 1) w5 from ⟨F5, _, hon, HPX.out, HNX.out⟩)
          clear hd hon HAC
          go_wp2_with fail
          go_roundw
          case rel => exact ⟨k + 1, by have := HKN.out; omega, by go_num, HAT.out⟩
          case measure => have := HKN.out; simp [intOf]; omega
        · have y4 : ¬ (k : Int) < (n1 : Int) := by omega
          have hl : P.d0.length ≤ 5000 ∧ P.d1.length ≤ 5000 := by
            have := weight_take_le ops k
            have := HW.out
            obtain ⟨s0, s1⟩ := hsm
            omega
          have HSY := Lib.hid (disk_sync g P F none 0 0 [] wr hon.dk (fun w' _ => Rd.nil_ _ _) (by simp [maxLen]))
          have HSE := Lib.hid (P.sync_all hpw)
          have HLN := Lib.hid hl
          clear hon hpw hsm hl hkn hk
          go_wp2_with fail
          refine HSY.out.mono ?_
          rintro e w5 hd
          obtain ⟨rfl, F5, hon, _, _⟩ := HON.out.did hd
          rw [HSE.out] at hon ⊢
          obtain ⟨Q, hQ⟩ : ∃ Q : PD, Q = ⟨-1, P.d0, P.d1, P.d0.length, P.d1.length⟩ := ⟨_, rfl⟩
          rw [← hQ] at hon ⊢
          have HQ := Lib.hid hQ
          have hq0 : Q.d0.length ≤ 5000 ∧ Q.d1.length ≤ 5000 := by rw [hQ]; exact HLN.out
          have HQL := Lib.hid hq0
          have HRD := Lib.hid (disk_read g a Q F5 w5 hon.dk (by omega) (by omega))
          have HON := Lib.hid hon
          clear hd hon hQ hq0 HSY
          cases hkn : known a
          · rw [Q.read_none a hkn] at HRD
            have hne : a ≠ 0 ∧ a ≠ 1 := by
              constructor <;> (rintro rfl; cases hkn)
            have z0 : (a != 0) = true := by simp [hne.1]
            have z1 : (a != 1) = true := by simp [hne.2]
            clear hkn hne
            go_wp2_with fail
            refine HRD.out.mono ?_
            rintro e w6 ⟨A6, n6, c6, rfl, ho, hb6⟩
            have HBE := Lib.hid (HON.out.kept hb6).be
            clear ho hb6
            go_wp2_with fail
            go_ret
            exact ⟨rfl, HBE.out⟩
          · rw [Q.read_some a hkn] at HRD
            have HKN := Lib.hid hkn
            clear hkn
            go_wp2_with fail
            refine HRD.out.mono ?_
            rintro e w6 ⟨A6, n6, c6, rfl, ho6, hb6⟩
            have hon := HON.out.kept hb6
            have HCP := Lib.hid (copyBytes_any B b d m w6 (HB.out.below hon.be) (by have := HG.out; omega))
            have HNF := Lib.hid (show ∀ x, (Value.slice A6 n6 c6).ownBlock = some x → ¬ F5 x from fun x e hf => by have h1 := ho6.block x e; have h2 := HON.out.lt x hf; omega)
            have HON := Lib.hid hon
            have HO6 := Lib.hid ho6
            clear ho6 hb6 hon HRD
            go_wp2_with fail
            refine HCP.out.mono ?_
            rintro e w7 ⟨A7, n7, c7, rfl, ho, hb7⟩
            have hon := HON.out.kept hb7
            have hst := stay_1' (F := F5) (base := w6.heap.size) (Sl.own ho) (own_block_at ho) HON.out.lt hb7.size w7.heap.size rfl
            have hon2 := hon.alloc (.cells #[.slice A7 n7 c7] 28)
            have HAP := Lib.hid (disk_append g a Q F5 (some ⟨w7.heap.size, 0, none⟩) 1 1 [m] _ hon2.dk hst (by have := HG.out; have := HMB.out; have := HQL.out; simp; omega) (by have := HG.out; have := HMB.out; have := HQL.out; simp; omega) (by omega))
            rw [Q.append_ok a m (by rw [HQ.out]) HKN.out] at HAP
            have HON := Lib.hid hon2
            have HO6 := Lib.hid ((HO6.out.below hb7).alloc (.cells #[.slice A7 n7 c7] 28))
            clear ho hb7 hon hst hon2 HCP
            go_wp2_with fail
            refine HAP.out.mono ?_
            rintro e w8 hd
            obtain ⟨rfl, F8, hon, _, hc8⟩ := HON.out.did hd
            obtain ⟨P4, hP4⟩ : ∃ P4, P4 = Q.drew.setData a (Q.data a ++ m) := ⟨_, rfl⟩
            dsimp only at hon ⊢
            rw [← hP4] at hon
            have hP4' : P4 = (Q.append a [m]).1 := by rw [Q.append_ok a m (by rw [HQ.out]) HKN.out, hP4]
            have hl4 : P4.d0.length ≤ 10000 ∧ P4.d1.length ≤ 10000 := by
              have h := Q.len_append a [m]
              rw [← hP4'] at h
              have := HG.out
              have := HMB.out
              have := HQL.out
              simp at h
              omega
            have HL4 := Lib.hid hl4
            have HD4 := Lib.hid (show P4.data a = Q.data a ++ m by
              rw [hP4]
              rcases known_cases HKN.out with rfl | rfl <;> rfl)
            have HSC := Lib.hid (show ∃ j, j ≤ m.length ∧ (P4.crash ks (-1)).data a = Q.data a ++ m.take j by
              have h := PD.safe_crash P.d0 P.d1 a m ks HKN.out
              rw [← HQ.out, ← hP4'] at h
              exact h)
            have HCI := Lib.hid (copyInts_big C q qc ks w8 (HC.out.below hon.be) HKQ.out)
            have HON := Lib.hid hon
            have HO6 := Lib.hid (hc8.ownB HO6.out HNF.out)
            clear hd hon hc8 hP4 hP4' hl4 HAP HNF
            go_wp2_with fail
            refine HCI.out.mono ?_
            rintro e w9 ⟨⟨A9, c9, rfl, ho⟩, hb9⟩
            have hon := HON.out.kept hb9
            have HCR := Lib.hid (disk_crash g P4 F8 A9 q c9 ks (-1) w9 hon.dk ho.rd (by have := HKQ.out; simp only [maxLen]; omega) HKW.out (by omega) (by have := HL4.out; omega) (by have := HL4.out; omega))
            have HON := Lib.hid hon
            have HO6 := Lib.hid (HO6.out.below hb9)
            clear ho hb9 hon HCI
            go_wp2_with fail
            refine HCR.out.mono ?_
            rintro e w10 hm
            obtain ⟨g2, F10, rfl, hon2, _, hb10⟩ := Made.on HON.out.be HON.out.sz hm
            have hon := HON.out.kept hb10
            obtain ⟨j, hj, hdj⟩ := HSC.out
            obtain ⟨P5, hP5⟩ : ∃ P5, P5 = P4.crash ks (-1) := ⟨_, rfl⟩
            rw [← hP5] at hon2 hdj
            have HL5 := Lib.hid (show P5.d0.length ≤ 10000 ∧ P5.d1.length ≤ 10000 by
              have := P4.len_crash ks (-1)
              rw [← hP5] at this
              have := HL4.out
              omega)
            have HD6 := Lib.hid (show (P5.crash [] (-1)).data a = Q.data a ++ m.take j by rw [hP5, PD.crash_again _ _ _ _ _ HKN.out, ← hP5]; exact hdj)
            have HRD := Lib.hid (disk_read g2 a P5 F10 w10 hon2.dk (by have := HL5.out; omega) (by have := HL5.out; omega))
            rw [P5.read_some a HKN.out, hdj] at HRD
            have HON := Lib.hid hon
            have HON2 := Lib.hid hon2
            have HO6 := Lib.hid (HO6.out.below hb10)
            have HJ := Lib.hid hj
            clear hm hon hon2 hb10 hdj hj hP5 HCR HSC
            go_wp2_with fail
            refine HRD.out.mono ?_
            rintro e w11 ⟨A11, n11, c11, rfl, ho11, hb11⟩
            have hon := HON.out.kept hb11
            have hon2 := HON2.out.kept hb11
            have ho6 := HO6.out.below hb11
            have hl6 := ho6.len
            have hl11 := ho11.len
            have hmj : (m.take j).length = j := by have := HJ.out; simp; omega
            rw [List.length_append, hmj, hl6] at hl11
            have hj5 : j ≤ b := by have := HJ.out; have := HMB.out; omega
            obtain ⟨hc11, hm11⟩ := own_cap ho11
            have hn6 : n6 ≤ 5000 := by rw [← hl6]; exact PD.data_le HQL.out.1 HQL.out.2 a
            have hb5 := HG.out
            have hrf := ho11.rd.front (k := n6) (by omega)
            rw [← List.map_take, List.take_left' hl6] at hrf
            have hrc := ho11.rd.cut (k := n6) (cap := c11) (by omega) hc11
            rw [← List.map_drop, List.drop_left' hl6] at hrc
            have hrm := (HB.out.below hon.be).front (k := j) hj5
            rw [← List.map_take] at hrm
            have HS1 := Lib.hid (fun c c' n => Calls.quiet_of (n := n) (sameBytes_self A11 A6 n6 n6 c c' (w11.drewN n) (Q.data a) (hrf.drewN n) (ho6.rd.drewN n) (by simp only [maxLen]; omega)))
            have z1 : decide ((n11 : Int) < (n6 : Int)) = false := by simp; omega
            have z2 : decide (n11 < n6) = false := by simp; omega
            have z3 : decide ((n6 : Int) + (b : Int) < (n11 : Int)) = false := by simp; omega
            have z4 : (n6 : Int) ≤ (c11 : Int) := by omega
            have z5 : (n6 : Int) ≤ (n11 : Int) := by omega
            have z6 : IntKind.i64.wrap ((n6 : Int) + (b : Int)) = (n6 : Int) + (b : Int) := by simp only [IntKind.wrap, IntKind.bits, IntKind.signed]; simp; omega
            have z7 : IntKind.i64.wrap ((n11 : Int) - (n6 : Int)) = (n11 : Int) - (n6 : Int) := by simp only [IntKind.wrap, IntKind.bits, IntKind.signed]; simp; omega
            have z8 : (n11 : Int) - (n6 : Int) ≤ (d : Int) := by have := HBD.out; omega
            have z9 : (0 : Int) ≤ (n11 : Int) - (n6 : Int) := by omega
            have HL11 := Lib.hid hl11
            have HL6 := Lib.hid hl6
            by_cases hsc : c11 = n6
            · rw [if_pos hsc] at hrc
              have HS2 := Lib.hid (fun c c' n => Calls.quiet_of (n := n) (sameBytes_self A11 B (n11 - n6) (n11 - n6) c c' (w11.drewN n) (m.take j) (hrc.drewN n) (by rw [show n11 - n6 = j by omega]; exact hrm.drewN n) (by simp only [maxLen]; omega)))
              have HSC := Lib.hid hsc
              have HON := Lib.hid hon
              have HON2 := Lib.hid hon2
              have HO11 := Lib.hid ho11
              clear hon hon2 ho6 ho11 hrf hrc hrm hb11 hl11 hl6 hmj
              go_wp2_with fail
              go_quiet ((go_at_call 23; first | with_reducible exact HS1.out _ _ _ | with_reducible exact HS2.out _ _ _))
              go_wp2_with fail
              obtain ⟨wq, hwq⟩ : ∃ wq, wq = w11.drewN nq := ⟨_, rfl⟩
              rw [← hwq]
              have hbq : Below w11.heap.size w11 wq := by rw [hwq]; exact below_drewN (Below.refl _ _) nq
              have HON := Lib.hid (HON.out.kept hbq)
              have hon2 := HON2.out.kept hbq
              have HO11 := Lib.hid (HO11.out.below hbq)
              have HCR := Lib.hid (disk_crash g2 P5 F10 none 0 0 [] (-1) wq hon2.dk (Rd.nil_ _ _) (by simp [maxLen]) (by simp) (by omega) (by have := HL5.out; omega) (by have := HL5.out; omega))
              clear hwq hbq hon2
              go_wp2_with fail
              refine HCR.out.mono ?_
              rintro e w12 hm
              obtain ⟨g3, F12, rfl, hon3, _, hb12⟩ := Made.on HON.out.be HON.out.sz hm
              have hon := HON.out.kept hb12
              have HL6' := Lib.hid (show (P5.crash [] (-1)).d0.length ≤ 10000 ∧ (P5.crash [] (-1)).d1.length ≤ 10000 by
                have := P5.len_crash [] (-1)
                have := HL5.out
                omega)
              have HRD := Lib.hid (disk_read g3 a _ F12 w12 hon3.dk (by have := HL6'.out; omega) (by have := HL6'.out; omega))
              rw [PD.read_some _ a HKN.out, HD6.out] at HRD
              have HON := Lib.hid hon
              have HO11 := Lib.hid (HO11.out.below hb12)
              clear hm hon hon3 hb12 HCR
              go_wp2_with fail
              refine HRD.out.mono ?_
              rintro e w13 ⟨A13, n13, c13, rfl, ho13, hb13⟩
              have hon := HON.out.kept hb13
              have HRD := Lib.hid (disk_read g a P4 F8 w13 hon.dk (by have := HL4.out; omega) (by have := HL4.out; omega))
              rw [P4.read_some a HKN.out, HD4.out] at HRD
              have HON := Lib.hid hon
              have HO11 := Lib.hid (HO11.out.below hb13)
              have HO13 := Lib.hid ho13
              clear hon ho13 hb13
              go_wp2_with fail
              refine HRD.out.mono ?_
              rintro e w14 ⟨A14, n14, c14, rfl, ho14, hb14⟩
              have hon := HON.out.kept hb14
              have ho11 := HO11.out.below hb14
              have ho13 := HO13.out.below hb14
              have HSB := Lib.hid (fun c c' => sameBytes_self A13 A11 n13 n11 c c' w14 (Q.data a ++ m.take j) ho13.rd ho11.rd (Nat.le_trans (own_cap ho13).1 (own_cap ho13).2))
              have hl14 := ho14.len
              rw [List.length_append, HL6.out, HMB.out] at hl14
              have ze : ((n14 : Int) == (n6 : Int) + (b : Int)) = true := by simp; omega
              have HBE := Lib.hid hon.be
              clear hon ho11 ho13 ho14 hb14 hl14 HRD
              go_wp2_with fail
              (with_reducible refine (HSB.out _ _).mono ?_)
              rintro e w15 ⟨rfl, k9, rfl⟩
              go_wp2_with fail
              go_ret
              exact ⟨rfl, below_drewN HBE.out k9⟩
            · rw [if_neg hsc] at hrc
              have HS2 := Lib.hid (fun c c' n => Calls.quiet_of (n := n) (sameBytes_self (A11.map (·.add n6)) B (n11 - n6) (n11 - n6) c c' (w11.drewN n) (m.take j) (hrc.drewN n) (by rw [show n11 - n6 = j by omega]; exact hrm.drewN n) (by simp only [maxLen]; omega)))
              have HSC := Lib.hid hsc
              have HON := Lib.hid hon
              have HON2 := Lib.hid hon2
              have HO11 := Lib.hid ho11
              clear hon hon2 ho6 ho11 hrf hrc hrm hb11 hl11 hl6 hmj
              go_wp2_with fail
              go_quiet ((go_at_call 23; first | with_reducible exact HS1.out _ _ _ | with_reducible exact HS2.out _ _ _))
              go_wp2_with fail
              obtain ⟨wq, hwq⟩ : ∃ wq, wq = w11.drewN nq := ⟨_, rfl⟩
              rw [← hwq]
              have hbq : Below w11.heap.size w11 wq := by rw [hwq]; exact below_drewN (Below.refl _ _) nq
              have HON := Lib.hid (HON.out.kept hbq)
              have hon2 := HON2.out.kept hbq
              have HO11 := Lib.hid (HO11.out.below hbq)
              have HCR := Lib.hid (disk_crash g2 P5 F10 none 0 0 [] (-1) wq hon2.dk (Rd.nil_ _ _) (by simp [maxLen]) (by simp) (by omega) (by have := HL5.out; omega) (by have := HL5.out; omega))
              clear hwq hbq hon2
              go_wp2_with fail
              refine HCR.out.mono ?_
              rintro e w12 hm
              obtain ⟨g3, F12, rfl, hon3, _, hb12⟩ := Made.on HON.out.be HON.out.sz hm
              have hon := HON.out.kept hb12
              have HL6' := Lib.hid (show (P5.crash [] (-1)).d0.length ≤ 10000 ∧ (P5.crash [] (-1)).d1.length ≤ 10000 by
                have := P5.len_crash [] (-1)
                have := HL5.out
                omega)
              have HRD := Lib.hid (disk_read g3 a _ F12 w12 hon3.dk (by have := HL6'.out; omega) (by have := HL6'.out; omega))
              rw [PD.read_some _ a HKN.out, HD6.out] at HRD
              have HON := Lib.hid hon
              have HO11 := Lib.hid (HO11.out.below hb12)
              clear hm hon hon3 hb12 HCR
              go_wp2_with fail
              refine HRD.out.mono ?_
              rintro e w13 ⟨A13, n13, c13, rfl, ho13, hb13⟩
              have hon := HON.out.kept hb13
              have HRD := Lib.hid (disk_read g a P4 F8 w13 hon.dk (by have := HL4.out; omega) (by have := HL4.out; omega))
              rw [P4.read_some a HKN.out, HD4.out] at HRD
              have HON := Lib.hid hon
              have HO11 := Lib.hid (HO11.out.below hb13)
              have HO13 := Lib.hid ho13
              clear hon ho13 hb13
              go_wp2_with fail
              refine HRD.out.mono ?_
              rintro e w14 ⟨A14, n14, c14, rfl, ho14, hb14⟩
              have hon := HON.out.kept hb14
              have ho11 := HO11.out.below hb14
              have ho13 := HO13.out.below hb14
              have HSB := Lib.hid (fun c c' => sameBytes_self A13 A11 n13 n11 c c' w14 (Q.data a ++ m.take j) ho13.rd ho11.rd (Nat.le_trans (own_cap ho13).1 (own_cap ho13).2))
              have hl14 := ho14.len
              rw [List.length_append, HL6.out, HMB.out] at hl14
              have ze : ((n14 : Int) == (n6 : Int) + (b : Int)) = true := by simp; omega
              have HBE := Lib.hid hon.be
              clear hon ho11 ho13 ho14 hb14 hl14 HRD
              go_wp2_with fail
              (with_reducible refine (HSB.out _ _).mono ?_)
              rintro e w15 ⟨rfl, k9, rfl⟩
              go_wp2_with fail
              go_ret
              exact ⟨rfl, below_drewN HBE.out k9⟩
    · have y3 : (5000 : Int) < (b : Int) := by omega
      clear hg
      go_wp2_with fail
      go_ret
      exact ⟨rfl, HBE.out⟩
  · clear hgr HGR
    go_wp2_with fail
    go_ret
    exact ⟨rfl, HBE.out⟩
end Go.Proofs.Ytcibjdodkcfpeaa
