/-
  DiskPower: the walk.
-/
import Derived.Test.YtcibjdodkcfpeaaDiskTwo
import Derived.Test.YtcibjdodkcfpeaaLwDiskSafe
namespace Go.Proofs.Ytcibjdodkcfpeaa
open Go.RowKit
set_option linter.unusedVariables false

theorem cut_same {w : World} {A : Option Addr} {n0 n1 : Nat} {ops0 : List Call} (h : RdCalls w A n0 ops0) (hl : (ops0.take 60).length = n1) : RdCalls w A n1 (ops0.take 60) := by
  have hf := h.front (m := min n0 60) (by omega)
  have h1 := h.1
  have e : ops0.take (min n0 60) = ops0.take 60 := by
    rw [← h1, List.take_eq_take_iff]
    omega
  have e1 : n1 = min n0 60 := by
    rw [List.length_take] at hl
    omega
  rw [e1, ← e]; exact hf
/-- how the loop over the script stands: left calls of power -/
def PowAt (w : World) (g g' : Nat) (ops : List Call) (left k : Nat) (wr : World) : Prop := ∃ F P F', Two w.heap.size w wr F g (P.withP left) F' g' P ∧ P.power = -1 ∧ Small P ops k
theorem Small.with {P : PD} {ops : List Call} {k : Nat} (h : Small P ops k) (p : Int) : Small (P.withP p) ops k := h
theorem Small.stay {P : PD} {ops : List Call} {k : Nat} (h : Small P ops k) (hk : k < ops.length) : Small P ops (k + 1) := by
  have e := weight_next ops k hk
  obtain ⟨h1, h2⟩ := h
  unfold Small
  omega
set_option maxHeartbeats 3200000 in
theorem diskPower_walk (w : World) (p : Int) (hp : (Lit.int .i64 p).wf = true) (v0 : Value) (ops0 : List Call) (h0 : InCalls w v0 ops0) :
    Calls Try.prog 5 #[.int .i64 p, v0] w (Tr w) := by
  obtain ⟨A, n0, c, rfl, hnc, hcm, hA, hAz⟩ := h0
  have HA := Lib.hid hA
  have hpw := wf_i64 hp
  have HPW := Lib.hid hpw
  have HAL := Lib.hid (alive_ok w)
  have HNC := Lib.hid hnc
  have HCM := Lib.hid hcm
  clear hA hAz hp hnc hcm
  go_enter Try.func5, Try.ntmps5
  go_wp2_with fail
  refine HAL.out.mono ?_
  rintro e w1 ⟨rfl, hb1⟩
  have HB1 := Lib.hid hb1
  have HCU := Lib.hid (cut_any A n0 c ops0 w1 (HA.out.below hb1) HNC.out HCM.out)
  clear hb1 HAL
  go_wp2_with fail
  refine HCU.out.mono ?_
  rintro e w2 ⟨n1, rfl, hr, hn60, hn01, rfl⟩
  have HGR := Lib.hid (great_any A n1 c (ops0.take 60) w2 hr hn60)
  have HN60 := Lib.hid hn60
  have HRW := Lib.hid (cut_same HA.out hr.1)
  generalize ops0.take 60 = ops at *
  clear hr hn60 hn01 HCU HA
  go_wp2_with fail
  refine HGR.out.mono ?_
  rintro e w3 ⟨gr, rfl, hgr, rfl⟩
  have HBE := HB1
  cases gr
  · have HW := Lib.hid (hgr rfl)
    clear hgr HGR
    by_cases hg : 0 ≤ p
    · obtain ⟨left, rfl⟩ : ∃ left : Nat, p = left := ⟨p.toNat, by omega⟩
      have y3 : ¬ (left : Int) < 0 := by omega
      have HN := Lib.hid (disk_new left w3 HPW.out)
      have HLM := Lib.hid (show left ≤ 9223372036854775807 by have := HPW.out; omega)
      clear hg hpw
      go_wp2_with fail
      refine HN.out.mono ?_
      rintro e w4 hm
      obtain ⟨g, F, rfl, hon, hF, _⟩ := Made.on HBE.out HBE.out.size hm
      have HON := Lib.hid hon
      have HN := Lib.hid (disk_new (-1) w4 (by omega))
      clear hm hon HBE HB1
      go_wp2_with fail
      refine HN.out.mono ?_
      rintro e w5 hm
      obtain ⟨g', F', rfl, hon, hF', hb5⟩ := Made.on HON.out.be HON.out.sz hm
      have HAT := Lib.hid (show PowAt w g g' ops left 0 w5 from ⟨F, PD.new (-1), F', ⟨HON.out.kept hb5, hon, fun i hi hf => by have h1 := HON.out.lt i hi; have h2 := hF' i hf; omega⟩, rfl, by simp [Small, PD.new]⟩)
      clear hm hon hF hF' hb5 HN HON
      go_wp2_with fail
      go_loopw [7, 8] (fun lf i wr => ∃ k l : Nat, k ≤ n1 ∧ l ≤ left ∧ i = .int .i64 k ∧ lf = .int .i64 l ∧ PowAt w g g' ops l k wr) (fun _ i _ => n1 - (intOf i).toNat)
      case atStart => exact ⟨0, left, Nat.zero_le _, Nat.le_refl _, rfl, rfl, HAT.out⟩
      case round =>
        clear HAT
        obtain ⟨k, l, hk, hll, rfl, rfl, F, P, F', htw, hpw, hsm⟩ := hrel
        have HTW := Lib.hid htw
        have HPP := Lib.hid hpw
        have HSM := Lib.hid hsm
        have HLL := Lib.hid hll
        by_cases hkn : k < n1
        · have hkl : k < ops.length := by rw [HRW.out.1]; exact hkn
          obtain ⟨x, R, r, rc, S, s, sc, rfl, h5, _, _, _⟩ := HRW.out.at_ hkl
          have H5 := Lib.hid h5
          have h5r := h5.below htw.one.be
          have hRd := h5r.rows
          have hRi := h5r.nums
          have x0 := h5r.c0
          have x1 := h5r.c1
          have x2 := h5r.c2
          have x3 := h5r.c3
          have x4 := h5r.c4
          have HKL := Lib.hid hkl
          have HKN := Lib.hid hkn
          have y4 : (0 : Int) ≤ (k : Int) := by omega
          have y5 : (k : Int) < (n1 : Int) := by omega
          have y6 : (n1 : Int) ≤ 60 := by have := HN60.out; omega
          have w1' : IntKind.i64.wrap ((k : Int) + 1) = (k : Int) + 1 := by simp only [IntKind.wrap, IntKind.bits, IntKind.signed]; simp; omega
          obtain ⟨wb, hwb⟩ : ∃ wb, wb = wr.alloc (.cells #[.int .i64 ops[k].what, .int .i64 ops[k].area, .int .i64 ops[k].n, .slice R r rc, .slice S s sc] 36) := ⟨_, rfl⟩
          have hbb : Below wr.heap.size wr wb := by rw [hwb]; exact (Below.refl _ _).alloc (Nat.le_refl _) _
          have KB := Lib.hid (show Bk wb wr.heap.size 36 [.int .i64 ops[k].what, .int .i64 ops[k].area, .int .i64 ops[k].n, .slice R r rc, .slice S s sc] by rw [hwb]; exact Bk.new _ _ _)
          have htb := htw.kept hbb
          have HAC := Lib.hid (act_at (g := g) (pc := rc) (qc := sc) hkl HW.out (hsm.with l) htb.one.dk (hRd.below hbb) (hRi.below hbb))
          have HTB := Lib.hid htb
          have HBB := Lib.hid hbb
          have HWB := Lib.hid hwb
          have HNG := Lib.hid (show ¬ F wr.heap.size from fun hf => by have := htw.one.lt _ hf; omega)
          by_cases ho : 1 ≤ ops[k].what ∧ ops[k].what ≤ 3
          · have HO := Lib.hid ho
            have t1 : ¬ ops[k].what < 1 := by omega
            have t2 : ¬ 3 < ops[k].what := by omega
            by_cases hl0 : l = 0
            · subst hl0
              have HDN := Lib.hid ((P.withP (0 : Nat)).act_down ops[k] rfl ho)
              have HSX := Lib.hid (hsm.stay hkl)
              generalize ops[k] = o at *
              clear htw hpw hsm hll h5 h5r hRd hRi hkl hwb hbb htb ho hk hkn
              go_wp2_with fail
              rw [← HWB.out]
              refine HAC.out.mono ?_
              rintro e w6 hd
              obtain ⟨rfl, F6, ht6, _, _⟩ := HTB.out.did1 hd
              rw [HDN.out.1] at ht6
              have HAT := Lib.hid (show PowAt w g g' ops 0 (k + 1) w6 from ⟨F6, P, F', ht6, HPP.out, HSX.out⟩)
              have hne : (((P.withP (0 : Nat)).act o).2 == 0) = false := by simpa using HDN.out.2
              clear hd ht6 HAC
              generalize ((P.withP (0 : Nat)).act o).2 = er at *
              go_wp2_with fail
              go_roundw
              case rel => exact ⟨k + 1, 0, by have := HKN.out; omega, by omega, by go_num, by go_num, HAT.out⟩
              case measure => have := HKN.out; simp [intOf]; omega
            · have HAW := Lib.hid (P.act_with l ops[k] (by omega) hpw ho)
              have HSX := Lib.hid (hsm.next hkl)
              have HPX := Lib.hid (P.power_act ops[k] hpw)
              have hle : ((l : Int) == 0) = false := by simp; omega
              have HL0 := Lib.hid (show 0 < l by omega)
              have y7 : (0 : Int) < (l : Int) := by omega
              have y8 : (l : Int) ≤ 9223372036854775807 := by have := HLM.out; omega
              have w2' : IntKind.i64.wrap ((l : Int) - 1) = (l : Int) - 1 := by simp only [IntKind.wrap, IntKind.bits, IntKind.signed]; simp; omega
              have HA2 := Lib.hid (fun wx F2 (hR : RdRows wx R r ops[k].parts) (hI : Rd wx S s (ops[k].areas.map iv)) (hdk : Dk wx F2 g' P) => act_at (g := g') (pc := rc) (qc := sc) hkl HW.out hsm hdk hR hI)
              generalize ops[k] = o at *
              clear htw hpw hsm hll h5 h5r hRd hRi hkl hwb hbb htb ho hk hkn hl0
              go_wp2_with fail
              rw [← HWB.out]
              refine HAC.out.mono ?_
              rintro e w6 hd
              obtain ⟨rfl, F6, ht6, _, hc6⟩ := HTB.out.did1 hd
              rw [HAW.out] at ht6 ⊢
              have kb6 := hc6.bk KB.out HNG.out
              obtain ⟨x0', x1', x2', x3', x4'⟩ := kb6.five
              have h56 := H5.out.below ht6.one.be
              have HAC := Lib.hid (HA2.out w6 F' h56.rows h56.nums ht6.two.dk)
              have HT6 := Lib.hid ht6
              clear hd ht6 hc6 kb6 h56 HA2
              obtain ⟨er, her⟩ : ∃ er, er = (P.act o).2 := ⟨_, rfl⟩
              obtain ⟨P7, hP7⟩ : ∃ P7, P7 = (P.act o).1 := ⟨_, rfl⟩
              dsimp only at HT6 ⊢
              have HER := Lib.hid her
              have HP7 := Lib.hid hP7
              rw [← her, ← hP7] at HT6
              rw [← her]
              clear her hP7
              go_wp2_with fail
              refine HAC.out.mono ?_
              rintro e w7 hd
              obtain ⟨rfl, F7, ht7, _, _⟩ := HT6.out.did2 hd
              rw [← HP7.out] at ht7
              rw [← HER.out]
              have hbne : (er != er) = false := by simp
              have HT7 := Lib.hid ht7
              clear hd ht7 HAC HT6
              by_cases he0 : er = 0
              · have z1 : (er == 0) = true := by simp [he0]
                have HLE := Lib.hid (show Value.int .i64 ((l : Int) - 1) = .int .i64 ((l - 1 : Nat) : Int) by rw [show (l : Int) - 1 = ((l - 1 : Nat) : Int) by have := HL0.out; omega])
                have HAT := Lib.hid (show PowAt w g g' ops (l - 1) (k + 1) w7 from ⟨F6, P7, F7, by
                  have := HT7.out
                  rw [if_pos he0, show (l : Int) - 1 = ((l - 1 : Nat) : Int) by have := HL0.out; omega] at this
                  exact this, by rw [HP7.out]; exact HPX.out, by rw [HP7.out]; exact HSX.out⟩)
                clear he0
                go_wp2_with fail
                go_roundw
                case rel => exact ⟨k + 1, l - 1, by have := HKN.out; omega, by have := HLL.out; omega, by go_num, HLE.out, HAT.out⟩
                case measure => have := HKN.out; simp [intOf]; omega
              · have z1 : (er == 0) = false := by simp [he0]
                have HAT := Lib.hid (show PowAt w g g' ops l (k + 1) w7 from ⟨F6, P7, F7, by
                  have := HT7.out
                  rw [if_neg he0] at this
                  exact this, by rw [HP7.out]; exact HPX.out, by rw [HP7.out]; exact HSX.out⟩)
                clear he0
                go_wp2_with fail
                go_roundw
                case rel => exact ⟨k + 1, l, by have := HKN.out; omega, HLL.out, by go_num, by go_num, HAT.out⟩
                case measure => have := HKN.out; simp [intOf]; omega
          · have HSX := Lib.hid (hsm.stay hkl)
            have HAT := Lib.hid (show PowAt w g g' ops l (k + 1) wb from ⟨F, P, F', htb, hpw, hsm.stay hkl⟩)
            by_cases ho1 : ops[k].what < 1
            · generalize ops[k] = o at *
              clear htw hpw hsm hll h5 h5r hRd hRi hkl hwb hbb htb ho hk hkn HAC
              go_wp2_with fail
              rw [← HWB.out]
              go_roundw
              case rel => exact ⟨k + 1, l, by have := HKN.out; omega, HLL.out, by go_num, by go_num, HAT.out⟩
              case measure => have := HKN.out; simp [intOf]; omega
            · have ho3 : 3 < ops[k].what := by omega
              generalize ops[k] = o at *
              clear htw hpw hsm hll h5 h5r hRd hRi hkl hwb hbb htb ho hk hkn HAC
              go_wp2_with fail
              rw [← HWB.out]
              go_roundw
              case rel => exact ⟨k + 1, l, by have := HKN.out; omega, HLL.out, by go_num, by go_num, HAT.out⟩
              case measure => have := HKN.out; simp [intOf]; omega
        · have y4 : ¬ (k : Int) < (n1 : Int) := by omega
          have hln : P.d0.length ≤ 5000 ∧ P.d1.length ≤ 5000 := by
            have := weight_take_le ops k
            have := HW.out
            obtain ⟨s0, s1⟩ := hsm
            omega
          have HLN := Lib.hid hln
          clear htw hpw hsm hll hkn hk hln
          go_wp2_with fail
          go_loopw [11] (fun i wx => ∃ k : Nat, k ≤ 2 ∧ i = .int .i64 k ∧ Two w.heap.size w wx F g (P.withP l) F' g' P) (fun i _ => 2 - (intOf i).toNat)
          case atStart => exact ⟨0, Nat.zero_le _, rfl, HTW.out⟩
          case round =>
            obtain ⟨k2, hk2, rfl, ht⟩ := hrel
            rename World => wx
            by_cases hk22 : k2 < 2
            · have hkn : known (k2 : Int) = true := by
                have : k2 = 0 ∨ k2 = 1 := by omega
                rcases this with rfl | rfl <;> rfl
              have HRD := Lib.hid (disk_read g k2 (P.withP l) F _ ht.one.dk (by have := HLN.out; show P.d0.length ≤ _; omega) (by have := HLN.out; show P.d1.length ≤ _; omega))
              rw [PD.read_some _ _ hkn, PD.data_with] at HRD
              have HKN := Lib.hid hkn
              have HT := Lib.hid ht
              have HK2 := Lib.hid hk22
              have y7 : (0 : Int) ≤ (k2 : Int) := by omega
              have y8 : (k2 : Int) < 2 := by omega
              have w9' : IntKind.i64.wrap ((k2 : Int) + 1) = (k2 : Int) + 1 := by simp only [IntKind.wrap, IntKind.bits, IntKind.signed]; simp; omega
              clear hkn ht hk22 hk2
              go_wp2_with fail
              refine HRD.out.mono ?_
              rintro e w6 ⟨A6, n6, c6, rfl, ho6, hb6⟩
              have ht := HT.out.kept hb6
              have HRD := Lib.hid (disk_read g' k2 P F' w6 ht.two.dk (by have := HLN.out; omega) (by have := HLN.out; omega))
              rw [PD.read_some _ _ HKN.out] at HRD
              have HT := Lib.hid ht
              have HO6 := Lib.hid ho6
              clear ho6 hb6 ht
              go_wp2_with fail
              refine HRD.out.mono ?_
              rintro e w7 ⟨A7, n7, c7, rfl, ho7, hb7⟩
              have ht := HT.out.kept hb7
              have ho6 := HO6.out.below hb7
              have HSB := Lib.hid (sameBytes_self A6 A7 n6 n7 c6 c7 w7 (P.data k2) ho6.rd ho7.rd (Nat.le_trans (own_cap ho6).1 (own_cap ho6).2))
              have HT := Lib.hid ht
              clear ho6 ho7 hb7 ht HRD
              go_wp2_with fail
              refine HSB.out.mono ?_
              rintro e w8 ⟨rfl, kq, rfl⟩
              have HT := Lib.hid (HT.out.kept (below_drewN (Below.refl _ _) kq))
              go_wp2_with fail
              go_roundw
              case rel => exact ⟨k2 + 1, by have := HK2.out; omega, by go_num, HT.out⟩
              case measure => have := HK2.out; simp [intOf]; omega
            · have y8 : ¬ (k2 : Int) < 2 := by omega
              have HBE := Lib.hid ht.one.be
              clear ht
              go_wp2_with fail
              go_ret
              exact ⟨rfl, HBE.out⟩
    · have y3 : p < 0 := by omega
      clear hg
      go_wp2_with fail
      go_ret
      exact ⟨rfl, HBE.out⟩
  · clear hgr HGR
    go_wp2_with fail
    go_ret
    exact ⟨rfl, HBE.out⟩
end Go.Proofs.Ytcibjdodkcfpeaa
