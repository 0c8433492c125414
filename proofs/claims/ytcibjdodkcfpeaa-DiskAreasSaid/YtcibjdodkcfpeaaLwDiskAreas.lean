/-
  DiskAreas: the walk.
-/
import Derived.Test.YtcibjdodkcfpeaaDiskTwo
import Derived.Test.YtcibjdodkcfpeaaLwDiskPower
namespace Go.Proofs.Ytcibjdodkcfpeaa
open Go.RowKit
set_option linter.unusedVariables false

namespace PD
/-- the area a of both is the same -/
def Like (P Q : PD) (a : Int) : Prop := P.data a = Q.data a ∧ P.safe a = Q.safe a
theorem data_set (P : PD) (a b : Int) (l : List UInt8) (ha : known a = true) (hb : known b = true) : (P.setData b l).data a = if a = b then l else P.data a := by
  rcases known_cases ha with rfl | rfl <;> rcases known_cases hb with rfl | rfl <;> rfl
theorem safe_set (P : PD) (a b : Int) (n : Int) (ha : known a = true) (hb : known b = true) : (P.setSafe b n).safe a = if a = b then n else P.safe a := by
  rcases known_cases ha with rfl | rfl <;> rcases known_cases hb with rfl | rfl <;> rfl
theorem data_setSafe (P : PD) (a b : Int) (n : Int) : (P.setSafe b n).data a = P.data a := by unfold setSafe data; split <;> split <;> rfl
theorem safe_setData (P : PD) (a b : Int) (l : List UInt8) : (P.setData b l).safe a = P.safe a := by unfold setData safe; split <;> split <;> rfl
theorem append_like (P Q : PD) (a : Int) (ps : List (List UInt8)) (ha : known a = true) (hp : P.power = -1) (hq : Q.power = -1) (h : Like P Q a) : Like (P.append a ps).1 (Q.append a ps).1 a := by
  unfold append
  rw [ha, if_pos rfl, if_pos rfl, if_neg (by omega), if_neg (by omega)]
  obtain ⟨h1, h2⟩ := h
  refine ⟨?_, ?_⟩
  · rw [data_set _ _ _ _ ha ha, data_set _ _ _ _ ha ha, if_pos rfl, if_pos rfl, h1]
  · rw [safe_setData, safe_setData]; exact h2
theorem append_off (P : PD) (a b : Int) (ps : List (List UInt8)) (ha : known a = true) (hab : b ≠ a) : Like (P.append b ps).1 P a := by
  unfold append
  split
  · split
    · exact ⟨rfl, rfl⟩
    · rename_i hb _
      refine ⟨?_, ?_⟩
      · rw [data_set _ _ _ _ ha hb, if_neg (fun e => hab e.symm)]; rfl
      · rw [safe_setData]; rfl
  · exact ⟨rfl, rfl⟩
theorem trim_like (P Q : PD) (a n : Int) (ha : known a = true) (hp : P.power = -1) (hq : Q.power = -1) (h : Like P Q a) : Like (P.trim a n).1 (Q.trim a n).1 a := by
  obtain ⟨h1, h2⟩ := h
  unfold trim
  rw [h1, h2]
  split
  · rw [if_neg (show ¬ P.power = 0 by omega), if_neg (show ¬ Q.power = 0 by omega)]
    refine ⟨?_, ?_⟩
    · rw [data_setSafe, data_setSafe, data_set _ _ _ _ ha ha, data_set _ _ _ _ ha ha, if_pos rfl, if_pos rfl]
    · rw [safe_set _ _ _ _ ha ha, safe_set _ _ _ _ ha ha, if_pos rfl, if_pos rfl]
  · exact ⟨h1, h2⟩
theorem trim_off (P : PD) (a b n : Int) (ha : known a = true) (hab : b ≠ a) : Like (P.trim b n).1 P a := by
  unfold trim
  split
  · split
    · exact ⟨rfl, rfl⟩
    · rename_i hb _
      rw [Bool.and_eq_true, Bool.and_eq_true] at hb
      refine ⟨?_, ?_⟩
      · rw [data_setSafe, data_set _ _ _ _ ha hb.1.1, if_neg (fun e => hab e.symm)]; rfl
      · rw [safe_set _ _ _ _ ha hb.1.1, if_neg (fun e => hab e.symm), safe_setData]; rfl
  · exact ⟨rfl, rfl⟩
theorem sync_one (P : PD) (b : Int) (hb : known b = true) (hp : P.power ≠ 0) : P.sync [b] = (P.drew.mark b, 0) := by
  unfold sync
  rw [known_one, hb, if_pos rfl, if_neg hp]
  rfl
theorem sync_like (P Q : PD) (a : Int) (ha : known a = true) (hp : P.power = -1) (hq : Q.power = -1) (h : Like P Q a) : Like (P.sync [a]).1 (Q.sync [a]).1 a := by
  obtain ⟨h1, h2⟩ := h
  rw [sync_one P a ha (by omega), sync_one Q a ha (by omega)]
  unfold mark
  refine ⟨?_, ?_⟩
  · rw [data_setSafe, data_setSafe]; exact h1
  · rw [safe_set _ _ _ _ ha ha, safe_set _ _ _ _ ha ha, if_pos rfl, if_pos rfl]
    show (((P.data a).length : Nat) : Int) = ((Q.data a).length : Nat)
    rw [h1]
theorem sync_off (P : PD) (a b : Int) (ha : known a = true) (hab : b ≠ a) (hp : P.power = -1) : Like (P.sync [b]).1 P a := by
  cases hb : known b
  · unfold sync
    rw [known_one, hb]
    exact ⟨rfl, rfl⟩
  · rw [sync_one P b hb (by omega)]
    unfold mark
    refine ⟨?_, ?_⟩
    · rw [data_setSafe]; rfl
    · rw [safe_set _ _ _ _ ha hb, if_neg (fun e => hab e.symm)]; rfl
theorem crash_like (P Q : PD) (a : Int) (ks : List Int) (p : Int) (ha : known a = true) (h : Like P Q a) : (P.crash ks p).data a = (Q.crash ks p).data a := by
  obtain ⟨h1, h2⟩ := h
  rcases known_cases ha with rfl | rfl
  · have e1 : P.d0 = Q.d0 := h1
    have e2 : P.s0 = Q.s0 := h2
    simp [crash, data, e1, e2]
  · have e1 : P.d1 = Q.d1 := h1
    have e2 : P.s1 = Q.s1 := h2
    simp [crash, data, e1, e2]
end PD
/-- a call with just its own area to sync -/
def alone (o : Call) : Call := if o.what = 3 then { o with areas := [o.area] } else o
theorem alone_area (o : Call) : (alone o).area = o.area := by unfold alone; split <;> rfl
theorem alone_parts (o : Call) : (alone o).parts = o.parts := by unfold alone; split <;> rfl
theorem PD.alone_like (P Q : PD) (a : Int) (o : Call) (ha : known a = true) (hp : P.power = -1) (hq : Q.power = -1) (h : PD.Like P Q a) (ho : o.area = a) : PD.Like (P.act (alone o)).1 (Q.act (alone o)).1 a := by
  subst ho
  unfold PD.act alone
  by_cases h3 : o.what = 3
  · simp only [if_pos h3]
    rw [if_neg (show ¬ o.what = 1 by omega), if_neg (show ¬ o.what = 1 by omega), if_neg (show ¬ o.what = 2 by omega), if_neg (show ¬ o.what = 2 by omega)]
    exact PD.sync_like P Q _ ha hp hq h
  · simp only [if_neg h3]
    split
    · exact PD.append_like P Q _ _ ha hp hq h
    · split
      · exact PD.trim_like P Q _ _ ha hp hq h
      · exact h
theorem PD.alone_off (P : PD) (a : Int) (o : Call) (ha : known a = true) (hp : P.power = -1) (ho : o.area ≠ a) : PD.Like (P.act (alone o)).1 P a := by
  unfold PD.act alone
  by_cases h3 : o.what = 3
  · simp only [if_pos h3]
    rw [if_neg (show ¬ o.what = 1 by omega), if_neg (show ¬ o.what = 2 by omega)]
    exact PD.sync_off P _ _ ha ho hp
  · simp only [if_neg h3]
    split
    · exact PD.append_off P _ _ _ ha ho
    · split
      · exact PD.trim_off P _ _ _ ha ho
      · exact ⟨rfl, rfl⟩
theorem Small.alone {P : PD} {ops : List Call} {k : Nat} (h : Small P ops k) (hk : k < ops.length) : Small (P.act (alone ops[k])).1 ops (k + 1) := by
  have e := weight_next ops k hk
  have := P.len_act (Go.Proofs.Ytcibjdodkcfpeaa.alone ops[k])
  rw [alone_parts] at this
  obtain ⟨h1, h2⟩ := h
  unfold Small
  omega
/-- act at the k-th call, made alone -/
theorem alone_at {g : Nat} {P : PD} {F : Nat → Prop} {ops : List Call} {k : Nat} {B C : Option Addr} {p pc q qc : Nat} {w : World} (hk : k < ops.length) (hw : weight ops ≤ 5000) (hs : Small P ops k) (h : Dk w F g P)
    (hR : RdRows w B p ops[k].parts) (hI : Rd w C q ((alone ops[k]).areas.map iv)) :
    Calls Try.prog 17 #[.pointer (some ⟨g, 0, none⟩), .agg #[.int .i64 ops[k].what, .int .i64 ops[k].area, .int .i64 ops[k].n, .slice B p pc, .slice C q qc]] w (Did F g (P.act (alone ops[k])) w) := by
  have h1 := weight_at ops k hk
  have h2 := flat_rowsW ops[k].parts
  have h3 := total_rowsW ops[k].parts
  have h4 : (alone ops[k]).areas.length = q := by simpa using hI.1
  have h5 : (alone ops[k]).areas.length ≤ 5001 := by
    unfold alone
    split
    · simp
    · omega
  obtain ⟨s0, s1⟩ := hs
  have e1 := alone_area ops[k]
  have e2 := alone_parts ops[k]
  have e3 : (alone ops[k]).what = ops[k].what := by unfold alone; split <;> rfl
  have e4 : (alone ops[k]).n = ops[k].n := by unfold alone; split <;> rfl
  have h := act_any g P F (alone ops[k]) B C p pc q qc w h (by rw [e2]; exact hR) hI (by rw [e2]; omega) (by omega) (by rw [e2]; omega) (by rw [e2]; omega)
  rw [e1, e3, e4] at h
  exact h
/-- how the loop over the script stands -/
def ArAt (w : World) (g g' : Nat) (a : Int) (ops : List Call) (k : Nat) (wr : World) : Prop := ∃ F P F' Q, Two w.heap.size w wr F g P F' g' Q ∧ P.power = -1 ∧ Q.power = -1 ∧ Small P ops k ∧ Small Q ops k ∧ PD.Like P Q a
set_option maxHeartbeats 3200000 in
theorem diskAreas_walk (w : World) (v0 : Value) (ops0 : List Call) (h0 : InCalls w v0 ops0) (a : Int) (ha : (Lit.int .i64 a).wf = true) (v3 : Value) (ks : List Int) (h3 : InIs w v3 ks) :
    Calls Try.prog 7 #[v0, .int .i64 a, v3] w (Tr w) := by
  obtain ⟨A, n0, c, rfl, hnc, hcm, hA, hAz⟩ := h0
  obtain ⟨⟨C, q, qc, rfl, hqc, hqm, hC, hCw, hCz⟩, hks⟩ := h3
  have hkq : ks.length = q := by simpa using hC.1
  have HA := Lib.hid hA
  have HC := Lib.hid hC
  have HKQ := Lib.hid (show q ≤ 17592186044416 by omega)
  have HKW := Lib.hid (show ∀ x ∈ ks, -9223372036854775808 ≤ x ∧ x ≤ 9223372036854775807 from fun x hx => wf_i64 (hCw x hx))
  have HAL := Lib.hid (alive_ok w)
  have HNC := Lib.hid hnc
  have HCM := Lib.hid hcm
  clear hA hC hAz hCz hqc hqm hCw hkq hks ha hnc hcm
  go_enter Try.func7, Try.ntmps7
  go_wp2_with fail
  refine HAL.out.mono ?_
  rintro e w1 ⟨rfl, hb1⟩
  have HB1 := Lib.hid hb1
  have HCU := Lib.hid (cut_any A n0 c ops0 w1 (HA.out.below hb1) HNC.out HCM.out)
  clear hb1 HAL
  go_wp2_with fail
  refine HCU.out.mono ?_
  rintro e w2 ⟨n1, rfl, hr, hn60, hn01, rfl⟩
  have HGR := Lib.hid (great_any A n1 c (ops0.take 60) w2 hr hn60)
  have HN60 := Lib.hid hn60
  have HRW := Lib.hid (cut_same HA.out hr.1)
  generalize ops0.take 60 = ops at *
  clear hr hn60 hn01 HCU HA
  go_wp2_with fail
  refine HGR.out.mono ?_
  rintro e w3 ⟨gr, rfl, hgr, rfl⟩
  have HBE := HB1
  cases gr
  · have HW := Lib.hid (hgr rfl)
    clear hgr HGR
    cases hkn : known a
    · have hne : a ≠ 0 ∧ a ≠ 1 := by
        constructor <;> (rintro rfl; cases hkn)
      have z0 : (a != 0) = true := by simp [hne.1]
      have z1 : (a != 1) = true := by simp [hne.2]
      clear hkn hne
      go_wp2_with fail
      go_ret
      exact ⟨rfl, HBE.out⟩
    · have HKA := Lib.hid hkn
      have HN := Lib.hid (disk_new (-1) w3 (by omega))
      have HAT0 := Lib.hid (show ∀ wx (hbe : Below w.heap.size w wx), True from fun _ _ => trivial)
      rcases known_cases hkn with rfl | rfl
      · clear hkn HAT0
        go_wp2_with fail
        refine HN.out.mono ?_
        rintro e w4 hm
        obtain ⟨g, F, rfl, hon, hF, _⟩ := Made.on HBE.out HBE.out.size hm
        have HON := Lib.hid hon
        have HN := Lib.hid (disk_new (-1) w4 (by omega))
        clear hm hon HBE HB1
        go_wp2_with fail
        refine HN.out.mono ?_
        rintro e w5 hm
        obtain ⟨g', F', rfl, hon, hF', hb5⟩ := Made.on HON.out.be HON.out.sz hm
        have HAT := Lib.hid (show ArAt w g g' 0 ops 0 w5 from ⟨F, PD.new (-1), F', PD.new (-1), ⟨HON.out.kept hb5, hon, fun i hi hf => by have h1 := HON.out.lt i hi; have h2 := hF' i hf; omega⟩, rfl, rfl, by simp [Small, PD.new], by simp [Small, PD.new], rfl, rfl⟩)
        clear hm hon hF hF' hb5 HN HON
        go_wp2_with fail
        go_loopw [9] (fun i wr => ∃ k : Nat, k ≤ n1 ∧ i = .int .i64 k ∧ ArAt w g g' 0 ops k wr) (fun i _ => n1 - (intOf i).toNat)
        case atStart => exact ⟨0, Nat.zero_le _, rfl, HAT.out⟩
        case round =>
          clear HAT
          obtain ⟨k, hk, rfl, F, P, F', Q, htw, hpw, hqw, hsm, hsq, hlk⟩ := hrel
          have HTW := Lib.hid htw
          have HLK := Lib.hid hlk
          by_cases hkn : k < n1
          · have hkl : k < ops.length := by rw [HRW.out.1]; exact hkn
            obtain ⟨x, R, r, rc, S, s, sc, rfl, h5, _, _, _⟩ := HRW.out.at_ hkl
            have H5 := Lib.hid h5
            have h5r := h5.below htw.one.be
            have hRd := h5r.rows
            have hRi := h5r.nums
            have x0 := h5r.c0
            have x1 := h5r.c1
            have x2 := h5r.c2
            have x3 := h5r.c3
            have x4 := h5r.c4
            have HKN := Lib.hid hkn
            have y4 : (0 : Int) ≤ (k : Int) := by omega
            have y5 : (k : Int) < (n1 : Int) := by omega
            have y6 : (n1 : Int) ≤ 60 := by have := HN60.out; omega
            have w1' : IntKind.i64.wrap ((k : Int) + 1) = (k : Int) + 1 := by simp only [IntKind.wrap, IntKind.bits, IntKind.signed]; simp; omega
            have HPX := Lib.hid (P.power_act (alone ops[k]) hpw)
            have HQX := Lib.hid (Q.power_act (alone ops[k]) hqw)
            have HSX := Lib.hid (hsm.alone hkl)
            have HSQ := Lib.hid (hsq.alone hkl)
            have HSQ0 := Lib.hid (hsq.stay hkl)
            have HQ0 := Lib.hid hqw
            have HLA := Lib.hid (fun (ho : ops[k].area = 0) => P.alone_like Q 0 ops[k] HKA.out hpw hqw hlk ho)
            have HLO := Lib.hid (fun (ho : ops[k].area ≠ 0) => P.alone_off 0 ops[k] HKA.out hpw ho)
            have HNG := Lib.hid (show ∀ i, wr.heap.size ≤ i → ¬ F i from fun i hi hf => by have := htw.one.lt _ hf; omega)
            have HA1 := Lib.hid (fun wx X y yc (hR : RdRows wx R r ops[k].parts) (hI : Rd wx X y ((alone ops[k]).areas.map iv)) (hdk : Dk wx F g P) => alone_at (g := g) (pc := rc) (qc := yc) hkl HW.out hsm hdk hR hI)
            have HA2 := Lib.hid (fun wx F2 X y yc (hR : RdRows wx R r ops[k].parts) (hI : Rd wx X y ((alone ops[k]).areas.map iv)) (hdk : Dk wx F2 g' Q) => alone_at (g := g') (pc := rc) (qc := yc) hkl HW.out hsq hdk hR hI)
            by_cases h3 : ops[k].what = 3
            · have y3 : (ops[k].what == 3) = true := by simp [h3]
              have HAR := Lib.hid (show (alone ops[k]).areas = [ops[k].area] by unfold alone; rw [if_pos h3])
              obtain ⟨wb, hwb⟩ : ∃ wb, wb = (wr.alloc (.cells #[.int .i64 ops[k].what, .int .i64 ops[k].area, .int .i64 ops[k].n, .slice R r rc, .slice (some ⟨wr.heap.size + 1, 0, none⟩) 1 1] 36)).alloc (.cells #[.int .i64 ops[k].area] 3) := ⟨_, rfl⟩
              have hbb : Below wr.heap.size wr wb := by rw [hwb]; exact ((Below.refl _ _).alloc (Nat.le_refl _) _).alloc (by simp) _
              have KB := Lib.hid (show Bk wb wr.heap.size 36 [.int .i64 ops[k].what, .int .i64 ops[k].area, .int .i64 ops[k].n, .slice R r rc, .slice (some ⟨wr.heap.size + 1, 0, none⟩) 1 1] by rw [hwb]; exact (Bk.new _ _ _).alloc _)
              have hri1 : Rd wb (some ⟨wr.heap.size + 1, 0, none⟩) 1 ([ops[k].area].map iv) := by
                rw [hwb]
                have := Rd.new (wr.alloc (.cells #[.int .i64 ops[k].what, .int .i64 ops[k].area, .int .i64 ops[k].n, .slice R r rc, .slice (some ⟨wr.heap.size + 1, 0, none⟩) 1 1] 36)) ([ops[k].area].map iv) 3
                simpa [iv] using this
              have htb := htw.kept hbb
              have HAC := Lib.hid (HA1.out wb (some ⟨wr.heap.size + 1, 0, none⟩) 1 1 (hRd.below hbb) (by rw [HAR.out]; exact hri1) htb.one.dk)
              have HTB := Lib.hid htb
              have HWB := Lib.hid hwb
              have HRI := Lib.hid hri1
              by_cases hra : ops[k].area = 0
              · have y7 : (ops[k].area == 0) = true := by simp [hra]
                have HRA := Lib.hid hra
                have HLK2 := Lib.hid (HLA.out hra)
                generalize ops[k] = o at *
                clear htw hpw hqw hsm hsq hlk h5 h5r hRd hRi hkl hwb hbb htb hk hkn h3 hra hri1
                go_wp2_with fail
                rw [← HWB.out]
                refine HAC.out.mono ?_
                rintro e w6 hd
                obtain ⟨rfl, F6, ht6, _, hc6⟩ := HTB.out.did1 hd
                have kb6 := hc6.bk KB.out (HNG.out _ (Nat.le_refl _))
                obtain ⟨x0', x1', x2', x3', x4'⟩ := kb6.five
                have HAC := Lib.hid (HA2.out w6 F' (some ⟨wr.heap.size + 1, 0, none⟩) 1 1 (H5.out.below ht6.one.be).rows (by rw [HAR.out]; exact hc6.rd HRI.out (fun a e _ => by injection e with e; subst e; exact HNG.out _ (Nat.le_succ _))) ht6.two.dk)
                have HT6 := Lib.hid ht6
                clear hd ht6 hc6 kb6
                go_wp2_with fail
                refine HAC.out.mono ?_
                rintro e w7 hd
                obtain ⟨rfl, F7, ht7, _, _⟩ := HT6.out.did2 hd
                have HAT := Lib.hid (show ArAt w g g' 0 ops (k + 1) w7 from ⟨F6, _, F7, _, ht7, HPX.out, HQX.out, HSX.out, HSQ.out, HLK2.out⟩)
                clear hd ht7 HAC HT6
                go_wp2_with fail
                go_roundw
                case rel => exact ⟨k + 1, by have := HKN.out; omega, by go_num, HAT.out⟩
                case measure => have := HKN.out; simp [intOf]; omega
              · have y7 : (ops[k].area == 0) = false := by simp [hra]
                have HRA := Lib.hid hra
                have HLK2 := Lib.hid (HLO.out hra)
                generalize ops[k] = o at *
                clear htw hpw hqw hsm hsq hlk h5 h5r hRd hRi hkl hwb hbb htb hk hkn h3 hra hri1
                go_wp2_with fail
                rw [← HWB.out]
                refine HAC.out.mono ?_
                rintro e w6 hd
                obtain ⟨rfl, F6, ht6, _, hc6⟩ := HTB.out.did1 hd
                have kb6 := hc6.bk KB.out (HNG.out _ (Nat.le_refl _))
                obtain ⟨x0', x1', x2', x3', x4'⟩ := kb6.five
                have HAT := Lib.hid (show ArAt w g g' 0 ops (k + 1) w6 from ⟨F6, _, F', Q, ht6, HPX.out, HQ0.out, HSX.out, HSQ0.out, HLK2.out.1.trans HLK.out.1, HLK2.out.2.trans HLK.out.2⟩)
                clear hd ht6 hc6 kb6 HAC
                go_wp2_with fail
                go_roundw
                case rel => exact ⟨k + 1, by have := HKN.out; omega, by go_num, HAT.out⟩
                case measure => have := HKN.out; simp [intOf]; omega
            · have y3 : (ops[k].what == 3) = false := by simp [h3]
              have HAR := Lib.hid (show (alone ops[k]).areas = ops[k].areas by unfold alone; rw [if_neg h3])
              obtain ⟨wb, hwb⟩ : ∃ wb, wb = wr.alloc (.cells #[.int .i64 ops[k].what, .int .i64 ops[k].area, .int .i64 ops[k].n, .slice R r rc, .slice S s sc] 36) := ⟨_, rfl⟩
              have hbb : Below wr.heap.size wr wb := by rw [hwb]; exact (Below.refl _ _).alloc (Nat.le_refl _) _
              have KB := Lib.hid (show Bk wb wr.heap.size 36 [.int .i64 ops[k].what, .int .i64 ops[k].area, .int .i64 ops[k].n, .slice R r rc, .slice S s sc] by rw [hwb]; exact Bk.new _ _ _)
              have htb := htw.kept hbb
              have HAC := Lib.hid (HA1.out wb S s sc (hRd.below hbb) (by rw [HAR.out]; exact hRi.below hbb) htb.one.dk)
              have HTB := Lib.hid htb
              have HWB := Lib.hid hwb
              by_cases hra : ops[k].area = 0
              · have y7 : (ops[k].area == 0) = true := by simp [hra]
                have HRA := Lib.hid hra
                have HLK2 := Lib.hid (HLA.out hra)
                generalize ops[k] = o at *
                clear htw hpw hqw hsm hsq hlk h5 h5r hRd hRi hkl hwb hbb htb hk hkn h3 hra 
                go_wp2_with fail
                rw [← HWB.out]
                refine HAC.out.mono ?_
                rintro e w6 hd
                obtain ⟨rfl, F6, ht6, _, hc6⟩ := HTB.out.did1 hd
                have kb6 := hc6.bk KB.out (HNG.out _ (Nat.le_refl _))
                obtain ⟨x0', x1', x2', x3', x4'⟩ := kb6.five
                have HAC := Lib.hid (HA2.out w6 F' S s sc (H5.out.below ht6.one.be).rows (by rw [HAR.out]; exact (H5.out.below ht6.one.be).nums) ht6.two.dk)
                have HT6 := Lib.hid ht6
                clear hd ht6 hc6 kb6
                go_wp2_with fail
                refine HAC.out.mono ?_
                rintro e w7 hd
                obtain ⟨rfl, F7, ht7, _, _⟩ := HT6.out.did2 hd
                have HAT := Lib.hid (show ArAt w g g' 0 ops (k + 1) w7 from ⟨F6, _, F7, _, ht7, HPX.out, HQX.out, HSX.out, HSQ.out, HLK2.out⟩)
                clear hd ht7 HAC HT6
                go_wp2_with fail
                go_roundw
                case rel => exact ⟨k + 1, by have := HKN.out; omega, by go_num, HAT.out⟩
                case measure => have := HKN.out; simp [intOf]; omega
              · have y7 : (ops[k].area == 0) = false := by simp [hra]
                have HRA := Lib.hid hra
                have HLK2 := Lib.hid (HLO.out hra)
                generalize ops[k] = o at *
                clear htw hpw hqw hsm hsq hlk h5 h5r hRd hRi hkl hwb hbb htb hk hkn h3 hra 
                go_wp2_with fail
                rw [← HWB.out]
                refine HAC.out.mono ?_
                rintro e w6 hd
                obtain ⟨rfl, F6, ht6, _, hc6⟩ := HTB.out.did1 hd
                have kb6 := hc6.bk KB.out (HNG.out _ (Nat.le_refl _))
                obtain ⟨x0', x1', x2', x3', x4'⟩ := kb6.five
                have HAT := Lib.hid (show ArAt w g g' 0 ops (k + 1) w6 from ⟨F6, _, F', Q, ht6, HPX.out, HQ0.out, HSX.out, HSQ0.out, HLK2.out.1.trans HLK.out.1, HLK2.out.2.trans HLK.out.2⟩)
                clear hd ht6 hc6 kb6 HAC
                go_wp2_with fail
                go_roundw
                case rel => exact ⟨k + 1, by have := HKN.out; omega, by go_num, HAT.out⟩
                case measure => have := HKN.out; simp [intOf]; omega
          · have y4 : ¬ (k : Int) < (n1 : Int) := by omega
            have hln : (P.d0.length ≤ 5000 ∧ P.d1.length ≤ 5000) ∧ Q.d0.length ≤ 5000 ∧ Q.d1.length ≤ 5000 := by
              have := weight_take_le ops k
              have := HW.out
              obtain ⟨s0, s1⟩ := hsm
              obtain ⟨s2, s3⟩ := hsq
              omega
            have HLN := Lib.hid hln
            have HRD := Lib.hid (disk_read g 0 P F wr htw.one.dk (by omega) (by omega))
            rw [PD.read_some _ _ HKA.out] at HRD
            clear htw hpw hqw hsm hsq hlk hkn hk hln
            go_wp2_with fail
            refine HRD.out.mono ?_
            rintro e w6 ⟨A6, n6, c6, rfl, ho6, hb6⟩
            have ht := HTW.out.kept hb6
            have HRD := Lib.hid (disk_read g' 0 Q F' w6 ht.two.dk (by have := HLN.out; omega) (by have := HLN.out; omega))
            rw [PD.read_some _ _ HKA.out, ← HLK.out.1] at HRD
            have HT := Lib.hid ht
            have HO6 := Lib.hid ho6
            clear ho6 hb6 ht HTW
            go_wp2_with fail
            refine HRD.out.mono ?_
            rintro e w7 ⟨A7, n7, c7, rfl, ho7, hb7⟩
            have ht := HT.out.kept hb7
            have HCI := Lib.hid (copyInts_big C q qc ks w7 (HC.out.below ht.one.be) HKQ.out)
            have HT := Lib.hid ht
            have HO6 := Lib.hid (HO6.out.below hb7)
            have HO7 := Lib.hid ho7
            clear ho7 hb7 ht HRD
            go_wp2_with fail
            refine HCI.out.mono ?_
            rintro e w8 ⟨⟨A8, c8, rfl, ho8⟩, hb8⟩
            have ht := HT.out.kept hb8
            have HCR := Lib.hid (disk_crash g P F A8 q c8 ks (-1) w8 ht.one.dk ho8.rd (by have := HKQ.out; simp only [maxLen]; omega) HKW.out (by omega) (by have := HLN.out; omega) (by have := HLN.out; omega))
            have HT := Lib.hid ht
            have HO6 := Lib.hid (HO6.out.below hb8)
            have HO7 := Lib.hid (HO7.out.below hb8)
            clear ho8 hb8 ht HCI
            go_wp2_with fail
            refine HCR.out.mono ?_
            rintro e w9 hm
            obtain ⟨g2, F9, rfl, hon2, _, hb9⟩ := Made.on HT.out.one.be HT.out.one.sz hm
            have ht := HT.out.kept hb9
            have HCI := Lib.hid (copyInts_big C q qc ks w9 (HC.out.below ht.one.be) HKQ.out)
            have HT := Lib.hid ht
            have HON2 := Lib.hid hon2
            have HO6 := Lib.hid (HO6.out.below hb9)
            have HO7 := Lib.hid (HO7.out.below hb9)
            clear hm hon2 hb9 ht HCR
            go_wp2_with fail
            refine HCI.out.mono ?_
            rintro e w10 ⟨⟨A10, c10, rfl, ho10⟩, hb10⟩
            have ht := HT.out.kept hb10
            have HCR := Lib.hid (disk_crash g' Q F' A10 q c10 ks (-1) w10 ht.two.dk ho10.rd (by have := HKQ.out; simp only [maxLen]; omega) HKW.out (by omega) (by have := HLN.out; omega) (by have := HLN.out; omega))
            have HT := Lib.hid ht
            have HON2 := Lib.hid (HON2.out.kept hb10)
            have HO6 := Lib.hid (HO6.out.below hb10)
            have HO7 := Lib.hid (HO7.out.below hb10)
            clear ho10 hb10 ht HCI
            go_wp2_with fail
            refine HCR.out.mono ?_
            rintro e w11 hm
            obtain ⟨g3, F11, rfl, hon3, _, hb11⟩ := Made.on HT.out.one.be HT.out.one.sz hm
            have ho6 := HO6.out.below hb11
            have ho7 := HO7.out.below hb11
            have HSB := Lib.hid (sameBytes_self A6 A7 n6 n7 c6 c7 w11 (P.data 0) ho6.rd ho7.rd (Nat.le_trans (own_cap ho6).1 (own_cap ho6).2))
            have HON2 := Lib.hid (HON2.out.kept hb11)
            have HON3 := Lib.hid hon3
            have HLP := Lib.hid (show ((P.crash ks (-1)).d0.length ≤ 5000 ∧ (P.crash ks (-1)).d1.length ≤ 5000) ∧ (Q.crash ks (-1)).d0.length ≤ 5000 ∧ (Q.crash ks (-1)).d1.length ≤ 5000 by
              have := P.len_crash ks (-1)
              have := Q.len_crash ks (-1)
              have := HLN.out
              omega)
            have HDE := Lib.hid (PD.crash_like P Q 0 ks (-1) HKA.out HLK.out)
            clear hm ho6 ho7 hon3 hb11 HT HO6 HO7 HCR
            go_wp2_with fail
            refine HSB.out.mono ?_
            rintro e w12 ⟨rfl, kq, rfl⟩
            have hon2 := HON2.out.drewN kq
            have HON3 := Lib.hid (HON3.out.drewN kq)
            have HRD := Lib.hid (disk_read g2 0 _ F9 _ hon2.dk (by have := HLP.out; omega) (by have := HLP.out; omega))
            rw [PD.read_some _ _ HKA.out] at HRD
            have HON2 := Lib.hid hon2
            clear hon2 HSB
            go_wp2_with fail
            refine HRD.out.mono ?_
            rintro e w13 ⟨A13, n13, c13, rfl, ho13, hb13⟩
            have hon3 := HON3.out.kept hb13
            have HRD := Lib.hid (disk_read g3 0 _ F11 w13 hon3.dk (by have := HLP.out; omega) (by have := HLP.out; omega))
            rw [PD.read_some _ _ HKA.out, ← HDE.out] at HRD
            have HON3 := Lib.hid hon3
            have HO13 := Lib.hid ho13
            clear ho13 hb13 hon3
            go_wp2_with fail
            refine HRD.out.mono ?_
            rintro e w14 ⟨A14, n14, c14, rfl, ho14, hb14⟩
            have hon3 := HON3.out.kept hb14
            have ho13 := HO13.out.below hb14
            have HSB := Lib.hid (sameBytes_self A13 A14 n13 n14 c13 c14 w14 _ ho13.rd ho14.rd (Nat.le_trans (own_cap ho13).1 (own_cap ho13).2))
            have HBE := Lib.hid hon3.be
            clear hon3 ho13 ho14 hb14 HRD
            go_wp2_with fail
            refine HSB.out.mono ?_
            rintro e w15 ⟨rfl, kr, rfl⟩
            go_wp2_with fail
            go_ret
            exact ⟨rfl, below_drewN HBE.out kr⟩
      · clear hkn HAT0
        go_wp2_with fail
        refine HN.out.mono ?_
        rintro e w4 hm
        obtain ⟨g, F, rfl, hon, hF, _⟩ := Made.on HBE.out HBE.out.size hm
        have HON := Lib.hid hon
        have HN := Lib.hid (disk_new (-1) w4 (by omega))
        clear hm hon HBE HB1
        go_wp2_with fail
        refine HN.out.mono ?_
        rintro e w5 hm
        obtain ⟨g', F', rfl, hon, hF', hb5⟩ := Made.on HON.out.be HON.out.sz hm
        have HAT := Lib.hid (show ArAt w g g' 1 ops 0 w5 from ⟨F, PD.new (-1), F', PD.new (-1), ⟨HON.out.kept hb5, hon, fun i hi hf => by have h1 := HON.out.lt i hi; have h2 := hF' i hf; omega⟩, rfl, rfl, by simp [Small, PD.new], by simp [Small, PD.new], rfl, rfl⟩)
        clear hm hon hF hF' hb5 HN HON
        go_wp2_with fail
        go_loopw [9] (fun i wr => ∃ k : Nat, k ≤ n1 ∧ i = .int .i64 k ∧ ArAt w g g' 1 ops k wr) (fun i _ => n1 - (intOf i).toNat)
        case atStart => exact ⟨0, Nat.zero_le _, rfl, HAT.out⟩
        case round =>
          clear HAT
          obtain ⟨k, hk, rfl, F, P, F', Q, htw, hpw, hqw, hsm, hsq, hlk⟩ := hrel
          have HTW := Lib.hid htw
          have HLK := Lib.hid hlk
          by_cases hkn : k < n1
          · have hkl : k < ops.length := by rw [HRW.out.1]; exact hkn
            obtain ⟨x, R, r, rc, S, s, sc, rfl, h5, _, _, _⟩ := HRW.out.at_ hkl
            have H5 := Lib.hid h5
            have h5r := h5.below htw.one.be
            have hRd := h5r.rows
            have hRi := h5r.nums
            have x0 := h5r.c0
            have x1 := h5r.c1
            have x2 := h5r.c2
            have x3 := h5r.c3
            have x4 := h5r.c4
            have HKN := Lib.hid hkn
            have y4 : (0 : Int) ≤ (k : Int) := by omega
            have y5 : (k : Int) < (n1 : Int) := by omega
            have y6 : (n1 : Int) ≤ 60 := by have := HN60.out; omega
            have w1' : IntKind.i64.wrap ((k : Int) + 1) = (k : Int) + 1 := by simp only [IntKind.wrap, IntKind.bits, IntKind.signed]; simp; omega
            have HPX := Lib.hid (P.power_act (alone ops[k]) hpw)
            have HQX := Lib.hid (Q.power_act (alone ops[k]) hqw)
            have HSX := Lib.hid (hsm.alone hkl)
            have HSQ := Lib.hid (hsq.alone hkl)
            have HSQ0 := Lib.hid (hsq.stay hkl)
            have HQ0 := Lib.hid hqw
            have HLA := Lib.hid (fun (ho : ops[k].area = 1) => P.alone_like Q 1 ops[k] HKA.out hpw hqw hlk ho)
            have HLO := Lib.hid (fun (ho : ops[k].area ≠ 1) => P.alone_off 1 ops[k] HKA.out hpw ho)
            have HNG := Lib.hid (show ∀ i, wr.heap.size ≤ i → ¬ F i from fun i hi hf => by have := htw.one.lt _ hf; omega)
            have HA1 := Lib.hid (fun wx X y yc (hR : RdRows wx R r ops[k].parts) (hI : Rd wx X y ((alone ops[k]).areas.map iv)) (hdk : Dk wx F g P) => alone_at (g := g) (pc := rc) (qc := yc) hkl HW.out hsm hdk hR hI)
            have HA2 := Lib.hid (fun wx F2 X y yc (hR : RdRows wx R r ops[k].parts) (hI : Rd wx X y ((alone ops[k]).areas.map iv)) (hdk : Dk wx F2 g' Q) => alone_at (g := g') (pc := rc) (qc := yc) hkl HW.out hsq hdk hR hI)
            by_cases h3 : ops[k].what = 3
            · have y3 : (ops[k].what == 3) = true := by simp [h3]
              have HAR := Lib.hid (show (alone ops[k]).areas = [ops[k].area] by unfold alone; rw [if_pos h3])
              obtain ⟨wb, hwb⟩ : ∃ wb, wb = (wr.alloc (.cells #[.int .i64 ops[k].what, .int .i64 ops[k].area, .int .i64 ops[k].n, .slice R r rc, .slice (some ⟨wr.heap.size + 1, 0, none⟩) 1 1] 36)).alloc (.cells #[.int .i64 ops[k].area] 3) := ⟨_, rfl⟩
              have hbb : Below wr.heap.size wr wb := by rw [hwb]; exact ((Below.refl _ _).alloc (Nat.le_refl _) _).alloc (by simp) _
              have KB := Lib.hid (show Bk wb wr.heap.size 36 [.int .i64 ops[k].what, .int .i64 ops[k].area, .int .i64 ops[k].n, .slice R r rc, .slice (some ⟨wr.heap.size + 1, 0, none⟩) 1 1] by rw [hwb]; exact (Bk.new _ _ _).alloc _)
              have hri1 : Rd wb (some ⟨wr.heap.size + 1, 0, none⟩) 1 ([ops[k].area].map iv) := by
                rw [hwb]
                have := Rd.new (wr.alloc (.cells #[.int .i64 ops[k].what, .int .i64 ops[k].area, .int .i64 ops[k].n, .slice R r rc, .slice (some ⟨wr.heap.size + 1, 0, none⟩) 1 1] 36)) ([ops[k].area].map iv) 3
                simpa [iv] using this
              have htb := htw.kept hbb
              have HAC := Lib.hid (HA1.out wb (some ⟨wr.heap.size + 1, 0, none⟩) 1 1 (hRd.below hbb) (by rw [HAR.out]; exact hri1) htb.one.dk)
              have HTB := Lib.hid htb
              have HWB := Lib.hid hwb
              have HRI := Lib.hid hri1
              by_cases hra : ops[k].area = 1
              · have y7 : (ops[k].area == 1) = true := by simp [hra]
                have HRA := Lib.hid hra
                have HLK2 := Lib.hid (HLA.out hra)
                generalize ops[k] = o at *
                clear htw hpw hqw hsm hsq hlk h5 h5r hRd hRi hkl hwb hbb htb hk hkn h3 hra hri1
                go_wp2_with fail
                rw [← HWB.out]
                refine HAC.out.mono ?_
                rintro e w6 hd
                obtain ⟨rfl, F6, ht6, _, hc6⟩ := HTB.out.did1 hd
                have kb6 := hc6.bk KB.out (HNG.out _ (Nat.le_refl _))
                obtain ⟨x0', x1', x2', x3', x4'⟩ := kb6.five
                have HAC := Lib.hid (HA2.out w6 F' (some ⟨wr.heap.size + 1, 0, none⟩) 1 1 (H5.out.below ht6.one.be).rows (by rw [HAR.out]; exact hc6.rd HRI.out (fun a e _ => by injection e with e; subst e; exact HNG.out _ (Nat.le_succ _))) ht6.two.dk)
                have HT6 := Lib.hid ht6
                clear hd ht6 hc6 kb6
                go_wp2_with fail
                refine HAC.out.mono ?_
                rintro e w7 hd
                obtain ⟨rfl, F7, ht7, _, _⟩ := HT6.out.did2 hd
                have HAT := Lib.hid (show ArAt w g g' 1 ops (k + 1) w7 from ⟨F6, _, F7, _, ht7, HPX.out, HQX.out, HSX.out, HSQ.out, HLK2.out⟩)
                clear hd ht7 HAC HT6
                go_wp2_with fail
                go_roundw
                case rel => exact ⟨k + 1, by have := HKN.out; omega, by go_num, HAT.out⟩
                case measure => have := HKN.out; simp [intOf]; omega
              · have y7 : (ops[k].area == 1) = false := by simp [hra]
                have HRA := Lib.hid hra
                have HLK2 := Lib.hid (HLO.out hra)
                generalize ops[k] = o at *
                clear htw hpw hqw hsm hsq hlk h5 h5r hRd hRi hkl hwb hbb htb hk hkn h3 hra hri1
                go_wp2_with fail
                rw [← HWB.out]
                refine HAC.out.mono ?_
                rintro e w6 hd
                obtain ⟨rfl, F6, ht6, _, hc6⟩ := HTB.out.did1 hd
                have kb6 := hc6.bk KB.out (HNG.out _ (Nat.le_refl _))
                obtain ⟨x0', x1', x2', x3', x4'⟩ := kb6.five
                have HAT := Lib.hid (show ArAt w g g' 1 ops (k + 1) w6 from ⟨F6, _, F', Q, ht6, HPX.out, HQ0.out, HSX.out, HSQ0.out, HLK2.out.1.trans HLK.out.1, HLK2.out.2.trans HLK.out.2⟩)
                clear hd ht6 hc6 kb6 HAC
                go_wp2_with fail
                go_roundw
                case rel => exact ⟨k + 1, by have := HKN.out; omega, by go_num, HAT.out⟩
                case measure => have := HKN.out; simp [intOf]; omega
            · have y3 : (ops[k].what == 3) = false := by simp [h3]
              have HAR := Lib.hid (show (alone ops[k]).areas = ops[k].areas by unfold alone; rw [if_neg h3])
              obtain ⟨wb, hwb⟩ : ∃ wb, wb = wr.alloc (.cells #[.int .i64 ops[k].what, .int .i64 ops[k].area, .int .i64 ops[k].n, .slice R r rc, .slice S s sc] 36) := ⟨_, rfl⟩
              have hbb : Below wr.heap.size wr wb := by rw [hwb]; exact (Below.refl _ _).alloc (Nat.le_refl _) _
              have KB := Lib.hid (show Bk wb wr.heap.size 36 [.int .i64 ops[k].what, .int .i64 ops[k].area, .int .i64 ops[k].n, .slice R r rc, .slice S s sc] by rw [hwb]; exact Bk.new _ _ _)
              have htb := htw.kept hbb
              have HAC := Lib.hid (HA1.out wb S s sc (hRd.below hbb) (by rw [HAR.out]; exact hRi.below hbb) htb.one.dk)
              have HTB := Lib.hid htb
              have HWB := Lib.hid hwb
              by_cases hra : ops[k].area = 1
              · have y7 : (ops[k].area == 1) = true := by simp [hra]
                have HRA := Lib.hid hra
                have HLK2 := Lib.hid (HLA.out hra)
                generalize ops[k] = o at *
                clear htw hpw hqw hsm hsq hlk h5 h5r hRd hRi hkl hwb hbb htb hk hkn h3 hra 
                go_wp2_with fail
                rw [← HWB.out]
                refine HAC.out.mono ?_
                rintro e w6 hd
                obtain ⟨rfl, F6, ht6, _, hc6⟩ := HTB.out.did1 hd
                have kb6 := hc6.bk KB.out (HNG.out _ (Nat.le_refl _))
                obtain ⟨x0', x1', x2', x3', x4'⟩ := kb6.five
                have HAC := Lib.hid (HA2.out w6 F' S s sc (H5.out.below ht6.one.be).rows (by rw [HAR.out]; exact (H5.out.below ht6.one.be).nums) ht6.two.dk)
                have HT6 := Lib.hid ht6
                clear hd ht6 hc6 kb6
                go_wp2_with fail
                refine HAC.out.mono ?_
                rintro e w7 hd
                obtain ⟨rfl, F7, ht7, _, _⟩ := HT6.out.did2 hd
                have HAT := Lib.hid (show ArAt w g g' 1 ops (k + 1) w7 from ⟨F6, _, F7, _, ht7, HPX.out, HQX.out, HSX.out, HSQ.out, HLK2.out⟩)
                clear hd ht7 HAC HT6
                go_wp2_with fail
                go_roundw
                case rel => exact ⟨k + 1, by have := HKN.out; omega, by go_num, HAT.out⟩
                case measure => have := HKN.out; simp [intOf]; omega
              · have y7 : (ops[k].area == 1) = false := by simp [hra]
                have HRA := Lib.hid hra
                have HLK2 := Lib.hid (HLO.out hra)
                generalize ops[k] = o at *
                clear htw hpw hqw hsm hsq hlk h5 h5r hRd hRi hkl hwb hbb htb hk hkn h3 hra 
                go_wp2_with fail
                rw [← HWB.out]
                refine HAC.out.mono ?_
                rintro e w6 hd
                obtain ⟨rfl, F6, ht6, _, hc6⟩ := HTB.out.did1 hd
                have kb6 := hc6.bk KB.out (HNG.out _ (Nat.le_refl _))
                obtain ⟨x0', x1', x2', x3', x4'⟩ := kb6.five
                have HAT := Lib.hid (show ArAt w g g' 1 ops (k + 1) w6 from ⟨F6, _, F', Q, ht6, HPX.out, HQ0.out, HSX.out, HSQ0.out, HLK2.out.1.trans HLK.out.1, HLK2.out.2.trans HLK.out.2⟩)
                clear hd ht6 hc6 kb6 HAC
                go_wp2_with fail
                go_roundw
                case rel => exact ⟨k + 1, by have := HKN.out; omega, by go_num, HAT.out⟩
                case measure => have := HKN.out; simp [intOf]; omega
          · have y4 : ¬ (k : Int) < (n1 : Int) := by omega
            have hln : (P.d0.length ≤ 5000 ∧ P.d1.length ≤ 5000) ∧ Q.d0.length ≤ 5000 ∧ Q.d1.length ≤ 5000 := by
              have := weight_take_le ops k
              have := HW.out
              obtain ⟨s0, s1⟩ := hsm
              obtain ⟨s2, s3⟩ := hsq
              omega
            have HLN := Lib.hid hln
            have HRD := Lib.hid (disk_read g 1 P F wr htw.one.dk (by omega) (by omega))
            rw [PD.read_some _ _ HKA.out] at HRD
            clear htw hpw hqw hsm hsq hlk hkn hk hln
            go_wp2_with fail
            refine HRD.out.mono ?_
            rintro e w6 ⟨A6, n6, c6, rfl, ho6, hb6⟩
            have ht := HTW.out.kept hb6
            have HRD := Lib.hid (disk_read g' 1 Q F' w6 ht.two.dk (by have := HLN.out; omega) (by have := HLN.out; omega))
            rw [PD.read_some _ _ HKA.out, ← HLK.out.1] at HRD
            have HT := Lib.hid ht
            have HO6 := Lib.hid ho6
            clear ho6 hb6 ht HTW
            go_wp2_with fail
            refine HRD.out.mono ?_
            rintro e w7 ⟨A7, n7, c7, rfl, ho7, hb7⟩
            have ht := HT.out.kept hb7
            have HCI := Lib.hid (copyInts_big C q qc ks w7 (HC.out.below ht.one.be) HKQ.out)
            have HT := Lib.hid ht
            have HO6 := Lib.hid (HO6.out.below hb7)
            have HO7 := Lib.hid ho7
            clear ho7 hb7 ht HRD
            go_wp2_with fail
            refine HCI.out.mono ?_
            rintro e w8 ⟨⟨A8, c8, rfl, ho8⟩, hb8⟩
            have ht := HT.out.kept hb8
            have HCR := Lib.hid (disk_crash g P F A8 q c8 ks (-1) w8 ht.one.dk ho8.rd (by have := HKQ.out; simp only [maxLen]; omega) HKW.out (by omega) (by have := HLN.out; omega) (by have := HLN.out; omega))
            have HT := Lib.hid ht
            have HO6 := Lib.hid (HO6.out.below hb8)
            have HO7 := Lib.hid (HO7.out.below hb8)
            clear ho8 hb8 ht HCI
            go_wp2_with fail
            refine HCR.out.mono ?_
            rintro e w9 hm
            obtain ⟨g2, F9, rfl, hon2, _, hb9⟩ := Made.on HT.out.one.be HT.out.one.sz hm
            have ht := HT.out.kept hb9
            have HCI := Lib.hid (copyInts_big C q qc ks w9 (HC.out.below ht.one.be) HKQ.out)
            have HT := Lib.hid ht
            have HON2 := Lib.hid hon2
            have HO6 := Lib.hid (HO6.out.below hb9)
            have HO7 := Lib.hid (HO7.out.below hb9)
            clear hm hon2 hb9 ht HCR
            go_wp2_with fail
            refine HCI.out.mono ?_
            rintro e w10 ⟨⟨A10, c10, rfl, ho10⟩, hb10⟩
            have ht := HT.out.kept hb10
            have HCR := Lib.hid (disk_crash g' Q F' A10 q c10 ks (-1) w10 ht.two.dk ho10.rd (by have := HKQ.out; simp only [maxLen]; omega) HKW.out (by omega) (by have := HLN.out; omega) (by have := HLN.out; omega))
            have HT := Lib.hid ht
            have HON2 := Lib.hid (HON2.out.kept hb10)
            have HO6 := Lib.hid (HO6.out.below hb10)
            have HO7 := Lib.hid (HO7.out.below hb10)
            clear ho10 hb10 ht HCI
            go_wp2_with fail
            refine HCR.out.mono ?_
            rintro e w11 hm
            obtain ⟨g3, F11, rfl, hon3, _, hb11⟩ := Made.on HT.out.one.be HT.out.one.sz hm
            have ho6 := HO6.out.below hb11
            have ho7 := HO7.out.below hb11
            have HSB := Lib.hid (sameBytes_self A6 A7 n6 n7 c6 c7 w11 (P.data 1) ho6.rd ho7.rd (Nat.le_trans (own_cap ho6).1 (own_cap ho6).2))
            have HON2 := Lib.hid (HON2.out.kept hb11)
            have HON3 := Lib.hid hon3
            have HLP := Lib.hid (show ((P.crash ks (-1)).d0.length ≤ 5000 ∧ (P.crash ks (-1)).d1.length ≤ 5000) ∧ (Q.crash ks (-1)).d0.length ≤ 5000 ∧ (Q.crash ks (-1)).d1.length ≤ 5000 by
              have := P.len_crash ks (-1)
              have := Q.len_crash ks (-1)
              have := HLN.out
              omega)
            have HDE := Lib.hid (PD.crash_like P Q 1 ks (-1) HKA.out HLK.out)
            clear hm ho6 ho7 hon3 hb11 HT HO6 HO7 HCR
            go_wp2_with fail
            refine HSB.out.mono ?_
            rintro e w12 ⟨rfl, kq, rfl⟩
            have hon2 := HON2.out.drewN kq
            have HON3 := Lib.hid (HON3.out.drewN kq)
            have HRD := Lib.hid (disk_read g2 1 _ F9 _ hon2.dk (by have := HLP.out; omega) (by have := HLP.out; omega))
            rw [PD.read_some _ _ HKA.out] at HRD
            have HON2 := Lib.hid hon2
            clear hon2 HSB
            go_wp2_with fail
            refine HRD.out.mono ?_
            rintro e w13 ⟨A13, n13, c13, rfl, ho13, hb13⟩
            have hon3 := HON3.out.kept hb13
            have HRD := Lib.hid (disk_read g3 1 _ F11 w13 hon3.dk (by have := HLP.out; omega) (by have := HLP.out; omega))
            rw [PD.read_some _ _ HKA.out, ← HDE.out] at HRD
            have HON3 := Lib.hid hon3
            have HO13 := Lib.hid ho13
            clear ho13 hb13 hon3
            go_wp2_with fail
            refine HRD.out.mono ?_
            rintro e w14 ⟨A14, n14, c14, rfl, ho14, hb14⟩
            have hon3 := HON3.out.kept hb14
            have ho13 := HO13.out.below hb14
            have HSB := Lib.hid (sameBytes_self A13 A14 n13 n14 c13 c14 w14 _ ho13.rd ho14.rd (Nat.le_trans (own_cap ho13).1 (own_cap ho13).2))
            have HBE := Lib.hid hon3.be
            clear hon3 ho13 ho14 hb14 HRD
            go_wp2_with fail
            refine HSB.out.mono ?_
            rintro e w15 ⟨rfl, kr, rfl⟩
            go_wp2_with fail
            go_ret
            exact ⟨rfl, below_drewN HBE.out kr⟩
  · clear hgr HGR
    go_wp2_with fail
    go_ret
    exact ⟨rfl, HBE.out⟩
end Go.Proofs.Ytcibjdodkcfpeaa
