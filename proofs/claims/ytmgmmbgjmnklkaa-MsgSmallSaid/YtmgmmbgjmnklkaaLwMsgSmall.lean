/-
  MsgSmall: the walk of the law. No statement.
-/
import Derived.Test.YtmgmmbgjmnklkaaMsgLaw
import Derived.Test.YtmgmmbgjmnklkaaOpenMsg
import Derived.Test.YtmgmmbgjmnklkaaMRows
import Derived.Deep.CutRange
namespace Go.Proofs.Ytmgmmbgjmnklkaa
set_option maxRecDepth 100000
open Go.RowKit
open Pk
set_option linter.unusedVariables false

theorem small_no {m n : Mg} (hk : kindB m.kind = true) (hn : n.kind = m.kind) {p : Nat} (hp : p ≤ 8) (hnp : p ∉ partsN m.kind) (hno : n.partNo p = false) : n.encode = (81, []) := by
  unfold Mg.encode
  rw [if_neg (by rw [hn, hk]; decide), if_pos]
  cases ho : n.ok with
  | false => rfl
  | true =>
    unfold Mg.ok at ho
    simp only [Bool.and_eq_true] at ho
    have := rest_no ho.2 hp (by rw [hn]; exact hnp)
    rw [hno] at this
    cases this
theorem rds_one {α : Type} (R : Rdr α) (w : World) (cs : List Value) (x : α) (ty : TypeId) (h : R.rd (fun b => b = w.heap.size) w cs x) : RdS R (fun b => b = w.heap.size) (w.alloc (.cells cs.toArray ty)) (some ⟨w.heap.size, 0, none⟩) 1 [x] := by
  refine ⟨by simp, by simp [maxLen], (fun e => by cases e), fun k y hy => ?_⟩
  have hk : k = 0 := by
    have := (List.getElem?_eq_some_iff.1 hy).1
    simp at this; omega
  subst hk
  simp only [List.getElem?_cons_zero, Option.some.injEq] at hy
  subst hy
  refine ⟨_, cs, rfl, rfl, by simp, fun j u hj => ?_, R.below h ((Below.refl w.heap.size w).alloc (Nat.le_refl _) _)⟩
  rw [Nat.zero_mul, Nat.zero_add]
  have := (Bk.new w ty cs).at_ hj
  rwa [at_add, Nat.zero_add]
def ltOne : Lt := ⟨1, 0, 1, [], []⟩
def pvOne : Pv := ⟨0, 0, ⟨-1, 0, 0, []⟩, []⟩
theorem no_field0 {k : Int} (hk : kindB k = true) (h : (k == 3) = false ∧ (k == 4) = false ∧ (k == 5) = false ∧ (k == 11) = false ∧ (k == 12) = false) : 0 ∉ partsN k := by
  rcases kind_cases hk with rfl | rfl | rfl | rfl | rfl | rfl | rfl | rfl | rfl | rfl | rfl | rfl | rfl | rfl <;> simp [partsN] at h ⊢
theorem no_field1 {k : Int} (hk : kindB k = true) (h : (k == 1) = false ∧ (k == 2) = false ∧ (k == 8) = false ∧ (k == 9) = false) : 3 ∉ partsN k := by
  rcases kind_cases hk with rfl | rfl | rfl | rfl | rfl | rfl | rfl | rfl | rfl | rfl | rfl | rfl | rfl | rfl <;> simp [partsN] at h ⊢
theorem no_field2 {k : Int} (hk : kindB k = true) (h : (k == 1) = false ∧ (k == 2) = false ∧ (k == 8) = false ∧ (k == 9) = false) : 2 ∉ partsN k := by
  rcases kind_cases hk with rfl | rfl | rfl | rfl | rfl | rfl | rfl | rfl | rfl | rfl | rfl | rfl | rfl | rfl <;> simp [partsN] at h ⊢
theorem no_field3 {k : Int} (hk : kindB k = true) (h : (k == 1) = false ∧ (k == 8) = false ∧ (k == 9) = false ∧ (k == 14) = false) : 6 ∉ partsN k := by
  rcases kind_cases hk with rfl | rfl | rfl | rfl | rfl | rfl | rfl | rfl | rfl | rfl | rfl | rfl | rfl | rfl <;> simp [partsN] at h ⊢
theorem no_field4 {k : Int} (hk : kindB k = true) (h : (k == 11) = false ∧ (k == 12) = false) : 7 ∉ partsN k := by
  rcases kind_cases hk with rfl | rfl | rfl | rfl | rfl | rfl | rfl | rfl | rfl | rfl | rfl | rfl | rfl | rfl <;> simp [partsN] at h ⊢
theorem no_field5 {k : Int} (hk : kindB k = true) (h : (k == 11) = false) : 8 ∉ partsN k := by
  rcases kind_cases hk with rfl | rfl | rfl | rfl | rfl | rfl | rfl | rfl | rfl | rfl | rfl | rfl | rfl | rfl <;> simp [partsN] at h ⊢
theorem no_field6 {k : Int} (hk : kindB k = true) (h : (k == 2) = false ∧ (k == 7) = false ∧ (k == 10) = false) : 5 ∉ partsN k := by
  rcases kind_cases hk with rfl | rfl | rfl | rfl | rfl | rfl | rfl | rfl | rfl | rfl | rfl | rfl | rfl | rfl <;> simp [partsN] at h ⊢
theorem no_field7 {k : Int} (hk : kindB k = true) (h : (k == 3) = false ∧ (k == 4) = false ∧ (k == 5) = false ∧ (k == 6) = false) : 4 ∉ partsN k := by
  rcases kind_cases hk with rfl | rfl | rfl | rfl | rfl | rfl | rfl | rfl | rfl | rfl | rfl | rfl | rfl | rfl <;> simp [partsN] at h ⊢

set_option maxHeartbeats 25600000 in
theorem msgSmall_any (m : Mg) (q : Mad) (field : Int) (w : World) (h : MgR AllB w m q) (hwf : m.wf) (hbig : m.big) :
    Calls Try.prog 8 #[.agg #[.int .i64 m.kind, .int .i64 m.view, .int .i64 m.seq, .int .i64 m.client, .int .i64 m.stamp, .int .i64 m.e.c, .int .i64 m.e.s, .int .i64 m.e.t, .slice q.ea m.e.dig.length q.ec, .slice q.ga m.dig.length q.gc, .slice q.da m.data.length q.dc, .slice q.pa m.proof.length q.pc, .slice q.va m.proven.length q.vc], .int .i64 field] w (Tr w) := by
  have hB := (Below.refl w.heap.size w).alloc (Nat.le_refl _) (.cells #[.int .i64 m.kind, .int .i64 m.view, .int .i64 m.seq, .int .i64 m.client, .int .i64 m.stamp, .int .i64 m.e.c, .int .i64 m.e.s, .int .i64 m.e.t, .slice q.ea m.e.dig.length q.ec, .slice q.ga m.dig.length q.gc, .slice q.da m.data.length q.dc, .slice q.pa m.proof.length q.pc, .slice q.va m.proven.length q.vc] 28)
  have HB0 := Lib.hid (hB)
  have HK0 := Lib.hid (Bk.new w 28 [.int .i64 m.kind, .int .i64 m.view, .int .i64 m.seq, .int .i64 m.client, .int .i64 m.stamp, .int .i64 m.e.c, .int .i64 m.e.s, .int .i64 m.e.t, .slice q.ea m.e.dig.length q.ec, .slice q.ga m.dig.length q.gc, .slice q.da m.data.length q.dc, .slice q.pa m.proof.length q.pc, .slice q.va m.proven.length q.vc])
  have HM0 := Lib.hid (h.below hB)
  have HWF := Lib.hid hwf
  have HBIG := Lib.hid hbig
  clear h hwf hbig hB
  go_enter Try.func8, Try.ntmps8
  go_wp2_with fail
  refine (alive_ok _).mono ?_
  rintro e w1 ⟨rfl, hb⟩
  have HB1 := Lib.hid (below_next HB0.out hb HB0.out.size)
  have HK1 := Lib.hid (HK0.out.kept hb)
  have HM1 := Lib.hid (HM0.out.below hb)
  clear hb
  have k0 := HK1.out.at_ (i := 0) rfl
  have k1 := HK1.out.at_ (i := 1) rfl
  have k2 := HK1.out.at_ (i := 2) rfl
  have k3 := HK1.out.at_ (i := 3) rfl
  have k4 := HK1.out.at_ (i := 4) rfl
  have k5 := HK1.out.at_ (i := 5) rfl
  have k6 := HK1.out.at_ (i := 6) rfl
  have k7 := HK1.out.at_ (i := 7) rfl
  have k8 := HK1.out.at_ (i := 8) rfl
  have k9 := HK1.out.at_ (i := 9) rfl
  have k10 := HK1.out.at_ (i := 10) rfl
  have k11 := HK1.out.at_ (i := 11) rfl
  have k12 := HK1.out.at_ (i := 12) rfl
  go_wp2_with fail
  clear k0 k1 k2 k3 k4 k5 k6 k7 k8 k9 k10 k11 k12
  refine (heavy_any m q 20000 _ _ HM1.out).mono ?_
  rintro e w2 ⟨hv, rfl, hb⟩
  have HB2 := Lib.hid (below_next HB1.out hb HB1.out.size)
  have HK2 := Lib.hid (HK1.out.kept hb)
  have HM2 := Lib.hid (HM1.out.below hb)
  clear hb
  cases hv
  rotate_left
  · go_wp2_with fail
    go_ret
    exact ⟨rfl, HB2.out⟩
  have k0 := HK2.out.at_ (i := 0) rfl
  have k1 := HK2.out.at_ (i := 1) rfl
  have k2 := HK2.out.at_ (i := 2) rfl
  have k3 := HK2.out.at_ (i := 3) rfl
  have k4 := HK2.out.at_ (i := 4) rfl
  have k5 := HK2.out.at_ (i := 5) rfl
  have k6 := HK2.out.at_ (i := 6) rfl
  have k7 := HK2.out.at_ (i := 7) rfl
  have k8 := HK2.out.at_ (i := 8) rfl
  have k9 := HK2.out.at_ (i := 9) rfl
  have k10 := HK2.out.at_ (i := 10) rfl
  have k11 := HK2.out.at_ (i := 11) rfl
  have k12 := HK2.out.at_ (i := 12) rfl
  go_wp2_with fail
  clear k0 k1 k2 k3 k4 k5 k6 k7 k8 k9 k10 k11 k12
  refine (copyMsg_any m q _ _ HM2.out HBIG.out).mono ?_
  rintro e w3 ⟨hb, r, rfl, hr⟩
  have HB3 := Lib.hid (below_next HB2.out hb HB2.out.size)
  have HK3 := Lib.hid (HK2.out.kept hb)
  have HM3 := Lib.hid (HM2.out.below hb)
  have HR3 := Lib.hid (hr)
  clear hb hr
  go_wp2_with fail
  refine (encode_any m r _ HR3.out.all HWF.out).mono ?_
  rintro e w4 ⟨hb, A4, n4, c4, rfl, ho⟩
  have HB4 := Lib.hid (below_next HB3.out hb HB3.out.size)
  have HK4 := Lib.hid (HK3.out.kept hb)
  have HM4 := Lib.hid (HM3.out.below hb)
  have hol := ho.len
  clear hb ho
  rcases enc_cases m with ⟨b, he, hkd, hok, hp⟩ | ⟨j, he, hj⟩
  rotate_left
  · have hjb : (((j : Nat) : Int) != 0) = true := by rcases hj with rfl | rfl | rfl <;> rfl
    rw [he]
    go_wp2_with fail
    go_ret
    exact ⟨rfl, HB4.out⟩
  rw [he] at hol
  simp only at hol
  subst hol
  have HKD := Lib.hid hkd
  have HPOS := Lib.hid (pack_pos hp)
  have HREST := Lib.hid (show restOk m (partsN m.kind) = true by unfold Mg.ok at hok; simp only [Bool.and_eq_true] at hok; exact hok.2)
  rw [he]
  clear he hkd hok hp
  have k0 := HK4.out.at_ (i := 0) rfl
  have k1 := HK4.out.at_ (i := 1) rfl
  have k2 := HK4.out.at_ (i := 2) rfl
  have k3 := HK4.out.at_ (i := 3) rfl
  have k4 := HK4.out.at_ (i := 4) rfl
  have k5 := HK4.out.at_ (i := 5) rfl
  have k6 := HK4.out.at_ (i := 6) rfl
  have k7 := HK4.out.at_ (i := 7) rfl
  have k8 := HK4.out.at_ (i := 8) rfl
  have k9 := HK4.out.at_ (i := 9) rfl
  have k10 := HK4.out.at_ (i := 10) rfl
  have k11 := HK4.out.at_ (i := 11) rfl
  have k12 := HK4.out.at_ (i := 12) rfl
  go_wp2_with fail
  clear k0 k1 k2 k3 k4 k5 k6 k7 k8 k9 k10 k11 k12
  refine (copyMsg_any m q _ _ HM4.out HBIG.out).mono ?_
  rintro e w5 ⟨hb, r, rfl, hr⟩
  have HB5 := Lib.hid (below_next HB4.out hb HB4.out.size)
  have HK5 := Lib.hid (HK4.out.kept hb)
  have hal := (Below.refl w5.heap.size w5).alloc (Nat.le_refl _) (.cells #[.int .i64 m.kind, .int .i64 m.view, .int .i64 m.seq, .int .i64 m.client, .int .i64 m.stamp, .int .i64 m.e.c, .int .i64 m.e.s, .int .i64 m.e.t, .slice r.ea m.e.dig.length r.ec, .slice r.ga m.dig.length r.gc, .slice r.da m.data.length r.dc, .slice r.pa m.proof.length r.pc, .slice r.va m.proven.length r.vc] 28)
  have HR5 := Lib.hid ((hr.keep (F' := fun b => b < w5.heap.size) ⟨Nat.le_refl _, fun _ _ _ => rfl⟩ fun b _ hb => hb).below hal)
  have HB6 := Lib.hid (below_next HB5.out hal HB5.out.size)
  have HK6 := Lib.hid (HK5.out.kept hal)
  have HJ6 := Lib.hid (Bk.new w5 28 [.int .i64 m.kind, .int .i64 m.view, .int .i64 m.seq, .int .i64 m.client, .int .i64 m.stamp, .int .i64 m.e.c, .int .i64 m.e.s, .int .i64 m.e.t, .slice r.ea m.e.dig.length r.ec, .slice r.ga m.dig.length r.gc, .slice r.da m.data.length r.dc, .slice r.pa m.proof.length r.pc, .slice r.va m.proven.length r.vc])
  have HSZ := Lib.hid (show w.heap.size ≤ w5.heap.size from by have h1 := HB5.out.size; omega)
  clear hb hr hal
  have HF0 := Lib.hid (fun h => no_field0 HKD.out h)
  have HF1 := Lib.hid (fun h => no_field1 HKD.out h)
  have HF2 := Lib.hid (fun h => no_field2 HKD.out h)
  have HF3 := Lib.hid (fun h => no_field3 HKD.out h)
  have HF4 := Lib.hid (fun h => no_field4 HKD.out h)
  have HF5 := Lib.hid (fun h => no_field5 HKD.out h)
  have HF6 := Lib.hid (fun h => no_field6 HKD.out h)
  have HF7 := Lib.hid (fun h => no_field7 HKD.out h)
  go_upto_region 9 with fail
  obtain ⟨X, hX⟩ : ∃ X, X = w5.alloc (.cells #[.int .i64 m.kind, .int .i64 m.view, .int .i64 m.seq, .int .i64 m.client, .int .i64 m.stamp, .int .i64 m.e.c, .int .i64 m.e.s, .int .i64 m.e.t, .slice r.ea m.e.dig.length r.ec, .slice r.ga m.dig.length r.gc, .slice r.da m.data.length r.dc, .slice r.pa m.proof.length r.pc, .slice r.va m.proven.length r.vc] 28) := ⟨_, rfl⟩
  rw [← hX] at HB6 HK6 HJ6 HR5 ⊢
  clear hX
  by_cases s0 : field = 0
  · subst s0
    have kk0 := HK6.out.at_ (i := 0) rfl
    by_cases g0 : m.kind = 3
    · have b0 : (m.kind == 3) = true := by simpa using g0
      clear g0
      have c1 := HJ6.out.at_ (i := 1) rfl
      have f1 := HJ6.out.frozen 1
      have HBX := Lib.hid (fun v => HB6.out.grown (grown_set (grown_refl X (some w5.heap.size)) 1 v) HB6.out.size (fun g hg => by cases hg; exact HSZ.out))
      go_wp2_with fail
      go_ret
      exact ⟨rfl, HBX.out _⟩
    have b0 : (m.kind == 3) = false := by simpa using g0
    clear g0
    by_cases g1 : m.kind = 4
    · have b1 : (m.kind == 4) = true := by simpa using g1
      clear g1
      have c1 := HJ6.out.at_ (i := 1) rfl
      have f1 := HJ6.out.frozen 1
      have HBX := Lib.hid (fun v => HB6.out.grown (grown_set (grown_refl X (some w5.heap.size)) 1 v) HB6.out.size (fun g hg => by cases hg; exact HSZ.out))
      go_wp2_with fail
      go_ret
      exact ⟨rfl, HBX.out _⟩
    have b1 : (m.kind == 4) = false := by simpa using g1
    clear g1
    by_cases g2 : m.kind = 5
    · have b2 : (m.kind == 5) = true := by simpa using g2
      clear g2
      have c1 := HJ6.out.at_ (i := 1) rfl
      have f1 := HJ6.out.frozen 1
      have HBX := Lib.hid (fun v => HB6.out.grown (grown_set (grown_refl X (some w5.heap.size)) 1 v) HB6.out.size (fun g hg => by cases hg; exact HSZ.out))
      go_wp2_with fail
      go_ret
      exact ⟨rfl, HBX.out _⟩
    have b2 : (m.kind == 5) = false := by simpa using g2
    clear g2
    by_cases g3 : m.kind = 11
    · have b3 : (m.kind == 11) = true := by simpa using g3
      clear g3
      have c1 := HJ6.out.at_ (i := 1) rfl
      have f1 := HJ6.out.frozen 1
      have HBX := Lib.hid (fun v => HB6.out.grown (grown_set (grown_refl X (some w5.heap.size)) 1 v) HB6.out.size (fun g hg => by cases hg; exact HSZ.out))
      go_wp2_with fail
      go_ret
      exact ⟨rfl, HBX.out _⟩
    have b3 : (m.kind == 11) = false := by simpa using g3
    clear g3
    by_cases g4 : m.kind = 12
    · have b4 : (m.kind == 12) = true := by simpa using g4
      clear g4
      have c1 := HJ6.out.at_ (i := 1) rfl
      have f1 := HJ6.out.frozen 1
      have HBX := Lib.hid (fun v => HB6.out.grown (grown_set (grown_refl X (some w5.heap.size)) 1 v) HB6.out.size (fun g hg => by cases hg; exact HSZ.out))
      go_wp2_with fail
      go_ret
      exact ⟨rfl, HBX.out _⟩
    have b4 : (m.kind == 12) = false := by simpa using g4
    clear g4
    have HNP := Lib.hid (HF0.out ⟨b0, b1, b2, b3, b4⟩)
    have hz : m.view = 0 := by have := rest_no HREST.out (p := 0) (by omega) HNP.out; simpa [Mg.partNo] using this
    have HJ2 := Lib.hid (show Bk X w5.heap.size 28 [.int .i64 m.kind, .int .i64 0, .int .i64 m.seq, .int .i64 m.client, .int .i64 m.stamp, .int .i64 m.e.c, .int .i64 m.e.s, .int .i64 m.e.t, .slice r.ea m.e.dig.length r.ec, .slice r.ga m.dig.length r.gc, .slice r.da m.data.length r.dc, .slice r.pa m.proof.length r.pc, .slice r.va m.proven.length r.vc] by have := HJ6.out; rw [hz] at this; exact this)
    clear hz
    have c0 := HJ2.out.at_ (i := 0) rfl
    have c1 := HJ2.out.at_ (i := 1) rfl
    have c2 := HJ2.out.at_ (i := 2) rfl
    have c3 := HJ2.out.at_ (i := 3) rfl
    have c4 := HJ2.out.at_ (i := 4) rfl
    have c5 := HJ2.out.at_ (i := 5) rfl
    have c6 := HJ2.out.at_ (i := 6) rfl
    have c7 := HJ2.out.at_ (i := 7) rfl
    have c8 := HJ2.out.at_ (i := 8) rfl
    have c9 := HJ2.out.at_ (i := 9) rfl
    have c10 := HJ2.out.at_ (i := 10) rfl
    have c11 := HJ2.out.at_ (i := 11) rfl
    have c12 := HJ2.out.at_ (i := 12) rfl
    have f1 := HJ2.out.frozen 1
    have gr := grown_set (grown_refl X (some w5.heap.size)) 1 (.int .i64 1)
    have HBX := Lib.hid (HB6.out.grown gr HB6.out.size (fun g hg => by cases hg; exact HSZ.out))
    have hrx := HR5.out.keep (F' := AllB) (Kp.of_grown gr fun b hb e => by injection e with e; omega) fun _ _ _ => trivial
    have HRX := Lib.hid (show MgR AllB (X.setCell ⟨w5.heap.size, 1, none⟩ (.int .i64 1)) ({ m with view := 1 } : Mg) r from ⟨hrx.e, hrx.g, hrx.d, hrx.p, hrx.v⟩)
    have HWX := Lib.hid (show ({ m with view := 1 } : Mg).wf by
      have z1 : I64 1 := by unfold I64; omega
      have z0 : I64 (-1) := by unfold I64; omega
      have z2 : I64 0 := by unfold I64; omega
      obtain ⟨a1, a2, a3, a4, a5, a6, a7⟩ := HWF.out
      exact ⟨z1, a2, a3, a4, a5, a6, a7⟩)
    have HNO := Lib.hid (small_no (n := ({ m with view := 1 } : Mg)) HKD.out rfl (p := 0) (by omega) HNP.out (by rfl))
    clear gr hrx
    go_wp2_with fail
    refine (encode_any ({ m with view := 1 } : Mg) r _ HRX.out HWX.out).mono ?_
    rw [HNO.out]
    rintro e w9 ⟨hb, A9, n9, c9, rfl, ho⟩
    obtain rfl : 0 = n9 := ho.len
    have HBZ := Lib.hid (below_next HBX.out hb HBX.out.size)
    clear hb ho
    go_wp2_with fail
    go_ret
    exact ⟨rfl, HBZ.out⟩
  have t0 : (field == 0) = false := by simpa using s0
  clear s0
  by_cases s1 : field = 1
  · subst s1
    have kk0 := HK6.out.at_ (i := 0) rfl
    by_cases g0 : m.kind = 1
    · have b0 : (m.kind == 1) = true := by simpa using g0
      clear g0
      have c4 := HJ6.out.at_ (i := 4) rfl
      have f4 := HJ6.out.frozen 4
      have HBX := Lib.hid (fun v => HB6.out.grown (grown_set (grown_refl X (some w5.heap.size)) 4 v) HB6.out.size (fun g hg => by cases hg; exact HSZ.out))
      go_wp2_with fail
      go_ret
      exact ⟨rfl, HBX.out _⟩
    have b0 : (m.kind == 1) = false := by simpa using g0
    clear g0
    by_cases g1 : m.kind = 2
    · have b1 : (m.kind == 2) = true := by simpa using g1
      clear g1
      have c4 := HJ6.out.at_ (i := 4) rfl
      have f4 := HJ6.out.frozen 4
      have HBX := Lib.hid (fun v => HB6.out.grown (grown_set (grown_refl X (some w5.heap.size)) 4 v) HB6.out.size (fun g hg => by cases hg; exact HSZ.out))
      go_wp2_with fail
      go_ret
      exact ⟨rfl, HBX.out _⟩
    have b1 : (m.kind == 2) = false := by simpa using g1
    clear g1
    by_cases g2 : m.kind = 8
    · have b2 : (m.kind == 8) = true := by simpa using g2
      clear g2
      have c4 := HJ6.out.at_ (i := 4) rfl
      have f4 := HJ6.out.frozen 4
      have HBX := Lib.hid (fun v => HB6.out.grown (grown_set (grown_refl X (some w5.heap.size)) 4 v) HB6.out.size (fun g hg => by cases hg; exact HSZ.out))
      go_wp2_with fail
      go_ret
      exact ⟨rfl, HBX.out _⟩
    have b2 : (m.kind == 8) = false := by simpa using g2
    clear g2
    by_cases g3 : m.kind = 9
    · have b3 : (m.kind == 9) = true := by simpa using g3
      clear g3
      have c4 := HJ6.out.at_ (i := 4) rfl
      have f4 := HJ6.out.frozen 4
      have HBX := Lib.hid (fun v => HB6.out.grown (grown_set (grown_refl X (some w5.heap.size)) 4 v) HB6.out.size (fun g hg => by cases hg; exact HSZ.out))
      go_wp2_with fail
      go_ret
      exact ⟨rfl, HBX.out _⟩
    have b3 : (m.kind == 9) = false := by simpa using g3
    clear g3
    have HNP := Lib.hid (HF1.out ⟨b0, b1, b2, b3⟩)
    have hz : m.stamp = 0 := by have := rest_no HREST.out (p := 3) (by omega) HNP.out; simpa [Mg.partNo] using this
    have HJ2 := Lib.hid (show Bk X w5.heap.size 28 [.int .i64 m.kind, .int .i64 m.view, .int .i64 m.seq, .int .i64 m.client, .int .i64 0, .int .i64 m.e.c, .int .i64 m.e.s, .int .i64 m.e.t, .slice r.ea m.e.dig.length r.ec, .slice r.ga m.dig.length r.gc, .slice r.da m.data.length r.dc, .slice r.pa m.proof.length r.pc, .slice r.va m.proven.length r.vc] by have := HJ6.out; rw [hz] at this; exact this)
    clear hz
    have c0 := HJ2.out.at_ (i := 0) rfl
    have c1 := HJ2.out.at_ (i := 1) rfl
    have c2 := HJ2.out.at_ (i := 2) rfl
    have c3 := HJ2.out.at_ (i := 3) rfl
    have c4 := HJ2.out.at_ (i := 4) rfl
    have c5 := HJ2.out.at_ (i := 5) rfl
    have c6 := HJ2.out.at_ (i := 6) rfl
    have c7 := HJ2.out.at_ (i := 7) rfl
    have c8 := HJ2.out.at_ (i := 8) rfl
    have c9 := HJ2.out.at_ (i := 9) rfl
    have c10 := HJ2.out.at_ (i := 10) rfl
    have c11 := HJ2.out.at_ (i := 11) rfl
    have c12 := HJ2.out.at_ (i := 12) rfl
    have f4 := HJ2.out.frozen 4
    have gr := grown_set (grown_refl X (some w5.heap.size)) 4 (.int .i64 1)
    have HBX := Lib.hid (HB6.out.grown gr HB6.out.size (fun g hg => by cases hg; exact HSZ.out))
    have hrx := HR5.out.keep (F' := AllB) (Kp.of_grown gr fun b hb e => by injection e with e; omega) fun _ _ _ => trivial
    have HRX := Lib.hid (show MgR AllB (X.setCell ⟨w5.heap.size, 4, none⟩ (.int .i64 1)) ({ m with stamp := 1 } : Mg) r from ⟨hrx.e, hrx.g, hrx.d, hrx.p, hrx.v⟩)
    have HWX := Lib.hid (show ({ m with stamp := 1 } : Mg).wf by
      have z1 : I64 1 := by unfold I64; omega
      have z0 : I64 (-1) := by unfold I64; omega
      have z2 : I64 0 := by unfold I64; omega
      obtain ⟨a1, a2, a3, a4, a5, a6, a7⟩ := HWF.out
      exact ⟨a1, a2, a3, z1, a5, a6, a7⟩)
    have HNO := Lib.hid (small_no (n := ({ m with stamp := 1 } : Mg)) HKD.out rfl (p := 3) (by omega) HNP.out (by rfl))
    clear gr hrx
    go_wp2_with fail
    refine (encode_any ({ m with stamp := 1 } : Mg) r _ HRX.out HWX.out).mono ?_
    rw [HNO.out]
    rintro e w9 ⟨hb, A9, n9, c9, rfl, ho⟩
    obtain rfl : 0 = n9 := ho.len
    have HBZ := Lib.hid (below_next HBX.out hb HBX.out.size)
    clear hb ho
    go_wp2_with fail
    go_ret
    exact ⟨rfl, HBZ.out⟩
  have t1 : (field == 1) = false := by simpa using s1
  clear s1
  by_cases s2 : field = 2
  · subst s2
    have kk0 := HK6.out.at_ (i := 0) rfl
    by_cases g0 : m.kind = 1
    · have b0 : (m.kind == 1) = true := by simpa using g0
      clear g0
      have c3 := HJ6.out.at_ (i := 3) rfl
      have f3 := HJ6.out.frozen 3
      have gr := grown_set (grown_refl X (some w5.heap.size)) 3 (.int .i64 1)
      have HBX := Lib.hid (HB6.out.grown gr HB6.out.size (fun g hg => by cases hg; exact HSZ.out))
      clear gr
      go_wp2_with fail
      go_ret
      exact ⟨rfl, HBX.out⟩
    have b0 : (m.kind == 1) = false := by simpa using g0
    clear g0
    by_cases g1 : m.kind = 2
    · have b1 : (m.kind == 2) = true := by simpa using g1
      clear g1
      have c3 := HJ6.out.at_ (i := 3) rfl
      have f3 := HJ6.out.frozen 3
      have gr := grown_set (grown_refl X (some w5.heap.size)) 3 (.int .i64 1)
      have HBX := Lib.hid (HB6.out.grown gr HB6.out.size (fun g hg => by cases hg; exact HSZ.out))
      clear gr
      go_wp2_with fail
      go_ret
      exact ⟨rfl, HBX.out⟩
    have b1 : (m.kind == 2) = false := by simpa using g1
    clear g1
    by_cases g2 : m.kind = 8
    · have b2 : (m.kind == 8) = true := by simpa using g2
      clear g2
      have c3 := HJ6.out.at_ (i := 3) rfl
      have f3 := HJ6.out.frozen 3
      have gr := grown_set (grown_refl X (some w5.heap.size)) 3 (.int .i64 1)
      have HBX := Lib.hid (HB6.out.grown gr HB6.out.size (fun g hg => by cases hg; exact HSZ.out))
      clear gr
      go_wp2_with fail
      go_ret
      exact ⟨rfl, HBX.out⟩
    have b2 : (m.kind == 8) = false := by simpa using g2
    clear g2
    by_cases g3 : m.kind = 9
    · have b3 : (m.kind == 9) = true := by simpa using g3
      clear g3
      have c3 := HJ6.out.at_ (i := 3) rfl
      have f3 := HJ6.out.frozen 3
      have gr := grown_set (grown_refl X (some w5.heap.size)) 3 (.int .i64 1)
      have HBX := Lib.hid (HB6.out.grown gr HB6.out.size (fun g hg => by cases hg; exact HSZ.out))
      clear gr
      go_wp2_with fail
      go_ret
      exact ⟨rfl, HBX.out⟩
    have b3 : (m.kind == 9) = false := by simpa using g3
    clear g3
    have HNP := Lib.hid (HF2.out ⟨b0, b1, b2, b3⟩)
    have c0 := HJ6.out.at_ (i := 0) rfl
    have c1 := HJ6.out.at_ (i := 1) rfl
    have c2 := HJ6.out.at_ (i := 2) rfl
    have c3 := HJ6.out.at_ (i := 3) rfl
    have c4 := HJ6.out.at_ (i := 4) rfl
    have c5 := HJ6.out.at_ (i := 5) rfl
    have c6 := HJ6.out.at_ (i := 6) rfl
    have c7 := HJ6.out.at_ (i := 7) rfl
    have c8 := HJ6.out.at_ (i := 8) rfl
    have c9 := HJ6.out.at_ (i := 9) rfl
    have c10 := HJ6.out.at_ (i := 10) rfl
    have c11 := HJ6.out.at_ (i := 11) rfl
    have c12 := HJ6.out.at_ (i := 12) rfl
    have f3 := HJ6.out.frozen 3
    have gr := grown_set (grown_refl X (some w5.heap.size)) 3 (.int .i64 1)
    have HBX := Lib.hid (HB6.out.grown gr HB6.out.size (fun g hg => by cases hg; exact HSZ.out))
    have hrx := HR5.out.keep (F' := AllB) (Kp.of_grown gr fun b hb e => by injection e with e; omega) fun _ _ _ => trivial
    have HRX := Lib.hid (show MgR AllB (X.setCell ⟨w5.heap.size, 3, none⟩ (.int .i64 1)) ({ m with client := 1 } : Mg) r from ⟨hrx.e, hrx.g, hrx.d, hrx.p, hrx.v⟩)
    have HWX := Lib.hid (show ({ m with client := 1 } : Mg).wf by
      have z1 : I64 1 := by unfold I64; omega
      have z0 : I64 (-1) := by unfold I64; omega
      have z2 : I64 0 := by unfold I64; omega
      obtain ⟨a1, a2, a3, a4, a5, a6, a7⟩ := HWF.out
      exact ⟨a1, a2, z1, a4, a5, a6, a7⟩)
    have HNO := Lib.hid (small_no (n := ({ m with client := 1 } : Mg)) HKD.out rfl (p := 2) (by omega) HNP.out (by rfl))
    clear gr hrx
    go_wp2_with fail
    refine (encode_any ({ m with client := 1 } : Mg) r _ HRX.out HWX.out).mono ?_
    rw [HNO.out]
    rintro e w9 ⟨hb, A9, n9, c9, rfl, ho⟩
    obtain rfl : 0 = n9 := ho.len
    have HBZ := Lib.hid (below_next HBX.out hb HBX.out.size)
    clear hb ho
    go_wp2_with fail
    go_ret
    exact ⟨rfl, HBZ.out⟩
  have t2 : (field == 2) = false := by simpa using s2
  clear s2
  by_cases s3 : field = 3
  · subst s3
    have kk0 := HK6.out.at_ (i := 0) rfl
    by_cases g0 : m.kind = 1
    · have b0 : (m.kind == 1) = true := by simpa using g0
      clear g0
      have hal := (Below.refl X.heap.size X).alloc (Nat.le_refl _) (.cells #[.int .u8 120] 5 (1, 2))
      have HJ3 := Lib.hid (HJ6.out.kept hal)
      have kc := conv_const X X.heap.size rfl #[.int .u8 120] 1 1
      have c10 := HJ3.out.at_ (i := 10) rfl
      have f10 := HJ3.out.frozen 10
      have gr := grown_set (grown_refl (X.alloc (.cells #[.int .u8 120] 5 (1, 2))) (some w5.heap.size)) 10 (.slice (some ⟨X.heap.size, 0, none⟩) 1 1)
      have HBX := Lib.hid ((HB6.out.alloc HB6.out.size (.cells #[.int .u8 120] 5 (1, 2))).grown gr (by have := HB6.out.size; simp; omega) (fun g hg => by cases hg; exact HSZ.out))
      clear gr hal
      go_wp2_with fail
      go_ret
      exact ⟨rfl, HBX.out⟩
    have b0 : (m.kind == 1) = false := by simpa using g0
    clear g0
    by_cases g1 : m.kind = 8
    · have b1 : (m.kind == 8) = true := by simpa using g1
      clear g1
      have hal := (Below.refl X.heap.size X).alloc (Nat.le_refl _) (.cells #[.int .u8 120] 5 (1, 2))
      have HJ3 := Lib.hid (HJ6.out.kept hal)
      have kc := conv_const X X.heap.size rfl #[.int .u8 120] 1 1
      have c10 := HJ3.out.at_ (i := 10) rfl
      have f10 := HJ3.out.frozen 10
      have gr := grown_set (grown_refl (X.alloc (.cells #[.int .u8 120] 5 (1, 2))) (some w5.heap.size)) 10 (.slice (some ⟨X.heap.size, 0, none⟩) 1 1)
      have HBX := Lib.hid ((HB6.out.alloc HB6.out.size (.cells #[.int .u8 120] 5 (1, 2))).grown gr (by have := HB6.out.size; simp; omega) (fun g hg => by cases hg; exact HSZ.out))
      clear gr hal
      go_wp2_with fail
      go_ret
      exact ⟨rfl, HBX.out⟩
    have b1 : (m.kind == 8) = false := by simpa using g1
    clear g1
    by_cases g2 : m.kind = 9
    · have b2 : (m.kind == 9) = true := by simpa using g2
      clear g2
      have hal := (Below.refl X.heap.size X).alloc (Nat.le_refl _) (.cells #[.int .u8 120] 5 (1, 2))
      have HJ3 := Lib.hid (HJ6.out.kept hal)
      have kc := conv_const X X.heap.size rfl #[.int .u8 120] 1 1
      have c10 := HJ3.out.at_ (i := 10) rfl
      have f10 := HJ3.out.frozen 10
      have gr := grown_set (grown_refl (X.alloc (.cells #[.int .u8 120] 5 (1, 2))) (some w5.heap.size)) 10 (.slice (some ⟨X.heap.size, 0, none⟩) 1 1)
      have HBX := Lib.hid ((HB6.out.alloc HB6.out.size (.cells #[.int .u8 120] 5 (1, 2))).grown gr (by have := HB6.out.size; simp; omega) (fun g hg => by cases hg; exact HSZ.out))
      clear gr hal
      go_wp2_with fail
      go_ret
      exact ⟨rfl, HBX.out⟩
    have b2 : (m.kind == 9) = false := by simpa using g2
    clear g2
    by_cases g3 : m.kind = 14
    · have b3 : (m.kind == 14) = true := by simpa using g3
      clear g3
      have hal := (Below.refl X.heap.size X).alloc (Nat.le_refl _) (.cells #[.int .u8 120] 5 (1, 2))
      have HJ3 := Lib.hid (HJ6.out.kept hal)
      have kc := conv_const X X.heap.size rfl #[.int .u8 120] 1 1
      have c10 := HJ3.out.at_ (i := 10) rfl
      have f10 := HJ3.out.frozen 10
      have gr := grown_set (grown_refl (X.alloc (.cells #[.int .u8 120] 5 (1, 2))) (some w5.heap.size)) 10 (.slice (some ⟨X.heap.size, 0, none⟩) 1 1)
      have HBX := Lib.hid ((HB6.out.alloc HB6.out.size (.cells #[.int .u8 120] 5 (1, 2))).grown gr (by have := HB6.out.size; simp; omega) (fun g hg => by cases hg; exact HSZ.out))
      clear gr hal
      go_wp2_with fail
      go_ret
      exact ⟨rfl, HBX.out⟩
    have b3 : (m.kind == 14) = false := by simpa using g3
    clear g3
    have HNP := Lib.hid (HF3.out ⟨b0, b1, b2, b3⟩)
    have hal := (Below.refl X.heap.size X).alloc (Nat.le_refl _) (.cells #[.int .u8 120] 5 (1, 2))
    have HJ3 := Lib.hid (HJ6.out.kept hal)
    have kc := conv_const X X.heap.size rfl #[.int .u8 120] 1 1
    have c0 := HJ3.out.at_ (i := 0) rfl
    have c1 := HJ3.out.at_ (i := 1) rfl
    have c2 := HJ3.out.at_ (i := 2) rfl
    have c3 := HJ3.out.at_ (i := 3) rfl
    have c4 := HJ3.out.at_ (i := 4) rfl
    have c5 := HJ3.out.at_ (i := 5) rfl
    have c6 := HJ3.out.at_ (i := 6) rfl
    have c7 := HJ3.out.at_ (i := 7) rfl
    have c8 := HJ3.out.at_ (i := 8) rfl
    have c9 := HJ3.out.at_ (i := 9) rfl
    have c10 := HJ3.out.at_ (i := 10) rfl
    have c11 := HJ3.out.at_ (i := 11) rfl
    have c12 := HJ3.out.at_ (i := 12) rfl
    have f10 := HJ3.out.frozen 10
    have gr := grown_set (grown_refl (X.alloc (.cells #[.int .u8 120] 5 (1, 2))) (some w5.heap.size)) 10 (.slice (some ⟨X.heap.size, 0, none⟩) 1 1)
    have HBX := Lib.hid ((HB6.out.alloc HB6.out.size (.cells #[.int .u8 120] 5 (1, 2))).grown gr (by have := HB6.out.size; simp; omega) (fun g hg => by cases hg; exact HSZ.out))
    have hrx := (HR5.out.below hal).keep (F' := AllB) (Kp.of_grown gr fun b hb e => by injection e with e; omega) fun _ _ _ => trivial
    have hjl := HJ6.out.lt
    have hnx := (show BF (fun b => b = X.heap.size) (X.alloc (.cells #[.int .u8 120] 5 (1, 2))) (some ⟨X.heap.size, 0, none⟩) 1 [120] from ⟨Sl.marked X [120] (1, 2) (by simp [maxLen]), fun a e _ => by injection e with e; rw [← e]⟩).keep (F' := AllB) (Kp.of_grown gr fun b hb e => by injection e with e; omega) fun _ _ _ => trivial
    have HRX := Lib.hid (show MgR AllB ((X.alloc (.cells #[.int .u8 120] 5 (1, 2))).setCell ⟨w5.heap.size, 10, none⟩ (.slice (some ⟨X.heap.size, 0, none⟩) 1 1)) ({ m with data := [120] } : Mg) ({ r with da := some ⟨X.heap.size, 0, none⟩, dc := 1 } : Mad) from ⟨hrx.e, hrx.g, hnx, hrx.p, hrx.v⟩)
    have HWX := Lib.hid (show ({ m with data := [120] } : Mg).wf by
      have z1 : I64 1 := by unfold I64; omega
      have z0 : I64 (-1) := by unfold I64; omega
      have z2 : I64 0 := by unfold I64; omega
      obtain ⟨a1, a2, a3, a4, a5, a6, a7⟩ := HWF.out
      exact ⟨a1, a2, a3, a4, a5, a6, a7⟩)
    have HNO := Lib.hid (small_no (n := ({ m with data := [120] } : Mg)) HKD.out rfl (p := 6) (by omega) HNP.out (by rfl))
    clear gr hrx hal hnx hjl
    go_wp2_with fail
    refine (encode_any ({ m with data := [120] } : Mg) ({ r with da := some ⟨X.heap.size, 0, none⟩, dc := 1 } : Mad) _ HRX.out HWX.out).mono ?_
    rw [HNO.out]
    rintro e w9 ⟨hb, A9, n9, c9, rfl, ho⟩
    obtain rfl : 0 = n9 := ho.len
    have HBZ := Lib.hid (below_next HBX.out hb HBX.out.size)
    clear hb ho
    go_wp2_with fail
    go_ret
    exact ⟨rfl, HBZ.out⟩
  have t3 : (field == 3) = false := by simpa using s3
  clear s3
  by_cases s4 : field = 4
  · subst s4
    have kk0 := HK6.out.at_ (i := 0) rfl
    by_cases g0 : m.kind = 11
    · have b0 : (m.kind == 11) = true := by simpa using g0
      clear g0
      have hal := (Below.refl X.heap.size X).alloc (Nat.le_refl _) (.cells #[.int .i64 1, .int .i64 0, .int .i64 1, .slice none 0 0, .slice none 0 0] 46)
      have HJ3 := Lib.hid (HJ6.out.kept hal)
      have c11 := HJ3.out.at_ (i := 11) rfl
      have f11 := HJ3.out.frozen 11
      have gr := grown_set (grown_refl (X.alloc (.cells #[.int .i64 1, .int .i64 0, .int .i64 1, .slice none 0 0, .slice none 0 0] 46)) (some w5.heap.size)) 11 (.slice (some ⟨X.heap.size, 0, none⟩) 1 1)
      have HBX := Lib.hid ((HB6.out.alloc HB6.out.size (.cells #[.int .i64 1, .int .i64 0, .int .i64 1, .slice none 0 0, .slice none 0 0] 46)).grown gr (by have := HB6.out.size; simp; omega) (fun g hg => by cases hg; exact HSZ.out))
      clear gr hal
      go_wp2_with fail
      go_ret
      exact ⟨rfl, HBX.out⟩
    have b0 : (m.kind == 11) = false := by simpa using g0
    clear g0
    by_cases g1 : m.kind = 12
    · have b1 : (m.kind == 12) = true := by simpa using g1
      clear g1
      have hal := (Below.refl X.heap.size X).alloc (Nat.le_refl _) (.cells #[.int .i64 1, .int .i64 0, .int .i64 1, .slice none 0 0, .slice none 0 0] 46)
      have HJ3 := Lib.hid (HJ6.out.kept hal)
      have c11 := HJ3.out.at_ (i := 11) rfl
      have f11 := HJ3.out.frozen 11
      have gr := grown_set (grown_refl (X.alloc (.cells #[.int .i64 1, .int .i64 0, .int .i64 1, .slice none 0 0, .slice none 0 0] 46)) (some w5.heap.size)) 11 (.slice (some ⟨X.heap.size, 0, none⟩) 1 1)
      have HBX := Lib.hid ((HB6.out.alloc HB6.out.size (.cells #[.int .i64 1, .int .i64 0, .int .i64 1, .slice none 0 0, .slice none 0 0] 46)).grown gr (by have := HB6.out.size; simp; omega) (fun g hg => by cases hg; exact HSZ.out))
      clear gr hal
      go_wp2_with fail
      go_ret
      exact ⟨rfl, HBX.out⟩
    have b1 : (m.kind == 12) = false := by simpa using g1
    clear g1
    have HNP := Lib.hid (HF4.out ⟨b0, b1⟩)
    have hal := (Below.refl X.heap.size X).alloc (Nat.le_refl _) (.cells #[.int .i64 1, .int .i64 0, .int .i64 1, .slice none 0 0, .slice none 0 0] 46)
    have HJ3 := Lib.hid (HJ6.out.kept hal)
    have c0 := HJ3.out.at_ (i := 0) rfl
    have c1 := HJ3.out.at_ (i := 1) rfl
    have c2 := HJ3.out.at_ (i := 2) rfl
    have c3 := HJ3.out.at_ (i := 3) rfl
    have c4 := HJ3.out.at_ (i := 4) rfl
    have c5 := HJ3.out.at_ (i := 5) rfl
    have c6 := HJ3.out.at_ (i := 6) rfl
    have c7 := HJ3.out.at_ (i := 7) rfl
    have c8 := HJ3.out.at_ (i := 8) rfl
    have c9 := HJ3.out.at_ (i := 9) rfl
    have c10 := HJ3.out.at_ (i := 10) rfl
    have c11 := HJ3.out.at_ (i := 11) rfl
    have c12 := HJ3.out.at_ (i := 12) rfl
    have f11 := HJ3.out.frozen 11
    have gr := grown_set (grown_refl (X.alloc (.cells #[.int .i64 1, .int .i64 0, .int .i64 1, .slice none 0 0, .slice none 0 0] 46)) (some w5.heap.size)) 11 (.slice (some ⟨X.heap.size, 0, none⟩) 1 1)
    have HBX := Lib.hid ((HB6.out.alloc HB6.out.size (.cells #[.int .i64 1, .int .i64 0, .int .i64 1, .slice none 0 0, .slice none 0 0] 46)).grown gr (by have := HB6.out.size; simp; omega) (fun g hg => by cases hg; exact HSZ.out))
    have hrx := (HR5.out.below hal).keep (F' := AllB) (Kp.of_grown gr fun b hb e => by injection e with e; omega) fun _ _ _ => trivial
    have hjl := HJ6.out.lt
    have hnx := (show RdS RLt (fun b => b = X.heap.size) (X.alloc (.cells #[.int .i64 1, .int .i64 0, .int .i64 1, .slice none 0 0, .slice none 0 0] 46)) (some ⟨X.heap.size, 0, none⟩) 1 [ltOne] from rds_one RLt X [.int .i64 1, .int .i64 0, .int .i64 1, .slice none 0 0, .slice none 0 0] ltOne 46 ⟨none, 0, none, 0, rfl, BF.nil_ _ _, RdS.nil_ _ _ _⟩).keep (F' := AllB) (Kp.of_grown gr fun b hb e => by injection e with e; omega) fun _ _ _ => trivial
    have HRX := Lib.hid (show MgR AllB ((X.alloc (.cells #[.int .i64 1, .int .i64 0, .int .i64 1, .slice none 0 0, .slice none 0 0] 46)).setCell ⟨w5.heap.size, 11, none⟩ (.slice (some ⟨X.heap.size, 0, none⟩) 1 1)) ({ m with proof := [ltOne] } : Mg) ({ r with pa := some ⟨X.heap.size, 0, none⟩, pc := 1 } : Mad) from ⟨hrx.e, hrx.g, hrx.d, hnx, hrx.v⟩)
    have HWX := Lib.hid (show ({ m with proof := [ltOne] } : Mg).wf by
      have z1 : I64 1 := by unfold I64; omega
      have z0 : I64 (-1) := by unfold I64; omega
      have z2 : I64 0 := by unfold I64; omega
      obtain ⟨a1, a2, a3, a4, a5, a6, a7⟩ := HWF.out
      exact ⟨a1, a2, a3, a4, a5, a6, a7⟩)
    have HNO := Lib.hid (small_no (n := ({ m with proof := [ltOne] } : Mg)) HKD.out rfl (p := 7) (by omega) HNP.out (by rfl))
    clear gr hrx hal hnx hjl
    go_wp2_with fail
    refine (encode_any ({ m with proof := [ltOne] } : Mg) ({ r with pa := some ⟨X.heap.size, 0, none⟩, pc := 1 } : Mad) _ HRX.out HWX.out).mono ?_
    rw [HNO.out]
    rintro e w9 ⟨hb, A9, n9, c9, rfl, ho⟩
    obtain rfl : 0 = n9 := ho.len
    have HBZ := Lib.hid (below_next HBX.out hb HBX.out.size)
    clear hb ho
    go_wp2_with fail
    go_ret
    exact ⟨rfl, HBZ.out⟩
  have t4 : (field == 4) = false := by simpa using s4
  clear s4
  by_cases s5 : field = 5
  · subst s5
    have kk0 := HK6.out.at_ (i := 0) rfl
    by_cases g0 : m.kind = 11
    · have b0 : (m.kind == 11) = true := by simpa using g0
      clear g0
      have hal := (Below.refl X.heap.size X).alloc (Nat.le_refl _) (.cells #[.int .i64 0, .int .i64 0, .int .i64 (-1), .int .i64 0, .int .i64 0, .slice none 0 0, .slice none 0 0] 62)
      have HJ3 := Lib.hid (HJ6.out.kept hal)
      have c12 := HJ3.out.at_ (i := 12) rfl
      have f12 := HJ3.out.frozen 12
      have gr := grown_set (grown_refl (X.alloc (.cells #[.int .i64 0, .int .i64 0, .int .i64 (-1), .int .i64 0, .int .i64 0, .slice none 0 0, .slice none 0 0] 62)) (some w5.heap.size)) 12 (.slice (some ⟨X.heap.size, 0, none⟩) 1 1)
      have HBX := Lib.hid ((HB6.out.alloc HB6.out.size (.cells #[.int .i64 0, .int .i64 0, .int .i64 (-1), .int .i64 0, .int .i64 0, .slice none 0 0, .slice none 0 0] 62)).grown gr (by have := HB6.out.size; simp; omega) (fun g hg => by cases hg; exact HSZ.out))
      clear gr hal
      go_wp2_with fail
      go_ret
      exact ⟨rfl, HBX.out⟩
    have b0 : (m.kind == 11) = false := by simpa using g0
    clear g0
    have HNP := Lib.hid (HF5.out b0)
    have hal := (Below.refl X.heap.size X).alloc (Nat.le_refl _) (.cells #[.int .i64 0, .int .i64 0, .int .i64 (-1), .int .i64 0, .int .i64 0, .slice none 0 0, .slice none 0 0] 62)
    have HJ3 := Lib.hid (HJ6.out.kept hal)
    have c0 := HJ3.out.at_ (i := 0) rfl
    have c1 := HJ3.out.at_ (i := 1) rfl
    have c2 := HJ3.out.at_ (i := 2) rfl
    have c3 := HJ3.out.at_ (i := 3) rfl
    have c4 := HJ3.out.at_ (i := 4) rfl
    have c5 := HJ3.out.at_ (i := 5) rfl
    have c6 := HJ3.out.at_ (i := 6) rfl
    have c7 := HJ3.out.at_ (i := 7) rfl
    have c8 := HJ3.out.at_ (i := 8) rfl
    have c9 := HJ3.out.at_ (i := 9) rfl
    have c10 := HJ3.out.at_ (i := 10) rfl
    have c11 := HJ3.out.at_ (i := 11) rfl
    have c12 := HJ3.out.at_ (i := 12) rfl
    have f12 := HJ3.out.frozen 12
    have gr := grown_set (grown_refl (X.alloc (.cells #[.int .i64 0, .int .i64 0, .int .i64 (-1), .int .i64 0, .int .i64 0, .slice none 0 0, .slice none 0 0] 62)) (some w5.heap.size)) 12 (.slice (some ⟨X.heap.size, 0, none⟩) 1 1)
    have HBX := Lib.hid ((HB6.out.alloc HB6.out.size (.cells #[.int .i64 0, .int .i64 0, .int .i64 (-1), .int .i64 0, .int .i64 0, .slice none 0 0, .slice none 0 0] 62)).grown gr (by have := HB6.out.size; simp; omega) (fun g hg => by cases hg; exact HSZ.out))
    have hrx := (HR5.out.below hal).keep (F' := AllB) (Kp.of_grown gr fun b hb e => by injection e with e; omega) fun _ _ _ => trivial
    have hjl := HJ6.out.lt
    have hnx := (show RdS RPv (fun b => b = X.heap.size) (X.alloc (.cells #[.int .i64 0, .int .i64 0, .int .i64 (-1), .int .i64 0, .int .i64 0, .slice none 0 0, .slice none 0 0] 62)) (some ⟨X.heap.size, 0, none⟩) 1 [pvOne] from rds_one RPv X [.int .i64 0, .int .i64 0, .int .i64 (-1), .int .i64 0, .int .i64 0, .slice none 0 0, .slice none 0 0] pvOne 62 ⟨none, 0, none, 0, rfl, BF.nil_ _ _, RdS.nil_ _ _ _⟩).keep (F' := AllB) (Kp.of_grown gr fun b hb e => by injection e with e; omega) fun _ _ _ => trivial
    have HRX := Lib.hid (show MgR AllB ((X.alloc (.cells #[.int .i64 0, .int .i64 0, .int .i64 (-1), .int .i64 0, .int .i64 0, .slice none 0 0, .slice none 0 0] 62)).setCell ⟨w5.heap.size, 12, none⟩ (.slice (some ⟨X.heap.size, 0, none⟩) 1 1)) ({ m with proven := [pvOne] } : Mg) ({ r with va := some ⟨X.heap.size, 0, none⟩, vc := 1 } : Mad) from ⟨hrx.e, hrx.g, hrx.d, hrx.p, hnx⟩)
    have HWX := Lib.hid (show ({ m with proven := [pvOne] } : Mg).wf by
      have z1 : I64 1 := by unfold I64; omega
      have z0 : I64 (-1) := by unfold I64; omega
      have z2 : I64 0 := by unfold I64; omega
      obtain ⟨a1, a2, a3, a4, a5, a6, a7⟩ := HWF.out
      exact ⟨a1, a2, a3, a4, a5, a6, a7⟩)
    have HNO := Lib.hid (small_no (n := ({ m with proven := [pvOne] } : Mg)) HKD.out rfl (p := 8) (by omega) HNP.out (by rfl))
    clear gr hrx hal hnx hjl
    go_wp2_with fail
    refine (encode_any ({ m with proven := [pvOne] } : Mg) ({ r with va := some ⟨X.heap.size, 0, none⟩, vc := 1 } : Mad) _ HRX.out HWX.out).mono ?_
    rw [HNO.out]
    rintro e w9 ⟨hb, A9, n9, c9, rfl, ho⟩
    obtain rfl : 0 = n9 := ho.len
    have HBZ := Lib.hid (below_next HBX.out hb HBX.out.size)
    clear hb ho
    go_wp2_with fail
    go_ret
    exact ⟨rfl, HBZ.out⟩
  have t5 : (field == 5) = false := by simpa using s5
  clear s5
  by_cases s6 : field = 6
  · subst s6
    have kk0 := HK6.out.at_ (i := 0) rfl
    by_cases g0 : m.kind = 2
    · have b0 : (m.kind == 2) = true := by simpa using g0
      clear g0
      have hal := (Below.refl X.heap.size X).alloc (Nat.le_refl _) (.cells #[.int .u8 0, .int .u8 0, .int .u8 0, .int .u8 0, .int .u8 0, .int .u8 0, .int .u8 0, .int .u8 0, .int .u8 0, .int .u8 0, .int .u8 0, .int .u8 0, .int .u8 0, .int .u8 0, .int .u8 0, .int .u8 0, .int .u8 0, .int .u8 0, .int .u8 0, .int .u8 0, .int .u8 0, .int .u8 0, .int .u8 0, .int .u8 0, .int .u8 0, .int .u8 0, .int .u8 0, .int .u8 0, .int .u8 0, .int .u8 0, .int .u8 0, .int .u8 0] 5)
      have HJ3 := Lib.hid (HJ6.out.kept hal)
      have hmk : ∀ w : World, (Instr.makeSlice 22 (.int .i64 32) (.int .i64 32)).run Try.prog w = .ok (.slice (some ⟨w.heap.size, 0, none⟩) 32 32) (w.alloc (.cells #[.int .u8 0, .int .u8 0, .int .u8 0, .int .u8 0, .int .u8 0, .int .u8 0, .int .u8 0, .int .u8 0, .int .u8 0, .int .u8 0, .int .u8 0, .int .u8 0, .int .u8 0, .int .u8 0, .int .u8 0, .int .u8 0, .int .u8 0, .int .u8 0, .int .u8 0, .int .u8 0, .int .u8 0, .int .u8 0, .int .u8 0, .int .u8 0, .int .u8 0, .int .u8 0, .int .u8 0, .int .u8 0, .int .u8 0, .int .u8 0, .int .u8 0, .int .u8 0] 5)) := fun _ => by kernel_rfl
      have c9 := HJ3.out.at_ (i := 9) rfl
      have f9 := HJ3.out.frozen 9
      have gr := grown_set (grown_refl (X.alloc (.cells #[.int .u8 0, .int .u8 0, .int .u8 0, .int .u8 0, .int .u8 0, .int .u8 0, .int .u8 0, .int .u8 0, .int .u8 0, .int .u8 0, .int .u8 0, .int .u8 0, .int .u8 0, .int .u8 0, .int .u8 0, .int .u8 0, .int .u8 0, .int .u8 0, .int .u8 0, .int .u8 0, .int .u8 0, .int .u8 0, .int .u8 0, .int .u8 0, .int .u8 0, .int .u8 0, .int .u8 0, .int .u8 0, .int .u8 0, .int .u8 0, .int .u8 0, .int .u8 0] 5)) (some w5.heap.size)) 9 (.slice (some ⟨X.heap.size, 0, none⟩) 32 32)
      have HBX := Lib.hid ((HB6.out.alloc HB6.out.size (.cells #[.int .u8 0, .int .u8 0, .int .u8 0, .int .u8 0, .int .u8 0, .int .u8 0, .int .u8 0, .int .u8 0, .int .u8 0, .int .u8 0, .int .u8 0, .int .u8 0, .int .u8 0, .int .u8 0, .int .u8 0, .int .u8 0, .int .u8 0, .int .u8 0, .int .u8 0, .int .u8 0, .int .u8 0, .int .u8 0, .int .u8 0, .int .u8 0, .int .u8 0, .int .u8 0, .int .u8 0, .int .u8 0, .int .u8 0, .int .u8 0, .int .u8 0, .int .u8 0] 5)).grown gr (by have := HB6.out.size; simp; omega) (fun g hg => by cases hg; exact HSZ.out))
      clear gr hal
      go_wp2_with fail
      go_ret
      exact ⟨rfl, HBX.out⟩
    have b0 : (m.kind == 2) = false := by simpa using g0
    clear g0
    by_cases g1 : m.kind = 7
    · have b1 : (m.kind == 7) = true := by simpa using g1
      clear g1
      have hal := (Below.refl X.heap.size X).alloc (Nat.le_refl _) (.cells #[.int .u8 0, .int .u8 0, .int .u8 0, .int .u8 0, .int .u8 0, .int .u8 0, .int .u8 0, .int .u8 0, .int .u8 0, .int .u8 0, .int .u8 0, .int .u8 0, .int .u8 0, .int .u8 0, .int .u8 0, .int .u8 0, .int .u8 0, .int .u8 0, .int .u8 0, .int .u8 0, .int .u8 0, .int .u8 0, .int .u8 0, .int .u8 0, .int .u8 0, .int .u8 0, .int .u8 0, .int .u8 0, .int .u8 0, .int .u8 0, .int .u8 0, .int .u8 0] 5)
      have HJ3 := Lib.hid (HJ6.out.kept hal)
      have hmk : ∀ w : World, (Instr.makeSlice 22 (.int .i64 32) (.int .i64 32)).run Try.prog w = .ok (.slice (some ⟨w.heap.size, 0, none⟩) 32 32) (w.alloc (.cells #[.int .u8 0, .int .u8 0, .int .u8 0, .int .u8 0, .int .u8 0, .int .u8 0, .int .u8 0, .int .u8 0, .int .u8 0, .int .u8 0, .int .u8 0, .int .u8 0, .int .u8 0, .int .u8 0, .int .u8 0, .int .u8 0, .int .u8 0, .int .u8 0, .int .u8 0, .int .u8 0, .int .u8 0, .int .u8 0, .int .u8 0, .int .u8 0, .int .u8 0, .int .u8 0, .int .u8 0, .int .u8 0, .int .u8 0, .int .u8 0, .int .u8 0, .int .u8 0] 5)) := fun _ => by kernel_rfl
      have c9 := HJ3.out.at_ (i := 9) rfl
      have f9 := HJ3.out.frozen 9
      have gr := grown_set (grown_refl (X.alloc (.cells #[.int .u8 0, .int .u8 0, .int .u8 0, .int .u8 0, .int .u8 0, .int .u8 0, .int .u8 0, .int .u8 0, .int .u8 0, .int .u8 0, .int .u8 0, .int .u8 0, .int .u8 0, .int .u8 0, .int .u8 0, .int .u8 0, .int .u8 0, .int .u8 0, .int .u8 0, .int .u8 0, .int .u8 0, .int .u8 0, .int .u8 0, .int .u8 0, .int .u8 0, .int .u8 0, .int .u8 0, .int .u8 0, .int .u8 0, .int .u8 0, .int .u8 0, .int .u8 0] 5)) (some w5.heap.size)) 9 (.slice (some ⟨X.heap.size, 0, none⟩) 32 32)
      have HBX := Lib.hid ((HB6.out.alloc HB6.out.size (.cells #[.int .u8 0, .int .u8 0, .int .u8 0, .int .u8 0, .int .u8 0, .int .u8 0, .int .u8 0, .int .u8 0, .int .u8 0, .int .u8 0, .int .u8 0, .int .u8 0, .int .u8 0, .int .u8 0, .int .u8 0, .int .u8 0, .int .u8 0, .int .u8 0, .int .u8 0, .int .u8 0, .int .u8 0, .int .u8 0, .int .u8 0, .int .u8 0, .int .u8 0, .int .u8 0, .int .u8 0, .int .u8 0, .int .u8 0, .int .u8 0, .int .u8 0, .int .u8 0] 5)).grown gr (by have := HB6.out.size; simp; omega) (fun g hg => by cases hg; exact HSZ.out))
      clear gr hal
      go_wp2_with fail
      go_ret
      exact ⟨rfl, HBX.out⟩
    have b1 : (m.kind == 7) = false := by simpa using g1
    clear g1
    by_cases g2 : m.kind = 10
    · have b2 : (m.kind == 10) = true := by simpa using g2
      clear g2
      have hal := (Below.refl X.heap.size X).alloc (Nat.le_refl _) (.cells #[.int .u8 0, .int .u8 0, .int .u8 0, .int .u8 0, .int .u8 0, .int .u8 0, .int .u8 0, .int .u8 0, .int .u8 0, .int .u8 0, .int .u8 0, .int .u8 0, .int .u8 0, .int .u8 0, .int .u8 0, .int .u8 0, .int .u8 0, .int .u8 0, .int .u8 0, .int .u8 0, .int .u8 0, .int .u8 0, .int .u8 0, .int .u8 0, .int .u8 0, .int .u8 0, .int .u8 0, .int .u8 0, .int .u8 0, .int .u8 0, .int .u8 0, .int .u8 0] 5)
      have HJ3 := Lib.hid (HJ6.out.kept hal)
      have hmk : ∀ w : World, (Instr.makeSlice 22 (.int .i64 32) (.int .i64 32)).run Try.prog w = .ok (.slice (some ⟨w.heap.size, 0, none⟩) 32 32) (w.alloc (.cells #[.int .u8 0, .int .u8 0, .int .u8 0, .int .u8 0, .int .u8 0, .int .u8 0, .int .u8 0, .int .u8 0, .int .u8 0, .int .u8 0, .int .u8 0, .int .u8 0, .int .u8 0, .int .u8 0, .int .u8 0, .int .u8 0, .int .u8 0, .int .u8 0, .int .u8 0, .int .u8 0, .int .u8 0, .int .u8 0, .int .u8 0, .int .u8 0, .int .u8 0, .int .u8 0, .int .u8 0, .int .u8 0, .int .u8 0, .int .u8 0, .int .u8 0, .int .u8 0] 5)) := fun _ => by kernel_rfl
      have c9 := HJ3.out.at_ (i := 9) rfl
      have f9 := HJ3.out.frozen 9
      have gr := grown_set (grown_refl (X.alloc (.cells #[.int .u8 0, .int .u8 0, .int .u8 0, .int .u8 0, .int .u8 0, .int .u8 0, .int .u8 0, .int .u8 0, .int .u8 0, .int .u8 0, .int .u8 0, .int .u8 0, .int .u8 0, .int .u8 0, .int .u8 0, .int .u8 0, .int .u8 0, .int .u8 0, .int .u8 0, .int .u8 0, .int .u8 0, .int .u8 0, .int .u8 0, .int .u8 0, .int .u8 0, .int .u8 0, .int .u8 0, .int .u8 0, .int .u8 0, .int .u8 0, .int .u8 0, .int .u8 0] 5)) (some w5.heap.size)) 9 (.slice (some ⟨X.heap.size, 0, none⟩) 32 32)
      have HBX := Lib.hid ((HB6.out.alloc HB6.out.size (.cells #[.int .u8 0, .int .u8 0, .int .u8 0, .int .u8 0, .int .u8 0, .int .u8 0, .int .u8 0, .int .u8 0, .int .u8 0, .int .u8 0, .int .u8 0, .int .u8 0, .int .u8 0, .int .u8 0, .int .u8 0, .int .u8 0, .int .u8 0, .int .u8 0, .int .u8 0, .int .u8 0, .int .u8 0, .int .u8 0, .int .u8 0, .int .u8 0, .int .u8 0, .int .u8 0, .int .u8 0, .int .u8 0, .int .u8 0, .int .u8 0, .int .u8 0, .int .u8 0] 5)).grown gr (by have := HB6.out.size; simp; omega) (fun g hg => by cases hg; exact HSZ.out))
      clear gr hal
      go_wp2_with fail
      go_ret
      exact ⟨rfl, HBX.out⟩
    have b2 : (m.kind == 10) = false := by simpa using g2
    clear g2
    have HNP := Lib.hid (HF6.out ⟨b0, b1, b2⟩)
    have hal := (Below.refl X.heap.size X).alloc (Nat.le_refl _) (.cells #[.int .u8 0, .int .u8 0, .int .u8 0, .int .u8 0, .int .u8 0, .int .u8 0, .int .u8 0, .int .u8 0, .int .u8 0, .int .u8 0, .int .u8 0, .int .u8 0, .int .u8 0, .int .u8 0, .int .u8 0, .int .u8 0, .int .u8 0, .int .u8 0, .int .u8 0, .int .u8 0, .int .u8 0, .int .u8 0, .int .u8 0, .int .u8 0, .int .u8 0, .int .u8 0, .int .u8 0, .int .u8 0, .int .u8 0, .int .u8 0, .int .u8 0, .int .u8 0] 5)
    have HJ3 := Lib.hid (HJ6.out.kept hal)
    have hmk : ∀ w : World, (Instr.makeSlice 22 (.int .i64 32) (.int .i64 32)).run Try.prog w = .ok (.slice (some ⟨w.heap.size, 0, none⟩) 32 32) (w.alloc (.cells #[.int .u8 0, .int .u8 0, .int .u8 0, .int .u8 0, .int .u8 0, .int .u8 0, .int .u8 0, .int .u8 0, .int .u8 0, .int .u8 0, .int .u8 0, .int .u8 0, .int .u8 0, .int .u8 0, .int .u8 0, .int .u8 0, .int .u8 0, .int .u8 0, .int .u8 0, .int .u8 0, .int .u8 0, .int .u8 0, .int .u8 0, .int .u8 0, .int .u8 0, .int .u8 0, .int .u8 0, .int .u8 0, .int .u8 0, .int .u8 0, .int .u8 0, .int .u8 0] 5)) := fun _ => by kernel_rfl
    have c0 := HJ3.out.at_ (i := 0) rfl
    have c1 := HJ3.out.at_ (i := 1) rfl
    have c2 := HJ3.out.at_ (i := 2) rfl
    have c3 := HJ3.out.at_ (i := 3) rfl
    have c4 := HJ3.out.at_ (i := 4) rfl
    have c5 := HJ3.out.at_ (i := 5) rfl
    have c6 := HJ3.out.at_ (i := 6) rfl
    have c7 := HJ3.out.at_ (i := 7) rfl
    have c8 := HJ3.out.at_ (i := 8) rfl
    have c9 := HJ3.out.at_ (i := 9) rfl
    have c10 := HJ3.out.at_ (i := 10) rfl
    have c11 := HJ3.out.at_ (i := 11) rfl
    have c12 := HJ3.out.at_ (i := 12) rfl
    have f9 := HJ3.out.frozen 9
    have gr := grown_set (grown_refl (X.alloc (.cells #[.int .u8 0, .int .u8 0, .int .u8 0, .int .u8 0, .int .u8 0, .int .u8 0, .int .u8 0, .int .u8 0, .int .u8 0, .int .u8 0, .int .u8 0, .int .u8 0, .int .u8 0, .int .u8 0, .int .u8 0, .int .u8 0, .int .u8 0, .int .u8 0, .int .u8 0, .int .u8 0, .int .u8 0, .int .u8 0, .int .u8 0, .int .u8 0, .int .u8 0, .int .u8 0, .int .u8 0, .int .u8 0, .int .u8 0, .int .u8 0, .int .u8 0, .int .u8 0] 5)) (some w5.heap.size)) 9 (.slice (some ⟨X.heap.size, 0, none⟩) 32 32)
    have HBX := Lib.hid ((HB6.out.alloc HB6.out.size (.cells #[.int .u8 0, .int .u8 0, .int .u8 0, .int .u8 0, .int .u8 0, .int .u8 0, .int .u8 0, .int .u8 0, .int .u8 0, .int .u8 0, .int .u8 0, .int .u8 0, .int .u8 0, .int .u8 0, .int .u8 0, .int .u8 0, .int .u8 0, .int .u8 0, .int .u8 0, .int .u8 0, .int .u8 0, .int .u8 0, .int .u8 0, .int .u8 0, .int .u8 0, .int .u8 0, .int .u8 0, .int .u8 0, .int .u8 0, .int .u8 0, .int .u8 0, .int .u8 0] 5)).grown gr (by have := HB6.out.size; simp; omega) (fun g hg => by cases hg; exact HSZ.out))
    have hrx := (HR5.out.below hal).keep (F' := AllB) (Kp.of_grown gr fun b hb e => by injection e with e; omega) fun _ _ _ => trivial
    have hjl := HJ6.out.lt
    have hnx := (show BF (fun b => b = X.heap.size) (X.alloc (.cells #[.int .u8 0, .int .u8 0, .int .u8 0, .int .u8 0, .int .u8 0, .int .u8 0, .int .u8 0, .int .u8 0, .int .u8 0, .int .u8 0, .int .u8 0, .int .u8 0, .int .u8 0, .int .u8 0, .int .u8 0, .int .u8 0, .int .u8 0, .int .u8 0, .int .u8 0, .int .u8 0, .int .u8 0, .int .u8 0, .int .u8 0, .int .u8 0, .int .u8 0, .int .u8 0, .int .u8 0, .int .u8 0, .int .u8 0, .int .u8 0, .int .u8 0, .int .u8 0] 5)) (some ⟨X.heap.size, 0, none⟩) 32 (List.replicate 32 0) from ⟨sl_four X (List.replicate 32 0) (by simp [maxLen]), fun a e _ => by injection e with e; rw [← e]⟩).keep (F' := AllB) (Kp.of_grown gr fun b hb e => by injection e with e; omega) fun _ _ _ => trivial
    have HRX := Lib.hid (show MgR AllB ((X.alloc (.cells #[.int .u8 0, .int .u8 0, .int .u8 0, .int .u8 0, .int .u8 0, .int .u8 0, .int .u8 0, .int .u8 0, .int .u8 0, .int .u8 0, .int .u8 0, .int .u8 0, .int .u8 0, .int .u8 0, .int .u8 0, .int .u8 0, .int .u8 0, .int .u8 0, .int .u8 0, .int .u8 0, .int .u8 0, .int .u8 0, .int .u8 0, .int .u8 0, .int .u8 0, .int .u8 0, .int .u8 0, .int .u8 0, .int .u8 0, .int .u8 0, .int .u8 0, .int .u8 0] 5)).setCell ⟨w5.heap.size, 9, none⟩ (.slice (some ⟨X.heap.size, 0, none⟩) 32 32)) ({ m with dig := List.replicate 32 0 } : Mg) ({ r with ga := some ⟨X.heap.size, 0, none⟩, gc := 32 } : Mad) from ⟨hrx.e, hnx, hrx.d, hrx.p, hrx.v⟩)
    have HWX := Lib.hid (show ({ m with dig := List.replicate 32 0 } : Mg).wf by
      have z1 : I64 1 := by unfold I64; omega
      have z0 : I64 (-1) := by unfold I64; omega
      have z2 : I64 0 := by unfold I64; omega
      obtain ⟨a1, a2, a3, a4, a5, a6, a7⟩ := HWF.out
      exact ⟨a1, a2, a3, a4, a5, a6, a7⟩)
    have HNO := Lib.hid (small_no (n := ({ m with dig := List.replicate 32 0 } : Mg)) HKD.out rfl (p := 5) (by omega) HNP.out (by simp [Mg.partNo]))
    clear gr hrx hal hnx hjl
    go_wp2_with fail
    refine (encode_any ({ m with dig := List.replicate 32 0 } : Mg) ({ r with ga := some ⟨X.heap.size, 0, none⟩, gc := 32 } : Mad) _ HRX.out HWX.out).mono ?_
    rw [HNO.out]
    rintro e w9 ⟨hb, A9, n9, c9, rfl, ho⟩
    obtain rfl : 0 = n9 := ho.len
    have HBZ := Lib.hid (below_next HBX.out hb HBX.out.size)
    clear hb ho
    go_wp2_with fail
    go_ret
    exact ⟨rfl, HBZ.out⟩
  have t6 : (field == 6) = false := by simpa using s6
  clear s6
  by_cases s7 : field = 7
  · subst s7
    have kk0 := HK6.out.at_ (i := 0) rfl
    by_cases g0 : m.kind = 3
    · have b0 : (m.kind == 3) = true := by simpa using g0
      clear g0
      have c5 := HJ6.out.at_ (i := 5) rfl
      have c6 := HJ6.out.at_ (i := 6) rfl
      have c7 := HJ6.out.at_ (i := 7) rfl
      have c8 := HJ6.out.at_ (i := 8) rfl
      have f5 := HJ6.out.frozen 5
      have f6 := HJ6.out.frozen 6
      have f7 := HJ6.out.frozen 7
      have f8 := HJ6.out.frozen 8
      have gr := grown_set (grown_set (grown_set (grown_set (grown_refl X (some w5.heap.size)) 5 (.int .i64 (-1))) 6 (.int .i64 0)) 7 (.int .i64 0)) 8 (.slice none 0 0)
      have HBX := Lib.hid (HB6.out.grown gr HB6.out.size (fun g hg => by cases hg; exact HSZ.out))
      clear gr
      go_wp2_with fail
      go_ret
      exact ⟨rfl, HBX.out⟩
    have b0 : (m.kind == 3) = false := by simpa using g0
    clear g0
    by_cases g1 : m.kind = 4
    · have b1 : (m.kind == 4) = true := by simpa using g1
      clear g1
      have c5 := HJ6.out.at_ (i := 5) rfl
      have c6 := HJ6.out.at_ (i := 6) rfl
      have c7 := HJ6.out.at_ (i := 7) rfl
      have c8 := HJ6.out.at_ (i := 8) rfl
      have f5 := HJ6.out.frozen 5
      have f6 := HJ6.out.frozen 6
      have f7 := HJ6.out.frozen 7
      have f8 := HJ6.out.frozen 8
      have gr := grown_set (grown_set (grown_set (grown_set (grown_refl X (some w5.heap.size)) 5 (.int .i64 (-1))) 6 (.int .i64 0)) 7 (.int .i64 0)) 8 (.slice none 0 0)
      have HBX := Lib.hid (HB6.out.grown gr HB6.out.size (fun g hg => by cases hg; exact HSZ.out))
      clear gr
      go_wp2_with fail
      go_ret
      exact ⟨rfl, HBX.out⟩
    have b1 : (m.kind == 4) = false := by simpa using g1
    clear g1
    by_cases g2 : m.kind = 5
    · have b2 : (m.kind == 5) = true := by simpa using g2
      clear g2
      have c5 := HJ6.out.at_ (i := 5) rfl
      have c6 := HJ6.out.at_ (i := 6) rfl
      have c7 := HJ6.out.at_ (i := 7) rfl
      have c8 := HJ6.out.at_ (i := 8) rfl
      have f5 := HJ6.out.frozen 5
      have f6 := HJ6.out.frozen 6
      have f7 := HJ6.out.frozen 7
      have f8 := HJ6.out.frozen 8
      have gr := grown_set (grown_set (grown_set (grown_set (grown_refl X (some w5.heap.size)) 5 (.int .i64 (-1))) 6 (.int .i64 0)) 7 (.int .i64 0)) 8 (.slice none 0 0)
      have HBX := Lib.hid (HB6.out.grown gr HB6.out.size (fun g hg => by cases hg; exact HSZ.out))
      clear gr
      go_wp2_with fail
      go_ret
      exact ⟨rfl, HBX.out⟩
    have b2 : (m.kind == 5) = false := by simpa using g2
    clear g2
    by_cases g3 : m.kind = 6
    · have b3 : (m.kind == 6) = true := by simpa using g3
      clear g3
      have c5 := HJ6.out.at_ (i := 5) rfl
      have c6 := HJ6.out.at_ (i := 6) rfl
      have c7 := HJ6.out.at_ (i := 7) rfl
      have c8 := HJ6.out.at_ (i := 8) rfl
      have f5 := HJ6.out.frozen 5
      have f6 := HJ6.out.frozen 6
      have f7 := HJ6.out.frozen 7
      have f8 := HJ6.out.frozen 8
      have gr := grown_set (grown_set (grown_set (grown_set (grown_refl X (some w5.heap.size)) 5 (.int .i64 (-1))) 6 (.int .i64 0)) 7 (.int .i64 0)) 8 (.slice none 0 0)
      have HBX := Lib.hid (HB6.out.grown gr HB6.out.size (fun g hg => by cases hg; exact HSZ.out))
      clear gr
      go_wp2_with fail
      go_ret
      exact ⟨rfl, HBX.out⟩
    have b3 : (m.kind == 6) = false := by simpa using g3
    clear g3
    have HNP := Lib.hid (HF7.out ⟨b0, b1, b2, b3⟩)
    have c0 := HJ6.out.at_ (i := 0) rfl
    have c1 := HJ6.out.at_ (i := 1) rfl
    have c2 := HJ6.out.at_ (i := 2) rfl
    have c3 := HJ6.out.at_ (i := 3) rfl
    have c4 := HJ6.out.at_ (i := 4) rfl
    have c5 := HJ6.out.at_ (i := 5) rfl
    have c6 := HJ6.out.at_ (i := 6) rfl
    have c7 := HJ6.out.at_ (i := 7) rfl
    have c8 := HJ6.out.at_ (i := 8) rfl
    have c9 := HJ6.out.at_ (i := 9) rfl
    have c10 := HJ6.out.at_ (i := 10) rfl
    have c11 := HJ6.out.at_ (i := 11) rfl
    have c12 := HJ6.out.at_ (i := 12) rfl
    have f5 := HJ6.out.frozen 5
    have f6 := HJ6.out.frozen 6
    have f7 := HJ6.out.frozen 7
    have f8 := HJ6.out.frozen 8
    have gr := grown_set (grown_set (grown_set (grown_set (grown_refl X (some w5.heap.size)) 5 (.int .i64 (-1))) 6 (.int .i64 0)) 7 (.int .i64 0)) 8 (.slice none 0 0)
    have HBX := Lib.hid (HB6.out.grown gr HB6.out.size (fun g hg => by cases hg; exact HSZ.out))
    have hrx := HR5.out.keep (F' := AllB) (Kp.of_grown gr fun b hb e => by injection e with e; omega) fun _ _ _ => trivial
    have HRX := Lib.hid (show MgR AllB ((((X.setCell ⟨w5.heap.size, 5, none⟩ (.int .i64 (-1))).setCell ⟨w5.heap.size, 6, none⟩ (.int .i64 0)).setCell ⟨w5.heap.size, 7, none⟩ (.int .i64 0)).setCell ⟨w5.heap.size, 8, none⟩ (.slice none 0 0)) ({ m with e := enA } : Mg) ({ r with ea := none, ec := 0 } : Mad) from ⟨BF.nil_ _ _, hrx.g, hrx.d, hrx.p, hrx.v⟩)
    have HWX := Lib.hid (show ({ m with e := enA } : Mg).wf by
      have z1 : I64 1 := by unfold I64; omega
      have z0 : I64 (-1) := by unfold I64; omega
      have z2 : I64 0 := by unfold I64; omega
      obtain ⟨a1, a2, a3, a4, a5, a6, a7⟩ := HWF.out
      exact ⟨a1, a2, a3, a4, z0, z2, z2⟩)
    have HNO := Lib.hid (small_no (n := ({ m with e := enA } : Mg)) HKD.out rfl (p := 4) (by omega) HNP.out (by rfl))
    clear gr hrx
    go_wp2_with fail
    refine (encode_any ({ m with e := enA } : Mg) ({ r with ea := none, ec := 0 } : Mad) _ HRX.out HWX.out).mono ?_
    rw [HNO.out]
    rintro e w9 ⟨hb, A9, n9, c9, rfl, ho⟩
    obtain rfl : 0 = n9 := ho.len
    have HBZ := Lib.hid (below_next HBX.out hb HBX.out.size)
    clear hb ho
    go_wp2_with fail
    go_ret
    exact ⟨rfl, HBZ.out⟩
  have t7 : (field == 7) = false := by simpa using s7
  clear s7
  have hps : (0 : Int) < (b.length : Int) := by have := HPOS.out; omega
  go_wp2_with fail
  go_ret
  exact ⟨ret_bool (by have := HPOS.out; simp; omega), HB6.out⟩
theorem msgSmall_walk (w : World) (v : Value) (m : Mg) (h : InMg w v m) (k : Int) (hk : (Lit.int .i64 k).wf = true) : Calls Try.prog 8 #[v, .int .i64 k] w (Tr w) := by
  obtain ⟨q, rfl, h1, h2, h3, _⟩ := h
  exact msgSmall_any m q k w h1 h2 h3
end Go.Proofs.Ytmgmmbgjmnklkaa
