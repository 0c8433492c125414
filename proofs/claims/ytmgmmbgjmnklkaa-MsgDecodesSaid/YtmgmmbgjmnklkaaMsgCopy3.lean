/-
  The reference's copy of a message. A walk; no statement.
-/
import Derived.Test.YtmgmmbgjmnklkaaMsgCopy2
namespace Go.Proofs.Ytmgmmbgjmnklkaa
set_option maxRecDepth 100000
open Go.RowKit
open Pk
set_option linter.unusedVariables false

/-- a message in new memory -/
def FreshMg (m : Mg) (w : World) (en : Ending) (w' : World) : Prop := Below w.heap.size w w' ∧ ∃ q : Mad, en = .returned (.agg #[.int .i64 m.kind, .int .i64 m.view, .int .i64 m.seq, .int .i64 m.client, .int .i64 m.stamp, .int .i64 m.e.c, .int .i64 m.e.s, .int .i64 m.e.t, .slice q.ea m.e.dig.length q.ec, .slice q.ga m.dig.length q.gc, .slice q.da m.data.length q.dc, .slice q.pa m.proof.length q.pc, .slice q.va m.proven.length q.vc]) ∧ MgR (From w.heap.size) w' m q

theorem copyMsg_any (m : Mg) (q : Mad) (F : Nat → Prop) (w : World) (h : MgR F w m q) (hn : m.big) :
    Calls Try.prog 12 #[.agg #[.int .i64 m.kind, .int .i64 m.view, .int .i64 m.seq, .int .i64 m.client, .int .i64 m.stamp, .int .i64 m.e.c, .int .i64 m.e.s, .int .i64 m.e.t, .slice q.ea m.e.dig.length q.ec, .slice q.ga m.dig.length q.gc, .slice q.da m.data.length q.dc, .slice q.pa m.proof.length q.pc, .slice q.va m.proven.length q.vc]] w (FreshMg m w) := by
  have hB := ((Below.refl w.heap.size w).alloc (Nat.le_refl _) (.cells #[.int .i64 m.kind, .int .i64 m.view, .int .i64 m.seq, .int .i64 m.client, .int .i64 m.stamp, .int .i64 m.e.c, .int .i64 m.e.s, .int .i64 m.e.t, .slice q.ea m.e.dig.length q.ec, .slice q.ga m.dig.length q.gc, .slice q.da m.data.length q.dc, .slice q.pa m.proof.length q.pc, .slice q.va m.proven.length q.vc] 28)).alloc (by simp) (.cells #[.int .i64 0, .int .i64 0, .int .i64 0, .int .i64 0, .int .i64 0, .int .i64 0, .int .i64 0, .int .i64 0, .slice none 0 0, .slice none 0 0, .slice none 0 0, .slice none 0 0, .slice none 0 0] 28)
  have HB0 := Lib.hid hB
  have HK0 := Lib.hid ((Bk.new w 28 [.int .i64 m.kind, .int .i64 m.view, .int .i64 m.seq, .int .i64 m.client, .int .i64 m.stamp, .int .i64 m.e.c, .int .i64 m.e.s, .int .i64 m.e.t, .slice q.ea m.e.dig.length q.ec, .slice q.ga m.dig.length q.gc, .slice q.da m.data.length q.dc, .slice q.pa m.proof.length q.pc, .slice q.va m.proven.length q.vc]).alloc (.cells #[.int .i64 0, .int .i64 0, .int .i64 0, .int .i64 0, .int .i64 0, .int .i64 0, .int .i64 0, .int .i64 0, .slice none 0 0, .slice none 0 0, .slice none 0 0, .slice none 0 0, .slice none 0 0] 28))
  have hr := Bk.new (w.alloc (.cells #[.int .i64 m.kind, .int .i64 m.view, .int .i64 m.seq, .int .i64 m.client, .int .i64 m.stamp, .int .i64 m.e.c, .int .i64 m.e.s, .int .i64 m.e.t, .slice q.ea m.e.dig.length q.ec, .slice q.ga m.dig.length q.gc, .slice q.da m.data.length q.dc, .slice q.pa m.proof.length q.pc, .slice q.va m.proven.length q.vc] 28)) 28 [.int .i64 0, .int .i64 0, .int .i64 0, .int .i64 0, .int .i64 0, .int .i64 0, .int .i64 0, .int .i64 0, .slice none 0 0, .slice none 0 0, .slice none 0 0, .slice none 0 0, .slice none 0 0]
  rw [show (w.alloc (.cells #[.int .i64 m.kind, .int .i64 m.view, .int .i64 m.seq, .int .i64 m.client, .int .i64 m.stamp, .int .i64 m.e.c, .int .i64 m.e.s, .int .i64 m.e.t, .slice q.ea m.e.dig.length q.ec, .slice q.ga m.dig.length q.gc, .slice q.da m.data.length q.dc, .slice q.pa m.proof.length q.pc, .slice q.va m.proven.length q.vc] 28)).heap.size = w.heap.size + 1 by simp] at hr
  have HZ0 := Lib.hid hr
  have hm := (h.keep (F' := fun b => b < w.heap.size) ⟨Nat.le_refl _, fun _ _ _ => rfl⟩ fun b _ hb => hb).below hB
  have HE0 := Lib.hid hm.e
  have HG0 := Lib.hid hm.g
  have HD0 := Lib.hid hm.d
  have HP0 := Lib.hid hm.p
  have HV0 := Lib.hid hm.v
  have HN := Lib.hid hn
  clear h hB hn hr hm
  go_enter Try.func12, Try.ntmps12
  go_wp2_with fail
  refine (copyEntry_any m.e q.ea q.ec _ _ HE0.out HN.out.e).mono ?_
  rintro en w1 ⟨hb, A1, c1, rfl, ho⟩
  have HB1' := Lib.hid (below_next HB0.out hb HB0.out.size)
  have hk := HK0.out.kept hb
  have hz := HZ0.out.kept hb
  have hsz := HB1'.out.size
  have gr := grown_set (grown_set (grown_set (grown_set (grown_refl w1 (some w.heap.size)) 5 (.int .i64 m.e.c)) 6 (.int .i64 m.e.s)) 7 (.int .i64 m.e.t)) 8 (.slice A1 m.e.dig.length c1)
  have HK1 := Lib.hid (((((hk).set 5 (.int .i64 m.e.c)).set 6 (.int .i64 m.e.s)).set 7 (.int .i64 m.e.t)).set 8 (.slice A1 m.e.dig.length c1))
  have HZ1 := Lib.hid (((((((((hz).far (p := ⟨w.heap.size, 5, none⟩) (by show w.heap.size + 1 ≠ w.heap.size; omega) (.int .i64 m.e.c))).far (p := ⟨w.heap.size, 6, none⟩) (by show w.heap.size + 1 ≠ w.heap.size; omega) (.int .i64 m.e.s))).far (p := ⟨w.heap.size, 7, none⟩) (by show w.heap.size + 1 ≠ w.heap.size; omega) (.int .i64 m.e.t))).far (p := ⟨w.heap.size, 8, none⟩) (by show w.heap.size + 1 ≠ w.heap.size; omega) (.slice A1 m.e.dig.length c1)))
  have HB1 := Lib.hid (HB1'.out.grown gr HB1'.out.size (fun g hg => by cases hg; omega))
  have HG1 := Lib.hid ((HG0.out.below hb).keep (F' := fun b => b < w.heap.size) (Kp.of_grown gr fun b hb e => by injection e with e; omega) fun _ h _ => h)
  have HD1 := Lib.hid ((HD0.out.below hb).keep (F' := fun b => b < w.heap.size) (Kp.of_grown gr fun b hb e => by injection e with e; omega) fun _ h _ => h)
  have HP1 := Lib.hid ((HP0.out.below hb).keep (F' := fun b => b < w.heap.size) (Kp.of_grown gr fun b hb e => by injection e with e; omega) fun _ h _ => h)
  have HV1 := Lib.hid ((HV0.out.below hb).keep (F' := fun b => b < w.heap.size) (Kp.of_grown gr fun b hb e => by injection e with e; omega) fun _ h _ => h)
  have hlt := HZ0.out.lt
  have HOe1 := Lib.hid ((ho.keep (F' := (From (w.heap.size + 2))) ⟨Nat.le_refl _, fun _ _ _ => rfl⟩ (fun b hb _ => by unfold From at *; simp at hb hlt ⊢; omega)).keep (F' := (From (w.heap.size + 2))) (Kp.of_grown gr fun b hb e => by injection e with e; unfold From at hb; omega) fun _ h _ => h)
  have k5 := hk.at_ (i := 5) rfl
  have k6 := hk.at_ (i := 6) rfl
  have k7 := hk.at_ (i := 7) rfl
  have k8 := hk.at_ (i := 8) rfl
  have k9 := hk.at_ (i := 9) rfl
  have f5 := hk.frozen 5
  have f6 := hk.frozen 6
  have f7 := hk.frozen 7
  have f8 := hk.frozen 8
  clear hb ho gr hsz hlt hk hz
  go_wp2_with fail
  clear k5 k6 k7 k8 k9 f5 f6 f7 f8
  refine (copyBytes_big q.ga m.dig.length q.gc m.dig _ HG1.out.rd HN.out.g).mono ?_
  rintro en w2 ⟨A2, n2, c2, rfl, ho, hb⟩
  obtain rfl : m.dig.length = n2 := ho.len
  have HB2' := Lib.hid (below_next HB1.out hb HB1.out.size)
  have hk := HK1.out.kept hb
  have hz := HZ1.out.kept hb
  have hsz := HB2'.out.size
  have gr := grown_set (grown_refl w2 (some w.heap.size)) 9 (.slice A2 m.dig.length c2)
  have HK2 := Lib.hid ((hk).set 9 (.slice A2 m.dig.length c2))
  have HZ2 := Lib.hid (((hz).far (p := ⟨w.heap.size, 9, none⟩) (by show w.heap.size + 1 ≠ w.heap.size; omega) (.slice A2 m.dig.length c2)))
  have HB2 := Lib.hid (HB2'.out.grown gr HB2'.out.size (fun g hg => by cases hg; omega))
  have HD2 := Lib.hid ((HD1.out.below hb).keep (F' := fun b => b < w.heap.size) (Kp.of_grown gr fun b hb e => by injection e with e; omega) fun _ h _ => h)
  have HP2 := Lib.hid ((HP1.out.below hb).keep (F' := fun b => b < w.heap.size) (Kp.of_grown gr fun b hb e => by injection e with e; omega) fun _ h _ => h)
  have HV2 := Lib.hid ((HV1.out.below hb).keep (F' := fun b => b < w.heap.size) (Kp.of_grown gr fun b hb e => by injection e with e; omega) fun _ h _ => h)
  have HOe2 := Lib.hid ((HOe1.out.below hb).keep (F' := (From (w.heap.size + 2))) (Kp.of_grown gr fun b hb e => by injection e with e; unfold From at hb; omega) fun _ h _ => h)
  have hlt := HZ1.out.lt
  have HOg2 := Lib.hid (((BF.own ho).keep (F' := (From (w.heap.size + 2))) ⟨Nat.le_refl _, fun _ _ _ => rfl⟩ (fun b hb _ => by unfold From at *; simp at hb hlt ⊢; omega)).keep (F' := (From (w.heap.size + 2))) (Kp.of_grown gr fun b hb e => by injection e with e; unfold From at hb; omega) fun _ h _ => h)
  have k9 := hk.at_ (i := 9) rfl
  have k10 := hk.at_ (i := 10) rfl
  have f9 := hk.frozen 9
  clear hb ho gr hsz hlt hk hz
  go_wp2_with fail
  clear k9 k10 f9
  refine (copyBytes_big q.da m.data.length q.dc m.data _ HD2.out.rd HN.out.d).mono ?_
  rintro en w3 ⟨A3, n3, c3, rfl, ho, hb⟩
  obtain rfl : m.data.length = n3 := ho.len
  have HB3' := Lib.hid (below_next HB2.out hb HB2.out.size)
  have hk := HK2.out.kept hb
  have hz := HZ2.out.kept hb
  have hsz := HB3'.out.size
  have gr := grown_set (grown_refl w3 (some w.heap.size)) 10 (.slice A3 m.data.length c3)
  have HK3 := Lib.hid ((hk).set 10 (.slice A3 m.data.length c3))
  have HZ3 := Lib.hid (((hz).far (p := ⟨w.heap.size, 10, none⟩) (by show w.heap.size + 1 ≠ w.heap.size; omega) (.slice A3 m.data.length c3)))
  have HB3 := Lib.hid (HB3'.out.grown gr HB3'.out.size (fun g hg => by cases hg; omega))
  have HP3 := Lib.hid ((HP2.out.below hb).keep (F' := fun b => b < w.heap.size) (Kp.of_grown gr fun b hb e => by injection e with e; omega) fun _ h _ => h)
  have HV3 := Lib.hid ((HV2.out.below hb).keep (F' := fun b => b < w.heap.size) (Kp.of_grown gr fun b hb e => by injection e with e; omega) fun _ h _ => h)
  have HOe3 := Lib.hid ((HOe2.out.below hb).keep (F' := (From (w.heap.size + 2))) (Kp.of_grown gr fun b hb e => by injection e with e; unfold From at hb; omega) fun _ h _ => h)
  have HOg3 := Lib.hid ((HOg2.out.below hb).keep (F' := (From (w.heap.size + 2))) (Kp.of_grown gr fun b hb e => by injection e with e; unfold From at hb; omega) fun _ h _ => h)
  have hlt := HZ2.out.lt
  have HOd3 := Lib.hid (((BF.own ho).keep (F' := (From (w.heap.size + 2))) ⟨Nat.le_refl _, fun _ _ _ => rfl⟩ (fun b hb _ => by unfold From at *; simp at hb hlt ⊢; omega)).keep (F' := (From (w.heap.size + 2))) (Kp.of_grown gr fun b hb e => by injection e with e; unfold From at hb; omega) fun _ h _ => h)
  have k10 := hk.at_ (i := 10) rfl
  have k11 := hk.at_ (i := 11) rfl
  have f10 := hk.frozen 10
  clear hb ho gr hsz hlt hk hz
  go_wp2_with fail
  clear k10 k11 f10
  refine (copyLetters_any q.pa q.pc m.proof _ _ HP3.out HN.out.p).mono ?_
  rintro en w4 ⟨A4, c4, rfl, ho, hb⟩
  have HB4' := Lib.hid (below_next HB3.out hb HB3.out.size)
  have hk := HK3.out.kept hb
  have hz := HZ3.out.kept hb
  have hsz := HB4'.out.size
  have gr := grown_set (grown_refl w4 (some w.heap.size)) 11 (.slice A4 m.proof.length c4)
  have HK4 := Lib.hid ((hk).set 11 (.slice A4 m.proof.length c4))
  have HZ4 := Lib.hid (((hz).far (p := ⟨w.heap.size, 11, none⟩) (by show w.heap.size + 1 ≠ w.heap.size; omega) (.slice A4 m.proof.length c4)))
  have HB4 := Lib.hid (HB4'.out.grown gr HB4'.out.size (fun g hg => by cases hg; omega))
  have HV4 := Lib.hid ((HV3.out.below hb).keep (F' := fun b => b < w.heap.size) (Kp.of_grown gr fun b hb e => by injection e with e; omega) fun _ h _ => h)
  have HOe4 := Lib.hid ((HOe3.out.below hb).keep (F' := (From (w.heap.size + 2))) (Kp.of_grown gr fun b hb e => by injection e with e; unfold From at hb; omega) fun _ h _ => h)
  have HOg4 := Lib.hid ((HOg3.out.below hb).keep (F' := (From (w.heap.size + 2))) (Kp.of_grown gr fun b hb e => by injection e with e; unfold From at hb; omega) fun _ h _ => h)
  have HOd4 := Lib.hid ((HOd3.out.below hb).keep (F' := (From (w.heap.size + 2))) (Kp.of_grown gr fun b hb e => by injection e with e; unfold From at hb; omega) fun _ h _ => h)
  have hlt := HZ3.out.lt
  have HOp4 := Lib.hid ((ho.keep (F' := (From (w.heap.size + 2))) ⟨Nat.le_refl _, fun _ _ _ => rfl⟩ (fun b hb _ => by unfold From at *; simp at hb hlt ⊢; omega)).keep (F' := (From (w.heap.size + 2))) (Kp.of_grown gr fun b hb e => by injection e with e; unfold From at hb; omega) fun _ h _ => h)
  have k11 := hk.at_ (i := 11) rfl
  have k12 := hk.at_ (i := 12) rfl
  have f11 := hk.frozen 11
  clear hb ho gr hsz hlt hk hz
  go_wp2_with fail
  clear k11 k12 f11
  refine (copyProven_any q.va q.vc m.proven _ _ HV4.out HN.out.v).mono ?_
  rintro en w5 ⟨A5, c5, rfl, ho, hb⟩
  have HB5' := Lib.hid (below_next HB4.out hb HB4.out.size)
  have hk := HK4.out.kept hb
  have hz := HZ4.out.kept hb
  have hsz := HB5'.out.size
  have gr := grown_set (grown_refl w5 (some w.heap.size)) 12 (.slice A5 m.proven.length c5)
  have HK5 := Lib.hid ((hk).set 12 (.slice A5 m.proven.length c5))
  have HZ5 := Lib.hid (((hz).far (p := ⟨w.heap.size, 12, none⟩) (by show w.heap.size + 1 ≠ w.heap.size; omega) (.slice A5 m.proven.length c5)))
  have HB5 := Lib.hid (HB5'.out.grown gr HB5'.out.size (fun g hg => by cases hg; omega))
  have HOe5 := Lib.hid ((HOe4.out.below hb).keep (F' := (From (w.heap.size + 2))) (Kp.of_grown gr fun b hb e => by injection e with e; unfold From at hb; omega) fun _ h _ => h)
  have HOg5 := Lib.hid ((HOg4.out.below hb).keep (F' := (From (w.heap.size + 2))) (Kp.of_grown gr fun b hb e => by injection e with e; unfold From at hb; omega) fun _ h _ => h)
  have HOd5 := Lib.hid ((HOd4.out.below hb).keep (F' := (From (w.heap.size + 2))) (Kp.of_grown gr fun b hb e => by injection e with e; unfold From at hb; omega) fun _ h _ => h)
  have HOp5 := Lib.hid ((HOp4.out.below hb).keep (F' := (From (w.heap.size + 2))) (Kp.of_grown gr fun b hb e => by injection e with e; unfold From at hb; omega) fun _ h _ => h)
  have hlt := HZ4.out.lt
  have HOv5 := Lib.hid ((ho.keep (F' := (From (w.heap.size + 2))) ⟨Nat.le_refl _, fun _ _ _ => rfl⟩ (fun b hb _ => by unfold From at *; simp at hb hlt ⊢; omega)).keep (F' := (From (w.heap.size + 2))) (Kp.of_grown gr fun b hb e => by injection e with e; unfold From at hb; omega) fun _ h _ => h)
  have k0 := hk.at_ (i := 0) rfl
  have k1 := hk.at_ (i := 1) rfl
  have k2 := hk.at_ (i := 2) rfl
  have k3 := hk.at_ (i := 3) rfl
  have k4 := hk.at_ (i := 4) rfl
  have k5 := hk.at_ (i := 5) rfl
  have k6 := hk.at_ (i := 6) rfl
  have k7 := hk.at_ (i := 7) rfl
  have k8 := hk.at_ (i := 8) rfl
  have k9 := hk.at_ (i := 9) rfl
  have k10 := hk.at_ (i := 10) rfl
  have k11 := hk.at_ (i := 11) rfl
  have k12 := hk.at_ (i := 12) rfl
  have f12 := hk.frozen 12
  have j0 := hz.at_ (i := 0) rfl
  have z0 := hz.frozen 0
  have j1 := hz.at_ (i := 1) rfl
  have z1 := hz.frozen 1
  have j2 := hz.at_ (i := 2) rfl
  have z2 := hz.frozen 2
  have j3 := hz.at_ (i := 3) rfl
  have z3 := hz.frozen 3
  have j4 := hz.at_ (i := 4) rfl
  have z4 := hz.frozen 4
  have j5 := hz.at_ (i := 5) rfl
  have z5 := hz.frozen 5
  have j6 := hz.at_ (i := 6) rfl
  have z6 := hz.frozen 6
  have j7 := hz.at_ (i := 7) rfl
  have z7 := hz.frozen 7
  have j8 := hz.at_ (i := 8) rfl
  have z8 := hz.frozen 8
  have j9 := hz.at_ (i := 9) rfl
  have z9 := hz.frozen 9
  have j10 := hz.at_ (i := 10) rfl
  have z10 := hz.frozen 10
  have j11 := hz.at_ (i := 11) rfl
  have z11 := hz.frozen 11
  have j12 := hz.at_ (i := 12) rfl
  have z12 := hz.frozen 12
  clear hb ho gr hsz hlt
  go_wp2_with fail
  have kk := (((((((((((((HZ5.out).set 0 (.int .i64 m.kind)).set 1 (.int .i64 m.view)).set 2 (.int .i64 m.seq)).set 3 (.int .i64 m.client)).set 4 (.int .i64 m.stamp)).set 5 (.int .i64 m.e.c)).set 6 (.int .i64 m.e.s)).set 7 (.int .i64 m.e.t)).set 8 (.slice A1 m.e.dig.length c1)).set 9 (.slice A2 m.dig.length c2)).set 10 (.slice A3 m.data.length c3)).set 11 (.slice A4 m.proof.length c4)).set 12 (.slice A5 m.proven.length c5)
  have g2 := grown_set (grown_set (grown_set (grown_set (grown_set (grown_set (grown_set (grown_set (grown_set (grown_set (grown_set (grown_set (grown_set (grown_refl (w5.setCell ⟨w.heap.size, 12, none⟩ (.slice A5 m.proven.length c5)) (some (w.heap.size + 1))) 0 (.int .i64 m.kind)) 1 (.int .i64 m.view)) 2 (.int .i64 m.seq)) 3 (.int .i64 m.client)) 4 (.int .i64 m.stamp)) 5 (.int .i64 m.e.c)) 6 (.int .i64 m.e.s)) 7 (.int .i64 m.e.t)) 8 (.slice A1 m.e.dig.length c1)) 9 (.slice A2 m.dig.length c2)) 10 (.slice A3 m.data.length c3)) 11 (.slice A4 m.proof.length c4)) 12 (.slice A5 m.proven.length c5)
  have hb := HB5.out.grown g2 (by have := HB5.out.size; simpa using this) (fun g hg => by cases hg; omega)
  have oe := HOe5.out.keep (F' := From w.heap.size) (Kp.of_grown g2 fun b hb e => by injection e with e; unfold From at hb; omega) fun b h _ => by unfold From at *; omega
  have og := HOg5.out.keep (F' := From w.heap.size) (Kp.of_grown g2 fun b hb e => by injection e with e; unfold From at hb; omega) fun b h _ => by unfold From at *; omega
  have od := HOd5.out.keep (F' := From w.heap.size) (Kp.of_grown g2 fun b hb e => by injection e with e; unfold From at hb; omega) fun b h _ => by unfold From at *; omega
  have op := HOp5.out.keep (F' := From w.heap.size) (Kp.of_grown g2 fun b hb e => by injection e with e; unfold From at hb; omega) fun b h _ => by unfold From at *; omega
  have ov := HOv5.out.keep (F' := From w.heap.size) (Kp.of_grown g2 fun b hb e => by injection e with e; unfold From at hb; omega) fun b h _ => by unfold From at *; omega
  refine bodyPost_ret_by (results_row1 rfl _ _ (w.heap.size + 1) 28 _ _ rfl kk Try.underlying28 rfl info1_M) rfl ?_
  exact ⟨hb, ⟨A1, c1, A2, c2, A3, c3, A4, c4, A5, c5⟩, rfl, oe, og, od, op, ov⟩
end Go.Proofs.Ytmgmmbgjmnklkaa
