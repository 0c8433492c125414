/-
  The program's bytes of a message's part, and of a message. Walks; no statement.
-/
import Derived.Test.YtmgmmbgjmnklkaaMsgPack2
namespace Go.Proofs.Ytmgmmbgjmnklkaa
set_option maxRecDepth 100000
open Go.RowKit
open Pk
set_option linter.unusedVariables false

/-- bytes came back, new or the message's, if there are such; else a panic -/
def PkF (F : Nat → Prop) (r : Option (List UInt8)) (w : World) (e : Ending) (w' : World) : Prop :=
  Below w.heap.size w w' ∧ ((∃ l, r = some l ∧ ∃ A c, e = .returned (.slice A l.length c) ∧ BF (fun b => F b ∨ w.heap.size ≤ b) w' A c l) ∨ (r = none ∧ e = Pn 13))
theorem numI_ok (v : Int) (w : World) (h0 : 0 ≤ v) (h1 : v < 4611686018427387904) : Calls Try.prog 73 #[.int .i64 v] w (Fresh2 w.heap.size (encI v) w) := by
  obtain ⟨n, rfl⟩ := Int.eq_ofNat_of_zero_le h0
  exact num_ok n w (by omega)
theorem bf_new {F : Nat → Prop} {B B' : Nat} {w : World} {A : Option Addr} {n c : Nat} {l : List UInt8} (h : OwnB w B A n c l) (hB : B' ≤ B) : n = l.length ∧ BF (fun b => F b ∨ B' ≤ b) w A c l := by
  have hl := h.len
  refine ⟨hl.symm, (BF.own h).keep ⟨Nat.le_refl _, fun _ _ _ => rfl⟩ fun b hb _ => .inr ?_⟩
  unfold From at hb
  omega
theorem pk_new {F : Nat → Prop} {r : Option (List UInt8)} {w X w' : World} {e : Ending} (hb : Below w.heap.size w X) (h : Pk r X e w') : PkF F r w e w' := by
  obtain ⟨hb', ⟨l, hl, A, n, c, rfl, ho⟩ | ⟨hl, rfl⟩⟩ := h
  · obtain ⟨rfl, hf⟩ := bf_new (F := F) ho hb.size
    exact ⟨below_next hb hb' hb.size, .inl ⟨l, hl, A, c, rfl, hf⟩⟩
  · exact ⟨below_next hb hb' hb.size, .inr ⟨hl, rfl⟩⟩

theorem packPart_0 (m : Mg) (q : Mad) (F : Nat → Prop) (w : World) (h : MgR F w m q) (hok : m.partOk 0 = true) : Calls Try.prog 74 #[.agg #[.int .i64 m.kind, .int .i64 m.view, .int .i64 m.seq, .int .i64 m.client, .int .i64 m.stamp, .int .i64 m.e.c, .int .i64 m.e.s, .int .i64 m.e.t, .slice q.ea m.e.dig.length q.ec, .slice q.ga m.dig.length q.gc, .slice q.da m.data.length q.dc, .slice q.pa m.proof.length q.pc, .slice q.va m.proven.length q.vc], .int .i64 0] w (PkF F (m.partPack 0) w) := by
  have hB := (Below.refl w.heap.size w).alloc (Nat.le_refl _) (.cells #[.int .i64 m.kind, .int .i64 m.view, .int .i64 m.seq, .int .i64 m.client, .int .i64 m.stamp, .int .i64 m.e.c, .int .i64 m.e.s, .int .i64 m.e.t, .slice q.ea m.e.dig.length q.ec, .slice q.ga m.dig.length q.gc, .slice q.da m.data.length q.dc, .slice q.pa m.proof.length q.pc, .slice q.va m.proven.length q.vc] 28)
  have HB := Lib.hid hB
  have HV := Lib.hid (show 0 ≤ m.view ∧ m.view < 4611686018427387904 by
    have h1 : wideB m.view = true := hok
    unfold wideB at h1
    simp only [decide_eq_true_eq] at h1
    omega)
  clear h hok hB
  go_enter Try.func74, Try.ntmps74
  go_wp2_with fail
  refine (numI_ok m.view _ HV.out.1 HV.out.2).mono ?_
  rintro e w1 ⟨A1, n1, c1, rfl, ho1, hb1⟩
  obtain ⟨rfl, hf⟩ := bf_new (F := F) ho1 HB.out.size
  have HF := Lib.hid hf
  have HB1 := Lib.hid (below_next HB.out hb1 HB.out.size)
  clear ho1 hb1 hf
  go_wp2_with fail
  refine (mustB_yes _ _ _ _).mono ?_
  rintro e w2 ⟨rfl, rfl⟩
  go_wp2_with fail
  go_ret
  exact ⟨HB1.out, .inl ⟨_, rfl, A1, c1, rfl, HF.out⟩⟩

theorem packPart_1 (m : Mg) (q : Mad) (F : Nat → Prop) (w : World) (h : MgR F w m q) (hok : m.partOk 1 = true) : Calls Try.prog 74 #[.agg #[.int .i64 m.kind, .int .i64 m.view, .int .i64 m.seq, .int .i64 m.client, .int .i64 m.stamp, .int .i64 m.e.c, .int .i64 m.e.s, .int .i64 m.e.t, .slice q.ea m.e.dig.length q.ec, .slice q.ga m.dig.length q.gc, .slice q.da m.data.length q.dc, .slice q.pa m.proof.length q.pc, .slice q.va m.proven.length q.vc], .int .i64 1] w (PkF F (m.partPack 1) w) := by
  have hB := (Below.refl w.heap.size w).alloc (Nat.le_refl _) (.cells #[.int .i64 m.kind, .int .i64 m.view, .int .i64 m.seq, .int .i64 m.client, .int .i64 m.stamp, .int .i64 m.e.c, .int .i64 m.e.s, .int .i64 m.e.t, .slice q.ea m.e.dig.length q.ec, .slice q.ga m.dig.length q.gc, .slice q.da m.data.length q.dc, .slice q.pa m.proof.length q.pc, .slice q.va m.proven.length q.vc] 28)
  have HB := Lib.hid hB
  have HV := Lib.hid (show 0 ≤ m.seq ∧ m.seq < 4611686018427387904 by
    have h1 : wideB m.seq = true := hok
    unfold wideB at h1
    simp only [decide_eq_true_eq] at h1
    omega)
  clear h hok hB
  go_enter Try.func74, Try.ntmps74
  go_wp2_with fail
  refine (numI_ok m.seq _ HV.out.1 HV.out.2).mono ?_
  rintro e w1 ⟨A1, n1, c1, rfl, ho1, hb1⟩
  obtain ⟨rfl, hf⟩ := bf_new (F := F) ho1 HB.out.size
  have HF := Lib.hid hf
  have HB1 := Lib.hid (below_next HB.out hb1 HB.out.size)
  clear ho1 hb1 hf
  go_wp2_with fail
  refine (mustB_yes _ _ _ _).mono ?_
  rintro e w2 ⟨rfl, rfl⟩
  go_wp2_with fail
  go_ret
  exact ⟨HB1.out, .inl ⟨_, rfl, A1, c1, rfl, HF.out⟩⟩

theorem packPart_2 (m : Mg) (q : Mad) (F : Nat → Prop) (w : World) (h : MgR F w m q) (hok : m.partOk 2 = true) : Calls Try.prog 74 #[.agg #[.int .i64 m.kind, .int .i64 m.view, .int .i64 m.seq, .int .i64 m.client, .int .i64 m.stamp, .int .i64 m.e.c, .int .i64 m.e.s, .int .i64 m.e.t, .slice q.ea m.e.dig.length q.ec, .slice q.ga m.dig.length q.gc, .slice q.da m.data.length q.dc, .slice q.pa m.proof.length q.pc, .slice q.va m.proven.length q.vc], .int .i64 2] w (PkF F (m.partPack 2) w) := by
  have hB := (Below.refl w.heap.size w).alloc (Nat.le_refl _) (.cells #[.int .i64 m.kind, .int .i64 m.view, .int .i64 m.seq, .int .i64 m.client, .int .i64 m.stamp, .int .i64 m.e.c, .int .i64 m.e.s, .int .i64 m.e.t, .slice q.ea m.e.dig.length q.ec, .slice q.ga m.dig.length q.gc, .slice q.da m.data.length q.dc, .slice q.pa m.proof.length q.pc, .slice q.va m.proven.length q.vc] 28)
  have HB := Lib.hid hB
  have HV := Lib.hid (show 0 ≤ m.client ∧ m.client < 4611686018427387904 by
    have h1 : peerB m.client = true := hok
    unfold peerB at h1
    simp only [decide_eq_true_eq] at h1
    omega)
  clear h hok hB
  go_enter Try.func74, Try.ntmps74
  go_wp2_with fail
  refine (numI_ok m.client _ HV.out.1 HV.out.2).mono ?_
  rintro e w1 ⟨A1, n1, c1, rfl, ho1, hb1⟩
  obtain ⟨rfl, hf⟩ := bf_new (F := F) ho1 HB.out.size
  have HF := Lib.hid hf
  have HB1 := Lib.hid (below_next HB.out hb1 HB.out.size)
  clear ho1 hb1 hf
  go_wp2_with fail
  refine (mustB_yes _ _ _ _).mono ?_
  rintro e w2 ⟨rfl, rfl⟩
  go_wp2_with fail
  go_ret
  exact ⟨HB1.out, .inl ⟨_, rfl, A1, c1, rfl, HF.out⟩⟩

theorem packPart_3 (m : Mg) (q : Mad) (F : Nat → Prop) (w : World) (h : MgR F w m q) (hok : m.partOk 3 = true) : Calls Try.prog 74 #[.agg #[.int .i64 m.kind, .int .i64 m.view, .int .i64 m.seq, .int .i64 m.client, .int .i64 m.stamp, .int .i64 m.e.c, .int .i64 m.e.s, .int .i64 m.e.t, .slice q.ea m.e.dig.length q.ec, .slice q.ga m.dig.length q.gc, .slice q.da m.data.length q.dc, .slice q.pa m.proof.length q.pc, .slice q.va m.proven.length q.vc], .int .i64 3] w (PkF F (m.partPack 3) w) := by
  have hB := (Below.refl w.heap.size w).alloc (Nat.le_refl _) (.cells #[.int .i64 m.kind, .int .i64 m.view, .int .i64 m.seq, .int .i64 m.client, .int .i64 m.stamp, .int .i64 m.e.c, .int .i64 m.e.s, .int .i64 m.e.t, .slice q.ea m.e.dig.length q.ec, .slice q.ga m.dig.length q.gc, .slice q.da m.data.length q.dc, .slice q.pa m.proof.length q.pc, .slice q.va m.proven.length q.vc] 28)
  have HB := Lib.hid hB
  have HV := Lib.hid (show 0 ≤ m.stamp ∧ m.stamp < 4611686018427387904 by
    have h1 : wideB m.stamp = true := hok
    unfold wideB at h1
    simp only [decide_eq_true_eq] at h1
    omega)
  clear h hok hB
  go_enter Try.func74, Try.ntmps74
  go_wp2_with fail
  refine (numI_ok m.stamp _ HV.out.1 HV.out.2).mono ?_
  rintro e w1 ⟨A1, n1, c1, rfl, ho1, hb1⟩
  obtain ⟨rfl, hf⟩ := bf_new (F := F) ho1 HB.out.size
  have HF := Lib.hid hf
  have HB1 := Lib.hid (below_next HB.out hb1 HB.out.size)
  clear ho1 hb1 hf
  go_wp2_with fail
  refine (mustB_yes _ _ _ _).mono ?_
  rintro e w2 ⟨rfl, rfl⟩
  go_wp2_with fail
  go_ret
  exact ⟨HB1.out, .inl ⟨_, rfl, A1, c1, rfl, HF.out⟩⟩

theorem packPart_4 (m : Mg) (q : Mad) (F : Nat → Prop) (w : World) (h : MgR F w m q) (hok : m.partOk 4 = true) : Calls Try.prog 74 #[.agg #[.int .i64 m.kind, .int .i64 m.view, .int .i64 m.seq, .int .i64 m.client, .int .i64 m.stamp, .int .i64 m.e.c, .int .i64 m.e.s, .int .i64 m.e.t, .slice q.ea m.e.dig.length q.ec, .slice q.ga m.dig.length q.gc, .slice q.da m.data.length q.dc, .slice q.pa m.proof.length q.pc, .slice q.va m.proven.length q.vc], .int .i64 4] w (PkF F (m.partPack 4) w) := by
  have hB := (Below.refl w.heap.size w).alloc (Nat.le_refl _) (.cells #[.int .i64 m.kind, .int .i64 m.view, .int .i64 m.seq, .int .i64 m.client, .int .i64 m.stamp, .int .i64 m.e.c, .int .i64 m.e.s, .int .i64 m.e.t, .slice q.ea m.e.dig.length q.ec, .slice q.ga m.dig.length q.gc, .slice q.da m.data.length q.dc, .slice q.pa m.proof.length q.pc, .slice q.va m.proven.length q.vc] 28)
  have HB := Lib.hid hB
  have HC := Lib.hid (packEntry_any m.e q.ea q.ec F (w.alloc (.cells #[.int .i64 m.kind, .int .i64 m.view, .int .i64 m.seq, .int .i64 m.client, .int .i64 m.stamp, .int .i64 m.e.c, .int .i64 m.e.s, .int .i64 m.e.t, .slice q.ea m.e.dig.length q.ec, .slice q.ga m.dig.length q.gc, .slice q.da m.data.length q.dc, .slice q.pa m.proof.length q.pc, .slice q.va m.proven.length q.vc] 28)) (h.e.below hB) hok)
  clear h hok hB
  go_enter Try.func74, Try.ntmps74
  go_wp2_with fail
  refine HC.out.mono ?_
  rintro e w1 ⟨A1, n1, c1, rfl, ho1, hb1⟩
  obtain ⟨rfl, hf⟩ := bf_new (F := F) ho1 HB.out.size
  have HF := Lib.hid hf
  have HB1 := Lib.hid (below_next HB.out hb1 HB.out.size)
  clear ho1 hb1 hf
  go_wp2_with fail
  go_ret
  exact ⟨HB1.out, .inl ⟨_, rfl, A1, c1, rfl, HF.out⟩⟩

theorem packPart_5 (m : Mg) (q : Mad) (F : Nat → Prop) (w : World) (h : MgR F w m q) (hok : m.partOk 5 = true) : Calls Try.prog 74 #[.agg #[.int .i64 m.kind, .int .i64 m.view, .int .i64 m.seq, .int .i64 m.client, .int .i64 m.stamp, .int .i64 m.e.c, .int .i64 m.e.s, .int .i64 m.e.t, .slice q.ea m.e.dig.length q.ec, .slice q.ga m.dig.length q.gc, .slice q.da m.data.length q.dc, .slice q.pa m.proof.length q.pc, .slice q.va m.proven.length q.vc], .int .i64 5] w (PkF F (m.partPack 5) w) := by
  have hB := (Below.refl w.heap.size w).alloc (Nat.le_refl _) (.cells #[.int .i64 m.kind, .int .i64 m.view, .int .i64 m.seq, .int .i64 m.client, .int .i64 m.stamp, .int .i64 m.e.c, .int .i64 m.e.s, .int .i64 m.e.t, .slice q.ea m.e.dig.length q.ec, .slice q.ga m.dig.length q.gc, .slice q.da m.data.length q.dc, .slice q.pa m.proof.length q.pc, .slice q.va m.proven.length q.vc] 28)
  have HB := Lib.hid hB
  have HF := Lib.hid (show BF (fun b => F b ∨ w.heap.size ≤ b) (w.alloc (.cells #[.int .i64 m.kind, .int .i64 m.view, .int .i64 m.seq, .int .i64 m.client, .int .i64 m.stamp, .int .i64 m.e.c, .int .i64 m.e.s, .int .i64 m.e.t, .slice q.ea m.e.dig.length q.ec, .slice q.ga m.dig.length q.gc, .slice q.da m.data.length q.dc, .slice q.pa m.proof.length q.pc, .slice q.va m.proven.length q.vc] 28)) q.ga q.gc m.dig from h.g.keep (Kp.of_below hB) fun _ h _ => .inl h)
  clear h hok hB
  go_enter Try.func74, Try.ntmps74
  go_wp2_with fail
  go_ret
  exact ⟨HB.out, .inl ⟨m.dig, rfl, q.ga, q.gc, rfl, HF.out⟩⟩

theorem packPart_6 (m : Mg) (q : Mad) (F : Nat → Prop) (w : World) (h : MgR F w m q) (hok : m.partOk 6 = true) : Calls Try.prog 74 #[.agg #[.int .i64 m.kind, .int .i64 m.view, .int .i64 m.seq, .int .i64 m.client, .int .i64 m.stamp, .int .i64 m.e.c, .int .i64 m.e.s, .int .i64 m.e.t, .slice q.ea m.e.dig.length q.ec, .slice q.ga m.dig.length q.gc, .slice q.da m.data.length q.dc, .slice q.pa m.proof.length q.pc, .slice q.va m.proven.length q.vc], .int .i64 6] w (PkF F (m.partPack 6) w) := by
  have hB := (Below.refl w.heap.size w).alloc (Nat.le_refl _) (.cells #[.int .i64 m.kind, .int .i64 m.view, .int .i64 m.seq, .int .i64 m.client, .int .i64 m.stamp, .int .i64 m.e.c, .int .i64 m.e.s, .int .i64 m.e.t, .slice q.ea m.e.dig.length q.ec, .slice q.ga m.dig.length q.gc, .slice q.da m.data.length q.dc, .slice q.pa m.proof.length q.pc, .slice q.va m.proven.length q.vc] 28)
  have HB := Lib.hid hB
  have HF := Lib.hid (show BF (fun b => F b ∨ w.heap.size ≤ b) (w.alloc (.cells #[.int .i64 m.kind, .int .i64 m.view, .int .i64 m.seq, .int .i64 m.client, .int .i64 m.stamp, .int .i64 m.e.c, .int .i64 m.e.s, .int .i64 m.e.t, .slice q.ea m.e.dig.length q.ec, .slice q.ga m.dig.length q.gc, .slice q.da m.data.length q.dc, .slice q.pa m.proof.length q.pc, .slice q.va m.proven.length q.vc] 28)) q.da q.dc m.data from h.d.keep (Kp.of_below hB) fun _ h _ => .inl h)
  clear h hok hB
  go_enter Try.func74, Try.ntmps74
  go_wp2_with fail
  go_ret
  exact ⟨HB.out, .inl ⟨m.data, rfl, q.da, q.dc, rfl, HF.out⟩⟩

theorem packPart_7 (m : Mg) (q : Mad) (F : Nat → Prop) (w : World) (h : MgR F w m q) (hok : m.partOk 7 = true) : Calls Try.prog 74 #[.agg #[.int .i64 m.kind, .int .i64 m.view, .int .i64 m.seq, .int .i64 m.client, .int .i64 m.stamp, .int .i64 m.e.c, .int .i64 m.e.s, .int .i64 m.e.t, .slice q.ea m.e.dig.length q.ec, .slice q.ga m.dig.length q.gc, .slice q.da m.data.length q.dc, .slice q.pa m.proof.length q.pc, .slice q.va m.proven.length q.vc], .int .i64 7] w (PkF F (m.partPack 7) w) := by
  have hB := (Below.refl w.heap.size w).alloc (Nat.le_refl _) (.cells #[.int .i64 m.kind, .int .i64 m.view, .int .i64 m.seq, .int .i64 m.client, .int .i64 m.stamp, .int .i64 m.e.c, .int .i64 m.e.s, .int .i64 m.e.t, .slice q.ea m.e.dig.length q.ec, .slice q.ga m.dig.length q.gc, .slice q.da m.data.length q.dc, .slice q.pa m.proof.length q.pc, .slice q.va m.proven.length q.vc] 28)
  have HB := Lib.hid hB
  have HC := Lib.hid (packListL_any q.pa q.pc m.proof F (w.alloc (.cells #[.int .i64 m.kind, .int .i64 m.view, .int .i64 m.seq, .int .i64 m.client, .int .i64 m.stamp, .int .i64 m.e.c, .int .i64 m.e.s, .int .i64 m.e.t, .slice q.ea m.e.dig.length q.ec, .slice q.ga m.dig.length q.gc, .slice q.da m.data.length q.dc, .slice q.pa m.proof.length q.pc, .slice q.va m.proven.length q.vc] 28)) (h.p.below hB) (ltsOk_mem hok))
  clear h hok hB
  go_enter Try.func74, Try.ntmps74
  go_wp2_with fail
  refine HC.out.mono ?_
  rintro e w1 hp
  have hp' := pk_new (F := F) HB.out hp
  clear hp
  obtain ⟨hb1, ⟨l, hl, A1, c1, rfl, hf⟩ | ⟨hl, rfl⟩⟩ := hp'
  · have HF := Lib.hid hf
    have HB1 := Lib.hid hb1
    have HL := Lib.hid hl
    clear hf hb1 hl
    go_wp2_with fail
    go_ret
    exact ⟨HB1.out, .inl ⟨l, HL.out, A1, c1, rfl, HF.out⟩⟩
  · exact ⟨rfl, hb1, .inr ⟨hl, rfl⟩⟩

theorem packPart_8 (m : Mg) (q : Mad) (F : Nat → Prop) (w : World) (h : MgR F w m q) (hok : m.partOk 8 = true) : Calls Try.prog 74 #[.agg #[.int .i64 m.kind, .int .i64 m.view, .int .i64 m.seq, .int .i64 m.client, .int .i64 m.stamp, .int .i64 m.e.c, .int .i64 m.e.s, .int .i64 m.e.t, .slice q.ea m.e.dig.length q.ec, .slice q.ga m.dig.length q.gc, .slice q.da m.data.length q.dc, .slice q.pa m.proof.length q.pc, .slice q.va m.proven.length q.vc], .int .i64 8] w (PkF F (m.partPack 8) w) := by
  have hB := (Below.refl w.heap.size w).alloc (Nat.le_refl _) (.cells #[.int .i64 m.kind, .int .i64 m.view, .int .i64 m.seq, .int .i64 m.client, .int .i64 m.stamp, .int .i64 m.e.c, .int .i64 m.e.s, .int .i64 m.e.t, .slice q.ea m.e.dig.length q.ec, .slice q.ga m.dig.length q.gc, .slice q.da m.data.length q.dc, .slice q.pa m.proof.length q.pc, .slice q.va m.proven.length q.vc] 28)
  have HB := Lib.hid hB
  have HC := Lib.hid (packListP_any q.va q.vc m.proven F (w.alloc (.cells #[.int .i64 m.kind, .int .i64 m.view, .int .i64 m.seq, .int .i64 m.client, .int .i64 m.stamp, .int .i64 m.e.c, .int .i64 m.e.s, .int .i64 m.e.t, .slice q.ea m.e.dig.length q.ec, .slice q.ga m.dig.length q.gc, .slice q.da m.data.length q.dc, .slice q.pa m.proof.length q.pc, .slice q.va m.proven.length q.vc] 28)) (h.v.below hB) (pvsOk_mem hok))
  clear h hok hB
  go_enter Try.func74, Try.ntmps74
  go_wp2_with fail
  refine HC.out.mono ?_
  rintro e w1 hp
  have hp' := pk_new (F := F) HB.out hp
  clear hp
  obtain ⟨hb1, ⟨l, hl, A1, c1, rfl, hf⟩ | ⟨hl, rfl⟩⟩ := hp'
  · have HF := Lib.hid hf
    have HB1 := Lib.hid hb1
    have HL := Lib.hid hl
    clear hf hb1 hl
    go_wp2_with fail
    go_ret
    exact ⟨HB1.out, .inl ⟨l, HL.out, A1, c1, rfl, HF.out⟩⟩
  · exact ⟨rfl, hb1, .inr ⟨hl, rfl⟩⟩

theorem packPart_any (m : Mg) (q : Mad) (p : Nat) (hp : p < 9) (F : Nat → Prop) (w : World) (h : MgR F w m q) (hok : m.partOk p = true) : Calls Try.prog 74 #[.agg #[.int .i64 m.kind, .int .i64 m.view, .int .i64 m.seq, .int .i64 m.client, .int .i64 m.stamp, .int .i64 m.e.c, .int .i64 m.e.s, .int .i64 m.e.t, .slice q.ea m.e.dig.length q.ec, .slice q.ga m.dig.length q.gc, .slice q.da m.data.length q.dc, .slice q.pa m.proof.length q.pc, .slice q.va m.proven.length q.vc], pv p] w (PkF F (m.partPack p) w) := by
  match p, hp with
  | 0, _ => exact packPart_0 m q F w h hok
  | 1, _ => exact packPart_1 m q F w h hok
  | 2, _ => exact packPart_2 m q F w h hok
  | 3, _ => exact packPart_3 m q F w h hok
  | 4, _ => exact packPart_4 m q F w h hok
  | 5, _ => exact packPart_5 m q F w h hok
  | 6, _ => exact packPart_6 m q F w h hok
  | 7, _ => exact packPart_7 m q F w h hok
  | 8, _ => exact packPart_8 m q F w h hok

theorem part_pack_len {m : Mg} {p : Nat} {b : List UInt8} (hok : m.partOk p = true) (h : m.partPack p = some b) : b.length ≤ 4194880 := by
  have num : ∀ v : Int, wideB v = true ∨ peerB v = true → (encI v).length ≤ 9 := by
    intro v hv
    unfold wideB peerB at hv
    simp only [decide_eq_true_eq] at hv
    exact encN_len9 (by omega)
  match p with
  | 0 => injection h with h; subst h; have := num _ (.inl hok); omega
  | 1 => injection h with h; subst h; have := num _ (.inl hok); omega
  | 2 => injection h with h; subst h; have := num _ (.inr hok); omega
  | 3 => injection h with h; subst h; have := num _ (.inl hok); omega
  | 4 =>
    injection h with h
    subst h
    have := joinX_len (en_join hok)
    simp at this
    omega
  | 5 =>
    injection h with h
    subst h
    have h1 : decide (m.dig.length = 32) = true := hok
    simp at h1
    omega
  | 6 =>
    injection h with h
    subst h
    have h1 : decide (m.data.length ≤ maxDataN m.kind) = true := hok
    simp only [decide_eq_true_eq] at h1
    have h2 : maxDataN m.kind ≤ 65536 := by unfold maxDataN; split <;> omega
    omega
  | 7 =>
    have h1 := packList_len (show packList Lt.pack m.proof = some b from h)
    have h2 := (ltsOk_mem hok).1
    omega
  | k + 8 =>
    have h1 := packList_len (show packList Pv.pack m.proven = some b from h)
    have h2 := (pvsOk_mem hok).1
    omega
/-- a row of one slice that was just laid -/
theorem own_one (w : World) (v : Value) (x : List UInt8) (base : Nat) (hb : base ≤ w.heap.size) (h : RB.rd AllB w [v] x) : OwnS RB 22 AllB base (w.alloc (.cells #[v] 22)) (some ⟨w.heap.size, 0, none⟩) 1 1 [x] := by
  refine ⟨rfl, [[v]], rfl, ?_, fun k y cs hy hc => ?_⟩
  · exact World.ownsRow_lit (e := 22) (base := base) (size := 1) w #[v] 1 hb (by simp [maxLen]) rfl
  · match k, hy, hc with
    | 0, hy, hc =>
      injection hy with hy
      injection hc with hc
      subst hy hc
      refine RB.keep h (Kp.of_below ((Below.refl _ _).alloc (Nat.le_refl _) _)) fun b _ hb => ⟨trivial, ?_⟩
      simp [Value.ownBlock]
      omega
theorem packMsg_any (m : Mg) (q : Mad) (w : World) (h : MgR AllB w m q) (hk : kindB m.kind = true) (hok : m.ok = true) : Calls Try.prog 38 #[.agg #[.int .i64 m.kind, .int .i64 m.view, .int .i64 m.seq, .int .i64 m.client, .int .i64 m.stamp, .int .i64 m.e.c, .int .i64 m.e.s, .int .i64 m.e.t, .slice q.ea m.e.dig.length q.ec, .slice q.ga m.dig.length q.gc, .slice q.da m.data.length q.dc, .slice q.pa m.proof.length q.pc, .slice q.va m.proven.length q.vc]] w (Pk m.pack w) := by
  obtain ⟨i0, hi, hz0, hz1, hz2⟩ := info_parts info_bytes
  have hB := (Below.refl w.heap.size w).alloc (Nat.le_refl _) (.cells #[.int .i64 m.kind, .int .i64 m.view, .int .i64 m.seq, .int .i64 m.client, .int .i64 m.stamp, .int .i64 m.e.c, .int .i64 m.e.s, .int .i64 m.e.t, .slice q.ea m.e.dig.length q.ec, .slice q.ga m.dig.length q.gc, .slice q.da m.data.length q.dc, .slice q.pa m.proof.length q.pc, .slice q.va m.proven.length q.vc] 28)
  have HB := Lib.hid hB
  have HK := Lib.hid (Bk.new w 28 [.int .i64 m.kind, .int .i64 m.view, .int .i64 m.seq, .int .i64 m.client, .int .i64 m.stamp, .int .i64 m.e.c, .int .i64 m.e.s, .int .i64 m.e.t, .slice q.ea m.e.dig.length q.ec, .slice q.ga m.dig.length q.gc, .slice q.da m.data.length q.dc, .slice q.pa m.proof.length q.pc, .slice q.va m.proven.length q.vc])
  have HR := Lib.hid ((h.keep (F' := fun b => b < w.heap.size) ⟨Nat.le_refl _, fun _ _ _ => rfl⟩ fun _ _ h => h).below hB)
  have HL := Lib.hid (parts_lt m.kind)
  have HN := Lib.hid (parts_len m.kind)
  have HKB := Lib.hid hk
  have HOK := Lib.hid (show ∀ p ∈ partsN m.kind, m.partOk p = true by
    unfold Mg.ok at hok
    simp only [Bool.and_eq_true, List.all_eq_true] at hok
    exact hok.1)
  have HKI := Lib.hid (show 0 ≤ m.kind ∧ m.kind < 4611686018427387904 by unfold kindB at hk; simp only [decide_eq_true_eq] at hk; omega)
  have HMP := Lib.hid (show m.pack = match allX m.partPack (partsN m.kind) with | none => none | some rows => joinX (encI m.kind :: rows) from rfl)
  have HPA := Lib.hid (fun W => partsOf_any m.kind W)
  unfold PartsP at HPA
  rw [hk] at HPA
  clear h hk hok hB
  generalize partsN m.kind = ps at *
  go_enter Try.func38, Try.ntmps38
  go_wp2_with fail
  refine (numI_ok m.kind _ HKI.out.1 HKI.out.2).mono ?_
  rintro e w1 ⟨A1, n1, c1, rfl, ho1, hb1⟩
  have HB1 := Lib.hid (below_next HB.out hb1 HB.out.size)
  have HK1 := Lib.hid (HK.out.kept hb1)
  have HR1 := Lib.hid (HR.out.below hb1)
  have HO1 := Lib.hid ho1
  clear hb1 ho1
  have e0 := HK1.out.at_ (i := 0) rfl
  go_wp2_with fail
  refine (mustB_yes _ _ _ _).mono ?_
  rintro e w2 ⟨rfl, rfl⟩
  obtain rfl : (encI m.kind).length = n1 := HO1.out.len
  have HS := Lib.hid (own_one w1 (.slice A1 (encI m.kind).length c1) (encI m.kind) w.heap.size HB1.out.size ⟨A1, c1, rfl, (BF.own HO1.out).all⟩)
  have hB2 := (Below.refl w1.heap.size w1).alloc (Nat.le_refl _) (.cells #[.slice A1 (encI m.kind).length c1] 22)
  have HB2 := Lib.hid (below_next HB1.out hB2 HB1.out.size)
  have HK2 := Lib.hid (HK1.out.kept hB2)
  have HR2 := Lib.hid (HR1.out.below hB2)
  have e1 := HK2.out.at_ (i := 0) rfl
  clear hB2 HO1 HB HK HR e0
  go_wp2_with fail
  refine (HPA.out _).mono ?_
  rintro e w3 ⟨hb3, ⟨_, a, rfl, hr3, ha⟩ | ⟨hk3, _⟩⟩
  rotate_left
  · cases hk3
  have HB3 := Lib.hid (below_next HB2.out hb3 HB2.out.size)
  have HK3 := Lib.hid (HK2.out.kept hb3)
  have HR3 := Lib.hid (HR2.out.below hb3)
  have HS3 := Lib.hid (HS.out.below hb3)
  have HP3 := Lib.hid hr3
  have HPS := Lib.hid (show ∀ g, some g = (Value.slice (some (⟨w1.heap.size, 0, none⟩ : Addr)) 1 1).ownBlock → g ≠ a.block by
    intro g hg
    simp [Value.ownBlock] at hg
    simp at ha
    omega)
  clear hb3 hr3 ha e1 HB1 HK1 HR1 HB2 HK2 HR2 HS
  go_wp2_with fail
  go_loopw [3, 17] (fun s i wr => ∃ (A' : Option Addr) (n' c' k : Nat) (rows : List (List UInt8)), k ≤ ps.length ∧ s = .slice A' n' c' ∧ i = .int .i64 k ∧ OwnS RB 22 AllB w.heap.size wr A' n' c' (encI m.kind :: rows) ∧ allX m.partPack (ps.take k) = some rows ∧
    Bk wr w.heap.size 28 [.int .i64 m.kind, .int .i64 m.view, .int .i64 m.seq, .int .i64 m.client, .int .i64 m.stamp, .int .i64 m.e.c, .int .i64 m.e.s, .int .i64 m.e.t, .slice q.ea m.e.dig.length q.ec, .slice q.ga m.dig.length q.gc, .slice q.da m.data.length q.dc, .slice q.pa m.proof.length q.pc, .slice q.va m.proven.length q.vc] ∧ MgR (fun b => b < w.heap.size) wr m q ∧ Rd wr (some a) ps.length (ps.map pv) ∧ (Value.slice A' n' c').ownBlock ≠ some a.block ∧ Below w.heap.size w wr) (fun _ i _ => ps.length - (intOf i).toNat)
  case atStart =>
    refine ⟨_, 1, 1, 0, [], by omega, rfl, rfl, HS3.out, rfl, HK3.out, HR3.out, HP3.out, ?_, HB3.out⟩
    intro hh; exact HPS.out _ hh.symm rfl
  case round =>
    obtain ⟨A', n', c', k, rows, hk, rfl, rfl, ho, ha, kb, hrm, hrp, hne, hb⟩ := hrel
    have hal := allX_len ha
    have hol := ho.1
    rw [List.length_take] at hal
    rw [List.length_cons] at hol
    obtain rfl : n' = k + 1 := by omega
    have HA := Lib.hid ha
    have HB := Lib.hid hb
    by_cases hlt : k < ps.length
    · obtain ⟨a', ea, hab, hca⟩ := hrp.at_ hlt
      obtain rfl := Option.some.inj ea
      have hx : ps[k]? = some ps[k] := List.getElem?_eq_getElem hlt
      have gx : (ps.map pv).getD k undef = .int .i64 (ps[k] : Int) := by simp [pv, hlt]
      rw [gx] at hca
      have hmem := List.getElem_mem hlt
      have HM := Lib.hid hmem
      have HSN := Lib.hid (show ps.take (k + 1) = ps.take k ++ [ps[k]] from List.take_succ_eq_append_getElem hlt)
      have HC := Lib.hid (packPart_any m q ps[k] (HL.out _ hmem) (fun b => b < w.heap.size) wr hrm (HOK.out _ hmem))
      unfold pv at HC
      generalize ps[k] = p at *
      have y1 : (0 : Int) ≤ (k : Int) := by omega
      have y2 : (k : Int) < (ps.length : Int) := by omega
      have y3 : ps.length ≤ 4 := HN.out
      have HO := Lib.hid ho
      have HK := Lib.hid kb
      have HR := Lib.hid hrm
      have HP := Lib.hid hrp
      have HNE := Lib.hid hne
      have HAB := Lib.hid hab
      have z0 := kb.at_ (i := 0) rfl
      have z1 := kb.at_ (i := 1) rfl
      have z2 := kb.at_ (i := 2) rfl
      have z3 := kb.at_ (i := 3) rfl
      have z4 := kb.at_ (i := 4) rfl
      have z5 := kb.at_ (i := 5) rfl
      have z6 := kb.at_ (i := 6) rfl
      have z7 := kb.at_ (i := 7) rfl
      have z8 := kb.at_ (i := 8) rfl
      have z9 := kb.at_ (i := 9) rfl
      have z10 := kb.at_ (i := 10) rfl
      have z11 := kb.at_ (i := 11) rfl
      have z12 := kb.at_ (i := 12) rfl
      clear ho kb hrm hrp hne hab ha hb hx gx hmem ea hal hol
      go_wp2_with fail
      refine HC.out.mono ?_
      rintro e w4 ⟨hb4, ⟨l, hl, A4, c4, rfl, hf⟩ | ⟨hl, rfl⟩⟩
      · have HB4 := Lib.hid (below_next HB.out hb4 HB.out.size)
        have HK4 := Lib.hid (HK.out.kept hb4)
        have HR4 := Lib.hid (HR.out.below hb4)
        have HP4 := Lib.hid (HP.out.below hb4)
        have HF := Lib.hid hf
        have HL4 := Lib.hid hl
        have HBG := Lib.hid (fun g hg => HO.out.block g hg)
        have HBL := Lib.hid (fun g hg => HO.out.block_lt g hg)
        have HS4 := Lib.hid hb4.size
        obtain ⟨hl0, css, hcl, hou, hin⟩ := HO.out.below hb4
        have HL0 := Lib.hid hl0
        have HCL := Lib.hid hcl
        have HIN := Lib.hid hin
        have hs4 := HB4.out.size
        clear hb4 hf hl hl0 hcl hin z0 z1 z2 z3 z4 z5 z6 z7 z8 z9 z10 z11 z12 hca
        go_wp2_with (at_builtin
                     refine wpList_append_rd _ rfl _ _ 44 rfl w.heap.size 22 i0 _ 24 Try.underlying44 hi hz0 hz1 hz2 rfl A' (k + 1) c' css.flatten rfl (World.ownsRow.alloc hou _) (some ⟨w4.heap.size, 0, none⟩) 1 1 [.slice A4 l.length c4] rfl
                       (Rd.new w4 [Value.slice A4 l.length c4] 22) (by simp [Value.oneCell']) (by simp only [maxLen]; omega) (by omega) (by simp; omega) ?_
                     intro A5 c5 w5 hown5 hg5 hrow5)
        have hB5 := (Below.refl w4.heap.size w4).alloc (Nat.le_refl _) (.cells #[.slice A4 l.length c4] 22)
        have HX := Lib.hid (show OwnS RB 22 AllB w.heap.size w5 A5 (k + 1 + 1) c5 ((encI m.kind :: rows) ++ [l]) from
          OwnS.push (R := RB) (G := AllB) (F := fun b => b < w.heap.size ∨ wr.heap.size ≤ b) (w := w4.alloc (.cells #[.slice A4 l.length c4] 22)) HL0.out HCL.out (fun j y cs hy hc => RB.below (HIN.out j y cs hy hc) hB5) ⟨A4, c4, rfl, HF.out.below hB5⟩
            (fun b hb _ => ⟨trivial, fun e => by
              rcases hb with hb | hb
              · have := HBG.out b e.symm; omega
              · have := HBL.out b e.symm; omega⟩) hg5 hown5 hrow5)
        have HB5 := Lib.hid ((HB4.out.alloc HB4.out.size (.cells #[.slice A4 l.length c4] 22)).grown hg5 (by have := HB4.out.size; simp; omega) (fun g hg => HBG.out g hg))
        have HK5 := Lib.hid ((HK4.out.alloc (.cells #[.slice A4 l.length c4] 22)).grown hg5 (fun e => own_ne hou HK4.out (by decide) e.symm))
        have HR5 := Lib.hid ((HR4.out.below hB5).keep (Kp.of_grown hg5 (fun b hb e => by have := HBG.out b e.symm; omega)) fun _ h _ => h)
        have HP5 := Lib.hid ((HP4.out.below hB5).grown hg5 (fun a2 e e2 => by cases e; exact HNE.out e2))
        have HN5 := Lib.hid (show (Value.slice A5 (k + 1 + 1) c5).ownBlock ≠ some a.block by
          rcases hrow5 with e | e
          · rw [e]; exact HNE.out
          · rw [e]; intro q2; injection q2 with q2; have := HAB.out; have := HS4.out; simp at q2; omega)
        clear hown5 hg5 hrow5 hB5 hou
        go_roundw
        case rel => exact ⟨A5, k + 1 + 1, c5, k + 1, rows ++ [l], by omega, rfl, by go_num, HX.out, by rw [HSN.out]; exact allX_snoc HA.out HL4.out, HK5.out, HR5.out, HP5.out, HN5.out, HB5.out⟩
        case measure => simp [intOf]; omega
      · refine ⟨rfl, below_next HB.out hb4 HB.out.size, .inr ⟨?_, rfl⟩⟩
        rw [HMP.out, allX_none HM.out hl]
    · have e : ps.take k = ps := List.take_of_length_le (by omega)
      have HA := Lib.hid (show allX m.partPack ps = some rows by have := HA.out; rwa [e] at this)
      have HP := Lib.hid (show m.pack = joinX (encI m.kind :: rows) by rw [HMP.out, HA.out])
      have HT := Lib.hid (show total (encI m.kind :: rows) ≤ 68719476736 by
        have h1 := total_bound (N := 4194880) (ls := rows) (fun b hb => by obtain ⟨x, hx1, hx⟩ := allX_mem HA.out b hb; exact part_pack_len (HOK.out x hx1) hx)
        have h2 := allX_len HA.out
        have h3 := encN_len9 (v := m.kind.toNat) (by have := HKI.out; omega)
        have h4 := HN.out
        simp only [total]
        unfold encI
        have : rows.length * (1 + 4194880) ≤ 4 * (1 + 4194880) := Nat.mul_le_mul_right _ (by omega)
        omega)
      have HRR := Lib.hid (ho.rds (fun _ _ => trivial)).rows
      rw [show (encI m.kind :: rows).length = k + 1 by simp; omega] at HRR
      clear e ha hb ho hal hol kb hrm hrp hne
      go_wp2_with fail
      refine (joinX_any _ _ _ _ _ HRR.out HT.out).mono ?_
      rw [← HP.out]
      rintro e w4 ⟨hb1, ⟨b, hbk, A4, n4, c4, rfl, ho4⟩ | ⟨hbk, rfl⟩⟩
      · have HB2 := Lib.hid (below_next HB.out hb1 HB.out.size)
        have HBK := Lib.hid hbk
        have HO := Lib.hid (ho4.more HB.out.size)
        clear hb1 hbk ho4
        go_wp2_with fail
        refine (mustB_yes _ _ _ _).mono ?_
        rintro e w5 ⟨rfl, rfl⟩
        go_wp2_with fail
        go_ret
        exact ⟨HB2.out, .inl ⟨b, HBK.out, A4, n4, c4, rfl, HO.out⟩⟩
      · have HB2 := Lib.hid (below_next HB.out hb1 HB.out.size)
        have HBK := Lib.hid hbk
        clear hb1 hbk
        go_wp2_with fail
        refine (mustB_no _ 13 (by decide) _).mono ?_
        rintro e w5 ⟨rfl, rfl⟩
        exact ⟨rfl, HB2.out, .inr ⟨HBK.out, rfl⟩⟩
end Go.Proofs.Ytmgmmbgjmnklkaa
