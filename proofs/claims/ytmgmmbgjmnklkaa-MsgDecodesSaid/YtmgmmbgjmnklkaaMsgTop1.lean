/-
  The program's Encode, PackLetter, PackEntry. Walks; no statement.
-/
import Derived.Test.YtmgmmbgjmnklkaaMsgCaught
namespace Go.Proofs.Ytmgmmbgjmnklkaa
set_option maxRecDepth 100000
open Go.RowKit
open Pk
set_option linter.unusedVariables false

/-- PackLetter's answer, PackEntry's answer -/
def Lt.encode (l : Lt) : Nat × List UInt8 := if l.ok = false then (81, []) else match l.pack with
  | none => (13, [])
  | some b => (0, b)
def En.encode (e : En) : Nat × List UInt8 := if e.ok = false then (81, []) else (0, e.pack)
/-- bytes and an error came back -/
def EncP (r : Nat × List UInt8) (w : World) (e : Ending) (w' : World) : Prop :=
  Below w.heap.size w w' ∧ ∃ A n c, e = .returned (.tuple #[.slice A n c, .int .i64 (r.1 : Int)]) ∧ OwnB w' w.heap.size A n c r.2
theorem OwnB.past {w w' : World} {B g : Nat} {A : Option Addr} {n c : Nat} {l : List UInt8} (h : OwnB w B A n c l) (hg : w.grownBy w' (some g)) (hB : g < B) : OwnB w' B A n c l := by
  refine World.ownsRow.kept h hg ?_
  rcases hb : (Value.slice A n c).ownBlock with _ | b
  · exact .inl rfl
  · right
    intro e
    injection e with e
    have := h.block b hb
    omega
def EOK (r : Nat × List UInt8) (B : Nat) (v : Value) (w' : World) : Prop := ∃ l, r = (0, l) ∧ ∃ A n c, v = .slice A n c ∧ OwnB w' B A n c l
def EBAD (r : Nat × List UInt8) (k : Int) : Prop := ∃ j : Nat, k = (j : Int) ∧ r = (j, [])

theorem packCloM (m : Mg) (q : Mad) (b1 b2 b3 : Nat) (W : World) (k1 : Bk W b1 66 [.func (.func 37) #[] #[]]) (k2 : Bk W b2 28 [.int .i64 m.kind, .int .i64 m.view, .int .i64 m.seq, .int .i64 m.client, .int .i64 m.stamp, .int .i64 m.e.c, .int .i64 m.e.s, .int .i64 m.e.t, .slice q.ea m.e.dig.length q.ec, .slice q.ga m.dig.length q.gc, .slice q.da m.data.length q.dc, .slice q.pa m.proof.length q.pc, .slice q.va m.proven.length q.vc]) (k3 : Bk W b3 67 [.func (.func 38) #[] #[]]) (h : MgR AllB W m q) (hwf : m.wf) :
    Calls Try.prog 68 #[.pointer (some ⟨b1, 0, none⟩), .pointer (some ⟨b2, 0, none⟩), .pointer (some ⟨b3, 0, none⟩)] W (Does (EOK m.encode W.heap.size) (EBAD m.encode) W) := by
  have HH := Lib.hid h
  have HW := Lib.hid hwf
  have K2 := Lib.hid k2
  have K3 := Lib.hid k3
  have a0 := k1.at_ (i := 0) rfl
  have d0 := k2.at_ (i := 0) rfl
  have d1 := k2.at_ (i := 1) rfl
  have d2 := k2.at_ (i := 2) rfl
  have d3 := k2.at_ (i := 3) rfl
  have d4 := k2.at_ (i := 4) rfl
  have d5 := k2.at_ (i := 5) rfl
  have d6 := k2.at_ (i := 6) rfl
  have d7 := k2.at_ (i := 7) rfl
  have d8 := k2.at_ (i := 8) rfl
  have d9 := k2.at_ (i := 9) rfl
  have d10 := k2.at_ (i := 10) rfl
  have d11 := k2.at_ (i := 11) rfl
  have d12 := k2.at_ (i := 12) rfl
  clear h hwf k1 k2 k3
  go_enter Try.func68, Try.ntmps68
  go_wp2_with fail
  refine (checkMsg_any m q AllB W HH.out HW.out).mono ?_
  rintro e w1 ⟨hb1, ⟨hk, rfl⟩ | ⟨hk, ho, rfl⟩ | ⟨hk, ho, rfl⟩⟩
  · exact ⟨rfl, hb1, .inr ⟨80, rfl, 80, rfl, by unfold Mg.encode; rw [if_pos hk]⟩⟩
  · exact ⟨rfl, hb1, .inr ⟨81, rfl, 81, rfl, by unfold Mg.encode; rw [if_neg (by rw [hk]; decide), if_pos ho]⟩⟩
  have HB1 := Lib.hid hb1
  have k2 := K2.out.kept hb1
  have k3 := (K3.out.kept hb1).at_ (i := 0) rfl
  have HH1 := Lib.hid (HH.out.below hb1)
  have HK := Lib.hid hk
  have HO := Lib.hid ho
  clear hb1 hk ho a0 d0 d1 d2 d3 d4 d5 d6 d7 d8 d9 d10 d11 d12
  have d0 := k2.at_ (i := 0) rfl
  have d1 := k2.at_ (i := 1) rfl
  have d2 := k2.at_ (i := 2) rfl
  have d3 := k2.at_ (i := 3) rfl
  have d4 := k2.at_ (i := 4) rfl
  have d5 := k2.at_ (i := 5) rfl
  have d6 := k2.at_ (i := 6) rfl
  have d7 := k2.at_ (i := 7) rfl
  have d8 := k2.at_ (i := 8) rfl
  have d9 := k2.at_ (i := 9) rfl
  have d10 := k2.at_ (i := 10) rfl
  have d11 := k2.at_ (i := 11) rfl
  have d12 := k2.at_ (i := 12) rfl
  clear k2
  go_wp2_with fail
  refine (packMsg_any m q w1 HH1.out HK.out HO.out).mono ?_
  rintro e w2 ⟨hb2, ⟨l, hl, A2, n2, c2, rfl, ho2⟩ | ⟨hl, rfl⟩⟩
  · have HB2 := Lib.hid (below_next HB1.out hb2 HB1.out.size)
    have HO2 := Lib.hid (ho2.more HB1.out.size)
    have HL := Lib.hid hl
    clear hb2 ho2 hl
    go_wp2_with fail
    go_ret
    exact ⟨HB2.out, .inl ⟨_, rfl, l, by unfold Mg.encode; rw [if_neg (by rw [HK.out]; decide), if_neg (by rw [HO.out]; decide)]; simp only [HL.out], A2, n2, c2, rfl, HO2.out⟩⟩
  · exact ⟨rfl, below_next HB1.out hb2 HB1.out.size, .inr ⟨13, rfl, 13, rfl, by unfold Mg.encode; rw [if_neg (by rw [HK.out]; decide), if_neg (by rw [HO.out]; decide)]; simp only [hl]⟩⟩
theorem packRightM_any (m : Mg) (q : Mad) (w : World) (h : MgR AllB w m q) (hwf : m.wf) :
    Calls Try.prog 36 #[.agg #[.int .i64 m.kind, .int .i64 m.view, .int .i64 m.seq, .int .i64 m.client, .int .i64 m.stamp, .int .i64 m.e.c, .int .i64 m.e.s, .int .i64 m.e.t, .slice q.ea m.e.dig.length q.ec, .slice q.ga m.dig.length q.gc, .slice q.da m.data.length q.dc, .slice q.pa m.proof.length q.pc, .slice q.va m.proven.length q.vc], .func (.func 37) #[] #[], .func (.func 38) #[] #[]] w (EncP m.encode w) := by
  have hmf : ∀ (fn : Fn) (first cap : Array Value) (w : World), (Instr.makeFunc fn first cap).run Try.prog w = .ok (.func fn first cap) w := fun _ _ _ _ => rfl
  have hB := ((((Below.refl w.heap.size w).alloc (Nat.le_refl _) (.cells #[.int .i64 m.kind, .int .i64 m.view, .int .i64 m.seq, .int .i64 m.client, .int .i64 m.stamp, .int .i64 m.e.c, .int .i64 m.e.s, .int .i64 m.e.t, .slice q.ea m.e.dig.length q.ec, .slice q.ga m.dig.length q.gc, .slice q.da m.data.length q.dc, .slice q.pa m.proof.length q.pc, .slice q.va m.proven.length q.vc] 28)).alloc (by simp) (.cells #[.func (.func 37) #[] #[]] 66)).alloc (by simp; omega) (.cells #[.func (.func 38) #[] #[]] 67))
  have HB := Lib.hid hB
  have K2 := Lib.hid (((Bk.new w 28 [.int .i64 m.kind, .int .i64 m.view, .int .i64 m.seq, .int .i64 m.client, .int .i64 m.stamp, .int .i64 m.e.c, .int .i64 m.e.s, .int .i64 m.e.t, .slice q.ea m.e.dig.length q.ec, .slice q.ga m.dig.length q.gc, .slice q.da m.data.length q.dc, .slice q.pa m.proof.length q.pc, .slice q.va m.proven.length q.vc]).alloc (.cells #[.func (.func 37) #[] #[]] 66)).alloc (.cells #[.func (.func 38) #[] #[]] 67))
  have k1 := (Bk.new (w.alloc (.cells #[.int .i64 m.kind, .int .i64 m.view, .int .i64 m.seq, .int .i64 m.client, .int .i64 m.stamp, .int .i64 m.e.c, .int .i64 m.e.s, .int .i64 m.e.t, .slice q.ea m.e.dig.length q.ec, .slice q.ga m.dig.length q.gc, .slice q.da m.data.length q.dc, .slice q.pa m.proof.length q.pc, .slice q.va m.proven.length q.vc] 28)) 66 [.func (.func 37) #[] #[]]).alloc (.cells #[.func (.func 38) #[] #[]] 67)
  rw [show (w.alloc (.cells #[.int .i64 m.kind, .int .i64 m.view, .int .i64 m.seq, .int .i64 m.client, .int .i64 m.stamp, .int .i64 m.e.c, .int .i64 m.e.s, .int .i64 m.e.t, .slice q.ea m.e.dig.length q.ec, .slice q.ga m.dig.length q.gc, .slice q.da m.data.length q.dc, .slice q.pa m.proof.length q.pc, .slice q.va m.proven.length q.vc] 28)).heap.size = w.heap.size + 1 by simp] at k1
  have K1 := Lib.hid k1
  have k3 := Bk.new ((w.alloc (.cells #[.int .i64 m.kind, .int .i64 m.view, .int .i64 m.seq, .int .i64 m.client, .int .i64 m.stamp, .int .i64 m.e.c, .int .i64 m.e.s, .int .i64 m.e.t, .slice q.ea m.e.dig.length q.ec, .slice q.ga m.dig.length q.gc, .slice q.da m.data.length q.dc, .slice q.pa m.proof.length q.pc, .slice q.va m.proven.length q.vc] 28)).alloc (.cells #[.func (.func 37) #[] #[]] 66)) 67 [.func (.func 38) #[] #[]]
  rw [show ((w.alloc (.cells #[.int .i64 m.kind, .int .i64 m.view, .int .i64 m.seq, .int .i64 m.client, .int .i64 m.stamp, .int .i64 m.e.c, .int .i64 m.e.s, .int .i64 m.e.t, .slice q.ea m.e.dig.length q.ec, .slice q.ga m.dig.length q.gc, .slice q.da m.data.length q.dc, .slice q.pa m.proof.length q.pc, .slice q.va m.proven.length q.vc] 28)).alloc (.cells #[.func (.func 37) #[] #[]] 66)).heap.size = w.heap.size + 1 + 1 by simp] at k3
  have K3 := Lib.hid k3
  have HH := Lib.hid (h.below hB)
  have HW := Lib.hid hwf
  clear h hwf hB k1 k3
  go_enter Try.func36, Try.ntmps36
  go_wp2_with fail
  obtain ⟨X, hX⟩ : ∃ X, X = ((w.alloc (.cells #[.int .i64 m.kind, .int .i64 m.view, .int .i64 m.seq, .int .i64 m.client, .int .i64 m.stamp, .int .i64 m.e.c, .int .i64 m.e.s, .int .i64 m.e.t, .slice q.ea m.e.dig.length q.ec, .slice q.ga m.dig.length q.gc, .slice q.da m.data.length q.dc, .slice q.pa m.proof.length q.pc, .slice q.va m.proven.length q.vc] 28)).alloc (.cells #[.func (.func 37) #[] #[]] 66)).alloc (.cells #[.func (.func 38) #[] #[]] 67) := ⟨_, rfl⟩
  rw [← hX] at HB K1 K2 K3 HH ⊢
  clear hX
  have hal := (Below.refl X.heap.size X).alloc (Nat.le_refl _) (.cells #[.int .i64 81] 32)
  refine (caughtB_any 68 ⟨w.heap.size + 1, 0, none⟩ ⟨w.heap.size, 0, none⟩ ⟨w.heap.size + 1 + 1, 0, none⟩ X (EOK m.encode (X.heap.size + 1)) (EBAD m.encode) (fun _ _ => rfl) ?_).mono ?_
  · have := packCloM m q (w.heap.size + 1) w.heap.size (w.heap.size + 1 + 1) (X.alloc (.cells #[.int .i64 81] 32)) (K1.out.kept hal) (K2.out.kept hal) (K3.out.kept hal) (HH.out.below hal) HW.out
    rw [show (X.alloc (.cells #[.int .i64 81] 32)).heap.size = X.heap.size + 1 by simp] at this
    exact this
  rintro e w2 ⟨hb2, ⟨v, w3, rfl, ⟨l, hl, A2, n2, c2, rfl, ho⟩, hg⟩ | ⟨k, rfl, j, rfl, hj⟩⟩
  · have HB2 := Lib.hid (below_next HB.out hb2 HB.out.size)
    have HO := Lib.hid ((OwnB.past ho hg (by omega)).more (show w.heap.size ≤ X.heap.size + 1 by have := HB.out.size; omega))
    have HL := Lib.hid hl
    clear hb2 ho hg hl hal
    go_wp2_with fail
    go_ret2
    exact ⟨HB2.out, A2, n2, c2, by rw [HL.out]; rfl, by rw [HL.out]; exact HO.out⟩
  · have HB2 := Lib.hid (below_next HB.out hb2 HB.out.size)
    have HJ := Lib.hid hj
    clear hb2 hj hal
    go_wp2_with fail
    go_ret2
    exact ⟨HB2.out, none, 0, 0, by rw [HJ.out]; rfl, by rw [HJ.out]; exact OwnB.nil_ _ _⟩
theorem encode_any (m : Mg) (q : Mad) (w : World) (h : MgR AllB w m q) (hwf : m.wf) :
    Calls Try.prog 13 #[.agg #[.int .i64 m.kind, .int .i64 m.view, .int .i64 m.seq, .int .i64 m.client, .int .i64 m.stamp, .int .i64 m.e.c, .int .i64 m.e.s, .int .i64 m.e.t, .slice q.ea m.e.dig.length q.ec, .slice q.ga m.dig.length q.gc, .slice q.da m.data.length q.dc, .slice q.pa m.proof.length q.pc, .slice q.va m.proven.length q.vc]] w (EncP m.encode w) := by
  have hB := (Below.refl w.heap.size w).alloc (Nat.le_refl _) (.cells #[.int .i64 m.kind, .int .i64 m.view, .int .i64 m.seq, .int .i64 m.client, .int .i64 m.stamp, .int .i64 m.e.c, .int .i64 m.e.s, .int .i64 m.e.t, .slice q.ea m.e.dig.length q.ec, .slice q.ga m.dig.length q.gc, .slice q.da m.data.length q.dc, .slice q.pa m.proof.length q.pc, .slice q.va m.proven.length q.vc] 28)
  have HB := Lib.hid hB
  have HC := Lib.hid (packRightM_any m q _ (h.below hB) hwf)
  clear h hwf hB
  go_enter Try.func13, Try.ntmps13
  go_wp2_with fail
  refine HC.out.mono ?_
  rintro e w2 ⟨hb2, A2, n2, c2, rfl, ho⟩
  have HB2 := Lib.hid (below_next HB.out hb2 HB.out.size)
  have HO := Lib.hid (ho.more HB.out.size)
  clear hb2 ho
  go_wp2_with fail
  go_ret2
  exact ⟨HB2.out, A2, n2, c2, rfl, HO.out⟩

theorem packCloL (x : Lt) (A : Option Addr) (c : Nat) (B : Option Addr) (d : Nat) (b1 b2 b3 : Nat) (W : World) (k1 : Bk W b1 87 [.func (.func 54) #[] #[]]) (k2 : Bk W b2 46 [.int .i64 x.f1, .int .i64 x.f2, .int .i64 x.r, .slice A x.body.length c, .slice B x.tags.length d]) (k3 : Bk W b3 88 [.func (.func 55) #[] #[]]) (h : LtR AllB W x A c B d) :
    Calls Try.prog 92 #[.pointer (some ⟨b1, 0, none⟩), .pointer (some ⟨b2, 0, none⟩), .pointer (some ⟨b3, 0, none⟩)] W (Does (EOK x.encode W.heap.size) (EBAD x.encode) W) := by
  have HH := Lib.hid h
  have K2 := Lib.hid k2
  have K3 := Lib.hid k3
  have a0 := k1.at_ (i := 0) rfl
  have d0 := k2.at_ (i := 0) rfl
  have d1 := k2.at_ (i := 1) rfl
  have d2 := k2.at_ (i := 2) rfl
  have d3 := k2.at_ (i := 3) rfl
  have d4 := k2.at_ (i := 4) rfl
  clear h k1 k2 k3
  go_enter Try.func92, Try.ntmps92
  go_wp2_with fail
  refine (checkLetter_any x A c B d AllB W HH.out.2).mono ?_
  rintro e w1 ⟨hb1, ⟨ho, rfl⟩ | ⟨ho, rfl⟩⟩
  rotate_left
  · exact ⟨rfl, hb1, .inr ⟨81, rfl, 81, rfl, by unfold Lt.encode; rw [if_pos ho]⟩⟩
  have HB1 := Lib.hid hb1
  have k2 := K2.out.kept hb1
  have k3 := (K3.out.kept hb1).at_ (i := 0) rfl
  have HH1 := Lib.hid (HH.out.below hb1)
  have HO := Lib.hid ho
  clear hb1 ho a0 d0 d1 d2 d3 d4
  have d0 := k2.at_ (i := 0) rfl
  have d1 := k2.at_ (i := 1) rfl
  have d2 := k2.at_ (i := 2) rfl
  have d3 := k2.at_ (i := 3) rfl
  have d4 := k2.at_ (i := 4) rfl
  clear k2
  go_wp2_with fail
  refine (packLetter_any x A c B d AllB w1 HH1.out HO.out).mono ?_
  rintro e w2 ⟨hb2, ⟨l, hl, A2, n2, c2, rfl, ho2⟩ | ⟨hl, rfl⟩⟩
  · have HB2 := Lib.hid (below_next HB1.out hb2 HB1.out.size)
    have HO2 := Lib.hid (ho2.more HB1.out.size)
    have HL := Lib.hid hl
    clear hb2 ho2 hl
    go_wp2_with fail
    go_ret
    exact ⟨HB2.out, .inl ⟨_, rfl, l, by unfold Lt.encode; rw [if_neg (by rw [HO.out]; decide)]; simp only [HL.out], A2, n2, c2, rfl, HO2.out⟩⟩
  · exact ⟨rfl, below_next HB1.out hb2 HB1.out.size, .inr ⟨13, rfl, 13, rfl, by unfold Lt.encode; rw [if_neg (by rw [HO.out]; decide)]; simp only [hl]⟩⟩
theorem packRightL_any (x : Lt) (A : Option Addr) (c : Nat) (B : Option Addr) (d : Nat) (w : World) (h : LtR AllB w x A c B d) :
    Calls Try.prog 53 #[.agg #[.int .i64 x.f1, .int .i64 x.f2, .int .i64 x.r, .slice A x.body.length c, .slice B x.tags.length d], .func (.func 54) #[] #[], .func (.func 55) #[] #[]] w (EncP x.encode w) := by
  have hmf : ∀ (fn : Fn) (first cap : Array Value) (w : World), (Instr.makeFunc fn first cap).run Try.prog w = .ok (.func fn first cap) w := fun _ _ _ _ => rfl
  have hB := ((((Below.refl w.heap.size w).alloc (Nat.le_refl _) (.cells #[.int .i64 x.f1, .int .i64 x.f2, .int .i64 x.r, .slice A x.body.length c, .slice B x.tags.length d] 46)).alloc (by simp) (.cells #[.func (.func 54) #[] #[]] 87)).alloc (by simp; omega) (.cells #[.func (.func 55) #[] #[]] 88))
  have HB := Lib.hid hB
  have K2 := Lib.hid (((Bk.new w 46 [.int .i64 x.f1, .int .i64 x.f2, .int .i64 x.r, .slice A x.body.length c, .slice B x.tags.length d]).alloc (.cells #[.func (.func 54) #[] #[]] 87)).alloc (.cells #[.func (.func 55) #[] #[]] 88))
  have k1 := (Bk.new (w.alloc (.cells #[.int .i64 x.f1, .int .i64 x.f2, .int .i64 x.r, .slice A x.body.length c, .slice B x.tags.length d] 46)) 87 [.func (.func 54) #[] #[]]).alloc (.cells #[.func (.func 55) #[] #[]] 88)
  rw [show (w.alloc (.cells #[.int .i64 x.f1, .int .i64 x.f2, .int .i64 x.r, .slice A x.body.length c, .slice B x.tags.length d] 46)).heap.size = w.heap.size + 1 by simp] at k1
  have K1 := Lib.hid k1
  have k3 := Bk.new ((w.alloc (.cells #[.int .i64 x.f1, .int .i64 x.f2, .int .i64 x.r, .slice A x.body.length c, .slice B x.tags.length d] 46)).alloc (.cells #[.func (.func 54) #[] #[]] 87)) 88 [.func (.func 55) #[] #[]]
  rw [show ((w.alloc (.cells #[.int .i64 x.f1, .int .i64 x.f2, .int .i64 x.r, .slice A x.body.length c, .slice B x.tags.length d] 46)).alloc (.cells #[.func (.func 54) #[] #[]] 87)).heap.size = w.heap.size + 1 + 1 by simp] at k3
  have K3 := Lib.hid k3
  have HH := Lib.hid (h.below hB)
  clear h hB k1 k3
  go_enter Try.func53, Try.ntmps53
  go_wp2_with fail
  obtain ⟨X, hX⟩ : ∃ X, X = ((w.alloc (.cells #[.int .i64 x.f1, .int .i64 x.f2, .int .i64 x.r, .slice A x.body.length c, .slice B x.tags.length d] 46)).alloc (.cells #[.func (.func 54) #[] #[]] 87)).alloc (.cells #[.func (.func 55) #[] #[]] 88) := ⟨_, rfl⟩
  rw [← hX] at HB K1 K2 K3 HH ⊢
  clear hX
  have hal := (Below.refl X.heap.size X).alloc (Nat.le_refl _) (.cells #[.int .i64 81] 32)
  refine (caughtB_any 92 ⟨w.heap.size + 1, 0, none⟩ ⟨w.heap.size, 0, none⟩ ⟨w.heap.size + 1 + 1, 0, none⟩ X (EOK x.encode (X.heap.size + 1)) (EBAD x.encode) (fun _ _ => rfl) ?_).mono ?_
  · have := packCloL x A c B d (w.heap.size + 1) w.heap.size (w.heap.size + 1 + 1) (X.alloc (.cells #[.int .i64 81] 32)) (K1.out.kept hal) (K2.out.kept hal) (K3.out.kept hal) (HH.out.below hal)
    rw [show (X.alloc (.cells #[.int .i64 81] 32)).heap.size = X.heap.size + 1 by simp] at this
    exact this
  rintro e w2 ⟨hb2, ⟨v, w3, rfl, ⟨l, hl, A2, n2, c2, rfl, ho⟩, hg⟩ | ⟨k, rfl, j, rfl, hj⟩⟩
  · have HB2 := Lib.hid (below_next HB.out hb2 HB.out.size)
    have HO := Lib.hid ((OwnB.past ho hg (by omega)).more (show w.heap.size ≤ X.heap.size + 1 by have := HB.out.size; omega))
    have HL := Lib.hid hl
    clear hb2 ho hg hl hal
    go_wp2_with fail
    go_ret2
    exact ⟨HB2.out, A2, n2, c2, by rw [HL.out]; rfl, by rw [HL.out]; exact HO.out⟩
  · have HB2 := Lib.hid (below_next HB.out hb2 HB.out.size)
    have HJ := Lib.hid hj
    clear hb2 hj hal
    go_wp2_with fail
    go_ret2
    exact ⟨HB2.out, none, 0, 0, by rw [HJ.out]; rfl, by rw [HJ.out]; exact OwnB.nil_ _ _⟩
theorem packLetterX_any (x : Lt) (A : Option Addr) (c : Nat) (B : Option Addr) (d : Nat) (w : World) (h : LtR AllB w x A c B d) :
    Calls Try.prog 21 #[.agg #[.int .i64 x.f1, .int .i64 x.f2, .int .i64 x.r, .slice A x.body.length c, .slice B x.tags.length d]] w (EncP x.encode w) := by
  have hB := (Below.refl w.heap.size w).alloc (Nat.le_refl _) (.cells #[.int .i64 x.f1, .int .i64 x.f2, .int .i64 x.r, .slice A x.body.length c, .slice B x.tags.length d] 46)
  have HB := Lib.hid hB
  have HC := Lib.hid (packRightL_any x A c B d _ (h.below hB))
  clear h hB
  go_enter Try.func21, Try.ntmps21
  go_wp2_with fail
  refine HC.out.mono ?_
  rintro e w2 ⟨hb2, A2, n2, c2, rfl, ho⟩
  have HB2 := Lib.hid (below_next HB.out hb2 HB.out.size)
  have HO := Lib.hid (ho.more HB.out.size)
  clear hb2 ho
  go_wp2_with fail
  go_ret2
  exact ⟨HB2.out, A2, n2, c2, rfl, HO.out⟩

theorem packCloE (x : En) (A : Option Addr) (c : Nat) (b1 b2 b3 : Nat) (W : World) (k1 : Bk W b1 92 [.func (.func 59) #[] #[]]) (k2 : Bk W b2 24 [.int .i64 x.c, .int .i64 x.s, .int .i64 x.t, .slice A x.dig.length c]) (k3 : Bk W b3 93 [.func (.func 60) #[] #[]]) (h : BF AllB W A c x.dig) :
    Calls Try.prog 98 #[.pointer (some ⟨b1, 0, none⟩), .pointer (some ⟨b2, 0, none⟩), .pointer (some ⟨b3, 0, none⟩)] W (Does (EOK x.encode W.heap.size) (EBAD x.encode) W) := by
  have HH := Lib.hid h
  have K2 := Lib.hid k2
  have K3 := Lib.hid k3
  have a0 := k1.at_ (i := 0) rfl
  have d0 := k2.at_ (i := 0) rfl
  have d1 := k2.at_ (i := 1) rfl
  have d2 := k2.at_ (i := 2) rfl
  have d3 := k2.at_ (i := 3) rfl
  clear h k1 k2 k3
  go_enter Try.func98, Try.ntmps98
  go_wp2_with fail
  refine (checkEntry_any x.c x.s x.t A x.dig.length c x.dig W rfl).mono ?_
  rintro e w1 ⟨hb1, ⟨ho, rfl⟩ | ⟨ho, rfl⟩⟩
  rotate_left
  · exact ⟨rfl, hb1, .inr ⟨81, rfl, 81, rfl, by unfold En.encode; rw [if_pos ho]⟩⟩
  have HB1 := Lib.hid hb1
  have k2 := K2.out.kept hb1
  have k3 := (K3.out.kept hb1).at_ (i := 0) rfl
  have HH1 := Lib.hid (HH.out.below hb1)
  have HO := Lib.hid (show x.ok = true from ho)
  clear hb1 ho a0 d0 d1 d2 d3
  have d0 := k2.at_ (i := 0) rfl
  have d1 := k2.at_ (i := 1) rfl
  have d2 := k2.at_ (i := 2) rfl
  have d3 := k2.at_ (i := 3) rfl
  clear k2
  go_wp2_with fail
  refine (packEntry_any x A c AllB w1 HH1.out HO.out).mono ?_
  rintro e w2 ⟨A2, n2, c2, rfl, ho2, hb2⟩
  have HB2 := Lib.hid (below_next HB1.out hb2 HB1.out.size)
  have HO2 := Lib.hid (ho2.more HB1.out.size)
  clear hb2 ho2
  go_wp2_with fail
  go_ret
  exact ⟨HB2.out, .inl ⟨_, rfl, _, by unfold En.encode; rw [if_neg (by rw [show x.ok = true from HO.out]; decide)], A2, n2, c2, rfl, HO2.out⟩⟩
theorem packRightE_any (x : En) (A : Option Addr) (c : Nat) (w : World) (h : BF AllB w A c x.dig) :
    Calls Try.prog 58 #[.agg #[.int .i64 x.c, .int .i64 x.s, .int .i64 x.t, .slice A x.dig.length c], .func (.func 59) #[] #[], .func (.func 60) #[] #[]] w (EncP x.encode w) := by
  have hmf : ∀ (fn : Fn) (first cap : Array Value) (w : World), (Instr.makeFunc fn first cap).run Try.prog w = .ok (.func fn first cap) w := fun _ _ _ _ => rfl
  have hB := ((((Below.refl w.heap.size w).alloc (Nat.le_refl _) (.cells #[.int .i64 x.c, .int .i64 x.s, .int .i64 x.t, .slice A x.dig.length c] 24)).alloc (by simp) (.cells #[.func (.func 59) #[] #[]] 92)).alloc (by simp; omega) (.cells #[.func (.func 60) #[] #[]] 93))
  have HB := Lib.hid hB
  have K2 := Lib.hid (((Bk.new w 24 [.int .i64 x.c, .int .i64 x.s, .int .i64 x.t, .slice A x.dig.length c]).alloc (.cells #[.func (.func 59) #[] #[]] 92)).alloc (.cells #[.func (.func 60) #[] #[]] 93))
  have k1 := (Bk.new (w.alloc (.cells #[.int .i64 x.c, .int .i64 x.s, .int .i64 x.t, .slice A x.dig.length c] 24)) 92 [.func (.func 59) #[] #[]]).alloc (.cells #[.func (.func 60) #[] #[]] 93)
  rw [show (w.alloc (.cells #[.int .i64 x.c, .int .i64 x.s, .int .i64 x.t, .slice A x.dig.length c] 24)).heap.size = w.heap.size + 1 by simp] at k1
  have K1 := Lib.hid k1
  have k3 := Bk.new ((w.alloc (.cells #[.int .i64 x.c, .int .i64 x.s, .int .i64 x.t, .slice A x.dig.length c] 24)).alloc (.cells #[.func (.func 59) #[] #[]] 92)) 93 [.func (.func 60) #[] #[]]
  rw [show ((w.alloc (.cells #[.int .i64 x.c, .int .i64 x.s, .int .i64 x.t, .slice A x.dig.length c] 24)).alloc (.cells #[.func (.func 59) #[] #[]] 92)).heap.size = w.heap.size + 1 + 1 by simp] at k3
  have K3 := Lib.hid k3
  have HH := Lib.hid (h.below hB)
  clear h hB k1 k3
  go_enter Try.func58, Try.ntmps58
  go_wp2_with fail
  obtain ⟨X, hX⟩ : ∃ X, X = ((w.alloc (.cells #[.int .i64 x.c, .int .i64 x.s, .int .i64 x.t, .slice A x.dig.length c] 24)).alloc (.cells #[.func (.func 59) #[] #[]] 92)).alloc (.cells #[.func (.func 60) #[] #[]] 93) := ⟨_, rfl⟩
  rw [← hX] at HB K1 K2 K3 HH ⊢
  clear hX
  have hal := (Below.refl X.heap.size X).alloc (Nat.le_refl _) (.cells #[.int .i64 81] 32)
  refine (caughtB_any 98 ⟨w.heap.size + 1, 0, none⟩ ⟨w.heap.size, 0, none⟩ ⟨w.heap.size + 1 + 1, 0, none⟩ X (EOK x.encode (X.heap.size + 1)) (EBAD x.encode) (fun _ _ => rfl) ?_).mono ?_
  · have := packCloE x A c (w.heap.size + 1) w.heap.size (w.heap.size + 1 + 1) (X.alloc (.cells #[.int .i64 81] 32)) (K1.out.kept hal) (K2.out.kept hal) (K3.out.kept hal) (HH.out.below hal)
    rw [show (X.alloc (.cells #[.int .i64 81] 32)).heap.size = X.heap.size + 1 by simp] at this
    exact this
  rintro e w2 ⟨hb2, ⟨v, w3, rfl, ⟨l, hl, A2, n2, c2, rfl, ho⟩, hg⟩ | ⟨k, rfl, j, rfl, hj⟩⟩
  · have HB2 := Lib.hid (below_next HB.out hb2 HB.out.size)
    have HO := Lib.hid ((OwnB.past ho hg (by omega)).more (show w.heap.size ≤ X.heap.size + 1 by have := HB.out.size; omega))
    have HL := Lib.hid hl
    clear hb2 ho hg hl hal
    go_wp2_with fail
    go_ret2
    exact ⟨HB2.out, A2, n2, c2, by rw [HL.out]; rfl, by rw [HL.out]; exact HO.out⟩
  · have HB2 := Lib.hid (below_next HB.out hb2 HB.out.size)
    have HJ := Lib.hid hj
    clear hb2 hj hal
    go_wp2_with fail
    go_ret2
    exact ⟨HB2.out, none, 0, 0, by rw [HJ.out]; rfl, by rw [HJ.out]; exact OwnB.nil_ _ _⟩
theorem packEntryX_any (x : En) (A : Option Addr) (c : Nat) (w : World) (h : BF AllB w A c x.dig) :
    Calls Try.prog 24 #[.agg #[.int .i64 x.c, .int .i64 x.s, .int .i64 x.t, .slice A x.dig.length c]] w (EncP x.encode w) := by
  have hB := (Below.refl w.heap.size w).alloc (Nat.le_refl _) (.cells #[.int .i64 x.c, .int .i64 x.s, .int .i64 x.t, .slice A x.dig.length c] 24)
  have HB := Lib.hid hB
  have HC := Lib.hid (packRightE_any x A c _ (h.below hB))
  clear h hB
  go_enter Try.func24, Try.ntmps24
  go_wp2_with fail
  refine HC.out.mono ?_
  rintro e w2 ⟨hb2, A2, n2, c2, rfl, ho⟩
  have HB2 := Lib.hid (below_next HB.out hb2 HB.out.size)
  have HO := Lib.hid (ho.more HB.out.size)
  clear hb2 ho
  go_wp2_with fail
  go_ret2
  exact ⟨HB2.out, A2, n2, c2, rfl, HO.out⟩
end Go.Proofs.Ytmgmmbgjmnklkaa
