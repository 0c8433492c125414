/-
  MsgEncodes: the walk of the law. No statement.
-/
import Derived.Test.YtmgmmbgjmnklkaaMsgLaw
import Derived.Test.YtmgmmbgjmnklkaaOpenMsg
import Derived.Test.YtmgmmbgjmnklkaaMsgRef10
namespace Go.Proofs.Ytmgmmbgjmnklkaa
set_option maxRecDepth 100000
open Go.RowKit
open Pk
set_option linter.unusedVariables false

set_option maxHeartbeats 6400000 in
theorem msgEncodes_any (m : Mg) (q : Mad) (w : World) (h : MgR AllB w m q) (hwf : m.wf) (hbig : m.big) :
    Calls Try.prog 3 #[.agg #[.int .i64 m.kind, .int .i64 m.view, .int .i64 m.seq, .int .i64 m.client, .int .i64 m.stamp, .int .i64 m.e.c, .int .i64 m.e.s, .int .i64 m.e.t, .slice q.ea m.e.dig.length q.ec, .slice q.ga m.dig.length q.gc, .slice q.da m.data.length q.dc, .slice q.pa m.proof.length q.pc, .slice q.va m.proven.length q.vc]] w (Tr w) := by
  have hB := (Below.refl w.heap.size w).alloc (Nat.le_refl _) (.cells #[.int .i64 m.kind, .int .i64 m.view, .int .i64 m.seq, .int .i64 m.client, .int .i64 m.stamp, .int .i64 m.e.c, .int .i64 m.e.s, .int .i64 m.e.t, .slice q.ea m.e.dig.length q.ec, .slice q.ga m.dig.length q.gc, .slice q.da m.data.length q.dc, .slice q.pa m.proof.length q.pc, .slice q.va m.proven.length q.vc] 28)
  have HB0 := Lib.hid (hB)
  have HK0 := Lib.hid (Bk.new w 28 [.int .i64 m.kind, .int .i64 m.view, .int .i64 m.seq, .int .i64 m.client, .int .i64 m.stamp, .int .i64 m.e.c, .int .i64 m.e.s, .int .i64 m.e.t, .slice q.ea m.e.dig.length q.ec, .slice q.ga m.dig.length q.gc, .slice q.da m.data.length q.dc, .slice q.pa m.proof.length q.pc, .slice q.va m.proven.length q.vc])
  have HM0 := Lib.hid (h.below hB)
  have HWF := Lib.hid hwf
  have HBIG := Lib.hid hbig
  clear h hwf hbig hB
  obtain ⟨ek, el, hen⟩ : ∃ k l, m.encode = (k, l) := ⟨_, _, rfl⟩
  have HEN := Lib.hid hen
  clear hen
  go_enter Try.func3, Try.ntmps3
  go_wp2_with fail
  refine (alive_ok _).mono ?_
  rintro e w1 ⟨rfl, hb⟩
  have HB1 := Lib.hid (below_next HB0.out hb HB0.out.size)
  have HK1 := Lib.hid (HK0.out.kept hb)
  have HM1 := Lib.hid (HM0.out.below hb)
  clear hb
  have k0 := HK1.out.at_ (i := 0) rfl
  have k1 := HK1.out.at_ (i := 1) rfl
  have k2 := HK1.out.at_ (i := 2) rfl
  have k3 := HK1.out.at_ (i := 3) rfl
  have k4 := HK1.out.at_ (i := 4) rfl
  have k5 := HK1.out.at_ (i := 5) rfl
  have k6 := HK1.out.at_ (i := 6) rfl
  have k7 := HK1.out.at_ (i := 7) rfl
  have k8 := HK1.out.at_ (i := 8) rfl
  have k9 := HK1.out.at_ (i := 9) rfl
  have k10 := HK1.out.at_ (i := 10) rfl
  have k11 := HK1.out.at_ (i := 11) rfl
  have k12 := HK1.out.at_ (i := 12) rfl
  go_wp2_with fail
  clear k0 k1 k2 k3 k4 k5 k6 k7 k8 k9 k10 k11 k12
  refine (heavy_any m q 100000 _ _ HM1.out).mono ?_
  rintro e w2 ⟨hv, rfl, hb⟩
  have HB2 := Lib.hid (below_next HB1.out hb HB1.out.size)
  have HK2 := Lib.hid (HK1.out.kept hb)
  have HM2 := Lib.hid (HM1.out.below hb)
  clear hb
  cases hv
  rotate_left
  · go_wp2_with fail
    go_ret
    exact ⟨rfl, HB2.out⟩
  have k0 := HK2.out.at_ (i := 0) rfl
  have k1 := HK2.out.at_ (i := 1) rfl
  have k2 := HK2.out.at_ (i := 2) rfl
  have k3 := HK2.out.at_ (i := 3) rfl
  have k4 := HK2.out.at_ (i := 4) rfl
  have k5 := HK2.out.at_ (i := 5) rfl
  have k6 := HK2.out.at_ (i := 6) rfl
  have k7 := HK2.out.at_ (i := 7) rfl
  have k8 := HK2.out.at_ (i := 8) rfl
  have k9 := HK2.out.at_ (i := 9) rfl
  have k10 := HK2.out.at_ (i := 10) rfl
  have k11 := HK2.out.at_ (i := 11) rfl
  have k12 := HK2.out.at_ (i := 12) rfl
  go_wp2_with fail
  clear k0 k1 k2 k3 k4 k5 k6 k7 k8 k9 k10 k11 k12
  refine (copyMsg_any m q _ _ HM2.out HBIG.out).mono ?_
  rintro e w3 ⟨hb, r, rfl, hr⟩
  have HB3 := Lib.hid (below_next HB2.out hb HB2.out.size)
  have HK3 := Lib.hid (HK2.out.kept hb)
  have HM3 := Lib.hid (HM2.out.below hb)
  have HR3 := Lib.hid (hr)
  clear hb hr
  have hal := (Below.refl w3.heap.size w3).alloc (Nat.le_refl _) (.cells #[.int .i64 m.kind, .int .i64 m.view, .int .i64 m.seq, .int .i64 m.client, .int .i64 m.stamp, .int .i64 m.e.c, .int .i64 m.e.s, .int .i64 m.e.t, .slice r.ea m.e.dig.length r.ec, .slice r.ga m.dig.length r.gc, .slice r.da m.data.length r.dc, .slice r.pa m.proof.length r.pc, .slice r.va m.proven.length r.vc] 28)
  have HB4 := Lib.hid (below_next HB3.out hal HB3.out.size)
  have HK4 := Lib.hid (HK3.out.kept hal)
  have HM4 := Lib.hid (HM3.out.below hal)
  have HR4 := Lib.hid (HR3.out.below hal)
  have HL4 := Lib.hid (Bk.new w3 28 [.int .i64 m.kind, .int .i64 m.view, .int .i64 m.seq, .int .i64 m.client, .int .i64 m.stamp, .int .i64 m.e.c, .int .i64 m.e.s, .int .i64 m.e.t, .slice r.ea m.e.dig.length r.ec, .slice r.ga m.dig.length r.gc, .slice r.da m.data.length r.dc, .slice r.pa m.proof.length r.pc, .slice r.va m.proven.length r.vc])
  clear hal
  go_wp2_with fail
  refine (encode_any m r _ HR4.out.all HWF.out).mono ?_
  rw [HEN.out]
  rintro e w4 ⟨hb, A4, n4, c4, rfl, ho⟩
  have HB5 := Lib.hid (below_next HB4.out hb HB4.out.size)
  have HK5 := Lib.hid (HK4.out.kept hb)
  have HM5 := Lib.hid (HM4.out.below hb)
  have HR5 := Lib.hid (HR4.out.below hb)
  have HL5 := Lib.hid (HL4.out.kept hb)
  have ho : OwnB w4 _ A4 n4 c4 el := ho
  obtain rfl : el.length = n4 := ho.len
  have HO5 := Lib.hid (BF.own ho)
  clear hb ho
  dsimp only
  have k0 := HK5.out.at_ (i := 0) rfl
  have k1 := HK5.out.at_ (i := 1) rfl
  have k2 := HK5.out.at_ (i := 2) rfl
  have k3 := HK5.out.at_ (i := 3) rfl
  have k4 := HK5.out.at_ (i := 4) rfl
  have k5 := HK5.out.at_ (i := 5) rfl
  have k6 := HK5.out.at_ (i := 6) rfl
  have k7 := HK5.out.at_ (i := 7) rfl
  have k8 := HK5.out.at_ (i := 8) rfl
  have k9 := HK5.out.at_ (i := 9) rfl
  have k10 := HK5.out.at_ (i := 10) rfl
  have k11 := HK5.out.at_ (i := 11) rfl
  have k12 := HK5.out.at_ (i := 12) rfl
  go_wp2_with fail
  clear k0 k1 k2 k3 k4 k5 k6 k7 k8 k9 k10 k11 k12
  refine (refEncode_any m q _ HM5.out).mono ?_
  rw [HEN.out]
  rintro e w5 ⟨hb, A5, n5, c5, rfl, ho⟩
  have HB6 := Lib.hid (below_next HB5.out hb HB5.out.size)
  have HK6 := Lib.hid (HK5.out.kept hb)
  have HM6 := Lib.hid (HM5.out.below hb)
  have HR6 := Lib.hid (HR5.out.below hb)
  have HL6 := Lib.hid (HL5.out.kept hb)
  have HO6 := Lib.hid (HO5.out.below hb)
  have ho : OwnB w5 _ A5 n5 c5 el := ho
  have hn5 : el.length = n5 := ho.len
  subst hn5
  have HP6 := Lib.hid (BF.own ho)
  clear hb ho
  dsimp only
  go_wp2_with fail
  refine (sameBytes_tell A4 A5 c4 c5 _ el _ _ HO6.out HP6.out).mono ?_
  rintro e w6 ⟨rfl, hb⟩
  have HB7 := Lib.hid (below_next HB6.out hb HB6.out.size)
  have HK7 := Lib.hid (HK6.out.kept hb)
  have HM7 := Lib.hid (HM6.out.below hb)
  have HR7 := Lib.hid (HR6.out.below hb)
  have HL7 := Lib.hid (HL6.out.kept hb)
  have HO7 := Lib.hid (HO6.out.below hb)
  have HP7 := Lib.hid (HP6.out.below hb)
  clear hb
  have k0 := HK7.out.at_ (i := 0) rfl
  have k1 := HK7.out.at_ (i := 1) rfl
  have k2 := HK7.out.at_ (i := 2) rfl
  have k3 := HK7.out.at_ (i := 3) rfl
  have k4 := HK7.out.at_ (i := 4) rfl
  have k5 := HK7.out.at_ (i := 5) rfl
  have k6 := HK7.out.at_ (i := 6) rfl
  have k7 := HK7.out.at_ (i := 7) rfl
  have k8 := HK7.out.at_ (i := 8) rfl
  have k9 := HK7.out.at_ (i := 9) rfl
  have k10 := HK7.out.at_ (i := 10) rfl
  have k11 := HK7.out.at_ (i := 11) rfl
  have k12 := HK7.out.at_ (i := 12) rfl
  have l0 := HL7.out.at_ (i := 0) rfl
  have l1 := HL7.out.at_ (i := 1) rfl
  have l2 := HL7.out.at_ (i := 2) rfl
  have l3 := HL7.out.at_ (i := 3) rfl
  have l4 := HL7.out.at_ (i := 4) rfl
  have l5 := HL7.out.at_ (i := 5) rfl
  have l6 := HL7.out.at_ (i := 6) rfl
  have l7 := HL7.out.at_ (i := 7) rfl
  have l8 := HL7.out.at_ (i := 8) rfl
  have l9 := HL7.out.at_ (i := 9) rfl
  have l10 := HL7.out.at_ (i := 10) rfl
  have l11 := HL7.out.at_ (i := 11) rfl
  have l12 := HL7.out.at_ (i := 12) rfl
  go_wp2_with fail
  clear k0 k1 k2 k3 k4 k5 k6 k7 k8 k9 k10 k11 k12 l0 l1 l2 l3 l4 l5 l6 l7 l8 l9 l10 l11 l12
  refine (sameMsg_self m r q _ _ _ HR7.out HM7.out).mono ?_
  rintro e w7 ⟨rfl, hb⟩
  have HB8 := Lib.hid (below_next HB7.out hb HB7.out.size)
  have HK8 := Lib.hid (HK7.out.kept hb)
  have HM8 := Lib.hid (HM7.out.below hb)
  have HR8 := Lib.hid (HR7.out.below hb)
  have HL8 := Lib.hid (HL7.out.kept hb)
  have HO8 := Lib.hid (HO7.out.below hb)
  have HP8 := Lib.hid (HP7.out.below hb)
  clear hb
  go_wp2_with fail
  go_ret
  exact ⟨rfl, HB8.out⟩

theorem msgEncodes_walk (w : World) (v : Value) (m : Mg) (h : InMg w v m) : Calls Try.prog 3 #[v] w (Tr w) := by
  obtain ⟨q, rfl, h1, h2, h3, _⟩ := h
  exact msgEncodes_any m q w h1 h2 h3
end Go.Proofs.Ytmgmmbgjmnklkaa
