/-
  MsgRound: the walk of the law. No statement.
-/
import Derived.Test.YtmgmmbgjmnklkaaMsgLaw
import Derived.Test.YtmgmmbgjmnklkaaOpenMsg
namespace Go.Proofs.Ytmgmmbgjmnklkaa
set_option maxRecDepth 100000
open Go.RowKit
open Pk
set_option linter.unusedVariables false

theorem pack_len9 {m : Mg} {b : List UInt8} (h : m.pack = some b) : b.length ≤ 4294967296 := by
  obtain ⟨rows, h1, h2, h3⟩ := pack_rows h
  have h4 := joinX_len h2
  have h5 := parts_len m.kind
  simp only [List.length_cons, h3] at h4
  omega
set_option maxHeartbeats 6400000 in
theorem msgRound_any (m : Mg) (q : Mad) (B : Option Addr) (n c : Nat) (b : List UInt8) (w : World) (h : MgR AllB w m q) (hwf : m.wf) (hbig : m.big) (hs : Sl w B n c b) :
    Calls Try.prog 6 #[.agg #[.int .i64 m.kind, .int .i64 m.view, .int .i64 m.seq, .int .i64 m.client, .int .i64 m.stamp, .int .i64 m.e.c, .int .i64 m.e.s, .int .i64 m.e.t, .slice q.ea m.e.dig.length q.ec, .slice q.ga m.dig.length q.gc, .slice q.da m.data.length q.dc, .slice q.pa m.proof.length q.pc, .slice q.va m.proven.length q.vc], .slice B n c] w (Tr w) := by
  have hB := (Below.refl w.heap.size w).alloc (Nat.le_refl _) (.cells #[.int .i64 m.kind, .int .i64 m.view, .int .i64 m.seq, .int .i64 m.client, .int .i64 m.stamp, .int .i64 m.e.c, .int .i64 m.e.s, .int .i64 m.e.t, .slice q.ea m.e.dig.length q.ec, .slice q.ga m.dig.length q.gc, .slice q.da m.data.length q.dc, .slice q.pa m.proof.length q.pc, .slice q.va m.proven.length q.vc] 28)
  have HB0 := Lib.hid (hB)
  have HK0 := Lib.hid (Bk.new w 28 [.int .i64 m.kind, .int .i64 m.view, .int .i64 m.seq, .int .i64 m.client, .int .i64 m.stamp, .int .i64 m.e.c, .int .i64 m.e.s, .int .i64 m.e.t, .slice q.ea m.e.dig.length q.ec, .slice q.ga m.dig.length q.gc, .slice q.da m.data.length q.dc, .slice q.pa m.proof.length q.pc, .slice q.va m.proven.length q.vc])
  have HM0 := Lib.hid (h.below hB)
  have HS0 := Lib.hid (hs.below hB)
  have HWF := Lib.hid hwf
  have HBIG := Lib.hid hbig
  clear h hwf hbig hs hB
  go_enter Try.func6, Try.ntmps6
  go_wp2_with fail
  refine (alive_ok _).mono ?_
  rintro e w1 ⟨rfl, hb⟩
  have HB1 := Lib.hid (below_next HB0.out hb HB0.out.size)
  have HK1 := Lib.hid (HK0.out.kept hb)
  have HM1 := Lib.hid (HM0.out.below hb)
  have HS1 := Lib.hid (HS0.out.below hb)
  clear hb
  have k0 := HK1.out.at_ (i := 0) rfl
  have k1 := HK1.out.at_ (i := 1) rfl
  have k2 := HK1.out.at_ (i := 2) rfl
  have k3 := HK1.out.at_ (i := 3) rfl
  have k4 := HK1.out.at_ (i := 4) rfl
  have k5 := HK1.out.at_ (i := 5) rfl
  have k6 := HK1.out.at_ (i := 6) rfl
  have k7 := HK1.out.at_ (i := 7) rfl
  have k8 := HK1.out.at_ (i := 8) rfl
  have k9 := HK1.out.at_ (i := 9) rfl
  have k10 := HK1.out.at_ (i := 10) rfl
  have k11 := HK1.out.at_ (i := 11) rfl
  have k12 := HK1.out.at_ (i := 12) rfl
  go_wp2_with fail
  clear k0 k1 k2 k3 k4 k5 k6 k7 k8 k9 k10 k11 k12
  refine (heavy_any m q 50000 _ _ HM1.out).mono ?_
  rintro e w2 ⟨hv, rfl, hb⟩
  have HB2 := Lib.hid (below_next HB1.out hb HB1.out.size)
  have HK2 := Lib.hid (HK1.out.kept hb)
  have HM2 := Lib.hid (HM1.out.below hb)
  have HS2 := Lib.hid (HS1.out.below hb)
  clear hb
  cases hv
  rotate_left
  · go_wp2_with fail
    go_ret
    exact ⟨rfl, HB2.out⟩
  by_cases hnb : (5000 : Int) < (n : Int)
  · go_wp2_with fail
    go_ret
    exact ⟨rfl, HB2.out⟩
  have HNB := Lib.hid hnb
  have k0 := HK2.out.at_ (i := 0) rfl
  have k1 := HK2.out.at_ (i := 1) rfl
  have k2 := HK2.out.at_ (i := 2) rfl
  have k3 := HK2.out.at_ (i := 3) rfl
  have k4 := HK2.out.at_ (i := 4) rfl
  have k5 := HK2.out.at_ (i := 5) rfl
  have k6 := HK2.out.at_ (i := 6) rfl
  have k7 := HK2.out.at_ (i := 7) rfl
  have k8 := HK2.out.at_ (i := 8) rfl
  have k9 := HK2.out.at_ (i := 9) rfl
  have k10 := HK2.out.at_ (i := 10) rfl
  have k11 := HK2.out.at_ (i := 11) rfl
  have k12 := HK2.out.at_ (i := 12) rfl
  go_wp2_with fail
  clear k0 k1 k2 k3 k4 k5 k6 k7 k8 k9 k10 k11 k12
  clear hnb
  refine (copyMsg_any m q _ _ HM2.out HBIG.out).mono ?_
  rintro e w3 ⟨hb, r, rfl, hr⟩
  have HB3 := Lib.hid (below_next HB2.out hb HB2.out.size)
  have HK3 := Lib.hid (HK2.out.kept hb)
  have HM3 := Lib.hid (HM2.out.below hb)
  have HS3 := Lib.hid (HS2.out.below hb)
  have HR3 := Lib.hid (hr)
  clear hb hr
  go_wp2_with fail
  refine (encode_any m r _ HR3.out.all HWF.out).mono ?_
  rintro e w4 ⟨hb, A4, n4, c4, rfl, ho⟩
  have HB4 := Lib.hid (below_next HB3.out hb HB3.out.size)
  have HK4 := Lib.hid (HK3.out.kept hb)
  have HM4 := Lib.hid (HM3.out.below hb)
  have HS4 := Lib.hid (HS3.out.below hb)
  have HO4 := Lib.hid (Sl.own ho)
  clear hb ho
  rcases enc_cases m with ⟨a, he, hk, hok, hp⟩ | ⟨k, he, hk⟩
  · skip
    have hl4 : n4 ≤ 4294967296 := by have h1 := HO4.out.len; rw [he] at h1; have h2 := pack_len9 hp; simp only at h1; omega
    have HL4 := Lib.hid hl4
    have HD := Lib.hid (dec_enc hk hok hp)
    have HE := Lib.hid he
    have HO := Lib.hid (show Sl w4 A4 n4 c4 a from by have := HO4.out; rw [he] at this; exact this)
    rw [he]
    clear hl4 he hk hok hp
    go_wp2_with fail
    refine (decode_any A4 n4 c4 a _ HO.out HL4.out).mono ?_
    rintro e w5 ⟨hb, ⟨m5, q5, hd, rfl, hr⟩ | ⟨hd, rfl⟩⟩
    rotate_left
    · rw [HD.out] at hd; cases hd
    rw [HD.out] at hd
    injection hd with hd
    subst hd
    have HB5 := Lib.hid (below_next HB4.out hb HB4.out.size)
    have HK5 := Lib.hid (HK4.out.kept hb)
    have HM5 := Lib.hid (HM4.out.below hb)
    have HS5 := Lib.hid (HS4.out.below hb)
    have HR5 := Lib.hid (hr.all)
    clear hb hr
    have hal := (Below.refl w5.heap.size w5).alloc (Nat.le_refl _) (.cells #[.int .i64 m.kind, .int .i64 m.view, .int .i64 m.seq, .int .i64 m.client, .int .i64 m.stamp, .int .i64 m.e.c, .int .i64 m.e.s, .int .i64 m.e.t, .slice q5.ea m.e.dig.length q5.ec, .slice q5.ga m.dig.length q5.gc, .slice q5.da m.data.length q5.dc, .slice q5.pa m.proof.length q5.pc, .slice q5.va m.proven.length q5.vc] 28)
    have HB6 := Lib.hid (below_next HB5.out hal HB5.out.size)
    have HK6 := Lib.hid (HK5.out.kept hal)
    have HM6 := Lib.hid (HM5.out.below hal)
    have HS6 := Lib.hid (HS5.out.below hal)
    have HR6 := Lib.hid (HR5.out.below hal)
    have HJ6 := Lib.hid (Bk.new w5 28 [.int .i64 m.kind, .int .i64 m.view, .int .i64 m.seq, .int .i64 m.client, .int .i64 m.stamp, .int .i64 m.e.c, .int .i64 m.e.s, .int .i64 m.e.t, .slice q5.ea m.e.dig.length q5.ec, .slice q5.ga m.dig.length q5.gc, .slice q5.da m.data.length q5.dc, .slice q5.pa m.proof.length q5.pc, .slice q5.va m.proven.length q5.vc])
    clear hal
    have k0 := HK6.out.at_ (i := 0) rfl
    have k1 := HK6.out.at_ (i := 1) rfl
    have k2 := HK6.out.at_ (i := 2) rfl
    have k3 := HK6.out.at_ (i := 3) rfl
    have k4 := HK6.out.at_ (i := 4) rfl
    have k5 := HK6.out.at_ (i := 5) rfl
    have k6 := HK6.out.at_ (i := 6) rfl
    have k7 := HK6.out.at_ (i := 7) rfl
    have k8 := HK6.out.at_ (i := 8) rfl
    have k9 := HK6.out.at_ (i := 9) rfl
    have k10 := HK6.out.at_ (i := 10) rfl
    have k11 := HK6.out.at_ (i := 11) rfl
    have k12 := HK6.out.at_ (i := 12) rfl
    go_wp2_with fail
    clear k0 k1 k2 k3 k4 k5 k6 k7 k8 k9 k10 k11 k12
    refine (sameMsg_self m q5 q _ _ _ HR6.out HM6.out).mono ?_
    rintro e w6 ⟨rfl, hb⟩
    have HB7 := Lib.hid (below_next HB6.out hb HB6.out.size)
    have HK7 := Lib.hid (HK6.out.kept hb)
    have HM7 := Lib.hid (HM6.out.below hb)
    have HS7 := Lib.hid (HS6.out.below hb)
    clear hb
    go_wp2_with fail
    have HNE := Lib.hid HNB.out
    refine (copyBytes_big B n c b _ HS7.out.rd (by have := HNB.out; omega)).mono ?_
    rintro e w8 ⟨B8, n8, c8, rfl, ho, hb⟩
    have HB8 := Lib.hid (below_next HB7.out hb HB7.out.size)
    have HK8 := Lib.hid (HK7.out.kept hb)
    have HM8 := Lib.hid (HM7.out.below hb)
    have HS8 := Lib.hid (HS7.out.below hb)
    have HC8 := Lib.hid (Sl.own ho)
    have HN8 := Lib.hid ho.len
    clear hb ho
    go_wp2_with fail
    refine (decode_any B8 n8 c8 b _ HC8.out (by have := HNB.out; have := HN8.out; have := HS8.out.len; omega)).mono ?_
    rintro e w9 ⟨hb, ⟨m2, q2, hd, rfl, hr⟩ | ⟨hd, rfl⟩⟩
    · skip
      obtain ⟨he2, hwf2, _, _⟩ := dec_ok hd
      have HE2 := Lib.hid he2
      have HWF2 := Lib.hid hwf2
      have HB9 := Lib.hid (below_next HB8.out hb HB8.out.size)
      have HK9 := Lib.hid (HK8.out.kept hb)
      have HM9 := Lib.hid (HM8.out.below hb)
      have HS9 := Lib.hid (HS8.out.below hb)
      have HR9 := Lib.hid (hr.all)
      clear hb hr hd he2 hwf2
      have hal := (Below.refl w9.heap.size w9).alloc (Nat.le_refl _) (.cells #[.int .i64 m2.kind, .int .i64 m2.view, .int .i64 m2.seq, .int .i64 m2.client, .int .i64 m2.stamp, .int .i64 m2.e.c, .int .i64 m2.e.s, .int .i64 m2.e.t, .slice q2.ea m2.e.dig.length q2.ec, .slice q2.ga m2.dig.length q2.gc, .slice q2.da m2.data.length q2.dc, .slice q2.pa m2.proof.length q2.pc, .slice q2.va m2.proven.length q2.vc] 28)
      have HB10 := Lib.hid (below_next HB9.out hal HB9.out.size)
      have HK10 := Lib.hid (HK9.out.kept hal)
      have HM10 := Lib.hid (HM9.out.below hal)
      have HS10 := Lib.hid (HS9.out.below hal)
      have HR10 := Lib.hid (HR9.out.below hal)
      have HJ10 := Lib.hid (Bk.new w9 28 [.int .i64 m2.kind, .int .i64 m2.view, .int .i64 m2.seq, .int .i64 m2.client, .int .i64 m2.stamp, .int .i64 m2.e.c, .int .i64 m2.e.s, .int .i64 m2.e.t, .slice q2.ea m2.e.dig.length q2.ec, .slice q2.ga m2.dig.length q2.gc, .slice q2.da m2.data.length q2.dc, .slice q2.pa m2.proof.length q2.pc, .slice q2.va m2.proven.length q2.vc])
      clear hal
      go_wp2_with fail
      refine (encode_any m2 q2 _ HR10.out HWF2.out).mono ?_
      rw [HE2.out]
      rintro e w10 ⟨hb, A10, n10, c10, rfl, ho⟩
      have HB11 := Lib.hid (below_next HB10.out hb HB10.out.size)
      have HK11 := Lib.hid (HK10.out.kept hb)
      have HM11 := Lib.hid (HM10.out.below hb)
      have HS11 := Lib.hid (HS10.out.below hb)
      have HR11 := Lib.hid (HR10.out.below hb)
      have HJ11 := Lib.hid (HJ10.out.kept hb)
      have HZ11 := Lib.hid (Sl.own ho)
      clear hb ho
      go_wp2_with fail
      refine (sameB_two HZ11.out HS11.out).mono ?_
      rintro e w11 ⟨rfl, hb⟩
      have HB12 := Lib.hid (below_next HB11.out hb HB11.out.size)
      have HK12 := Lib.hid (HK11.out.kept hb)
      have HM12 := Lib.hid (HM11.out.below hb)
      have HS12 := Lib.hid (HS11.out.below hb)
      have HR12 := Lib.hid (HR11.out.below hb)
      have HJ12 := Lib.hid (HJ11.out.kept hb)
      have HZ12 := Lib.hid (HZ11.out.below hb)
      clear hb
      go_wp2_with fail
      go_ret
      exact ⟨rfl, HB12.out⟩
    · skip
      have HB9 := Lib.hid (below_next HB8.out hb HB8.out.size)
      have HK9 := Lib.hid (HK8.out.kept hb)
      have HM9 := Lib.hid (HM8.out.below hb)
      have HS9 := Lib.hid (HS8.out.below hb)
      clear hb hd
      have hal := (Below.refl w9.heap.size w9).alloc (Nat.le_refl _) (.cells #[.int .i64 0, .int .i64 0, .int .i64 0, .int .i64 0, .int .i64 0, .int .i64 0, .int .i64 0, .int .i64 0, .slice none 0 0, .slice none 0 0, .slice none 0 0, .slice none 0 0, .slice none 0 0] 28)
      have HB10 := Lib.hid (below_next HB9.out hal HB9.out.size)
      have HK10 := Lib.hid (HK9.out.kept hal)
      have HM10 := Lib.hid (HM9.out.below hal)
      have HS10 := Lib.hid (HS9.out.below hal)
      clear hal
      go_wp2_with fail
      go_ret
      exact ⟨rfl, HB10.out⟩
  · skip
    have hkb : (((k : Nat) : Int) == 0) = false := by rcases hk with rfl | rfl | rfl <;> rfl
    have hn4 : n4 = 0 := by have h1 := HO4.out.len; rw [he] at h1; exact h1.symm
    subst hn4
    rw [he]
    go_wp2_with fail
    clear hkb
    have HNE := Lib.hid HNB.out
    refine (copyBytes_big B n c b _ HS4.out.rd (by have := HNB.out; omega)).mono ?_
    rintro e w8 ⟨B8, n8, c8, rfl, ho, hb⟩
    have HB5 := Lib.hid (below_next HB4.out hb HB4.out.size)
    have HK5 := Lib.hid (HK4.out.kept hb)
    have HM5 := Lib.hid (HM4.out.below hb)
    have HS5 := Lib.hid (HS4.out.below hb)
    have HC5 := Lib.hid (Sl.own ho)
    have HN8 := Lib.hid ho.len
    clear hb ho
    go_wp2_with fail
    refine (decode_any B8 n8 c8 b _ HC5.out (by have := HNB.out; have := HN8.out; have := HS5.out.len; omega)).mono ?_
    rintro e w9 ⟨hb, ⟨m2, q2, hd, rfl, hr⟩ | ⟨hd, rfl⟩⟩
    · skip
      obtain ⟨he2, hwf2, _, _⟩ := dec_ok hd
      have HE2 := Lib.hid he2
      have HWF2 := Lib.hid hwf2
      have HB6 := Lib.hid (below_next HB5.out hb HB5.out.size)
      have HK6 := Lib.hid (HK5.out.kept hb)
      have HM6 := Lib.hid (HM5.out.below hb)
      have HS6 := Lib.hid (HS5.out.below hb)
      have HR6 := Lib.hid (hr.all)
      clear hb hr hd he2 hwf2
      have hal := (Below.refl w9.heap.size w9).alloc (Nat.le_refl _) (.cells #[.int .i64 m2.kind, .int .i64 m2.view, .int .i64 m2.seq, .int .i64 m2.client, .int .i64 m2.stamp, .int .i64 m2.e.c, .int .i64 m2.e.s, .int .i64 m2.e.t, .slice q2.ea m2.e.dig.length q2.ec, .slice q2.ga m2.dig.length q2.gc, .slice q2.da m2.data.length q2.dc, .slice q2.pa m2.proof.length q2.pc, .slice q2.va m2.proven.length q2.vc] 28)
      have HB7 := Lib.hid (below_next HB6.out hal HB6.out.size)
      have HK7 := Lib.hid (HK6.out.kept hal)
      have HM7 := Lib.hid (HM6.out.below hal)
      have HS7 := Lib.hid (HS6.out.below hal)
      have HR7 := Lib.hid (HR6.out.below hal)
      have HJ7 := Lib.hid (Bk.new w9 28 [.int .i64 m2.kind, .int .i64 m2.view, .int .i64 m2.seq, .int .i64 m2.client, .int .i64 m2.stamp, .int .i64 m2.e.c, .int .i64 m2.e.s, .int .i64 m2.e.t, .slice q2.ea m2.e.dig.length q2.ec, .slice q2.ga m2.dig.length q2.gc, .slice q2.da m2.data.length q2.dc, .slice q2.pa m2.proof.length q2.pc, .slice q2.va m2.proven.length q2.vc])
      clear hal
      go_wp2_with fail
      refine (encode_any m2 q2 _ HR7.out HWF2.out).mono ?_
      rw [HE2.out]
      rintro e w10 ⟨hb, A10, n10, c10, rfl, ho⟩
      have HB8 := Lib.hid (below_next HB7.out hb HB7.out.size)
      have HK8 := Lib.hid (HK7.out.kept hb)
      have HM8 := Lib.hid (HM7.out.below hb)
      have HS8 := Lib.hid (HS7.out.below hb)
      have HR8 := Lib.hid (HR7.out.below hb)
      have HJ8 := Lib.hid (HJ7.out.kept hb)
      have HZ8 := Lib.hid (Sl.own ho)
      clear hb ho
      go_wp2_with fail
      refine (sameB_two HZ8.out HS8.out).mono ?_
      rintro e w11 ⟨rfl, hb⟩
      have HB9 := Lib.hid (below_next HB8.out hb HB8.out.size)
      have HK9 := Lib.hid (HK8.out.kept hb)
      have HM9 := Lib.hid (HM8.out.below hb)
      have HS9 := Lib.hid (HS8.out.below hb)
      have HR9 := Lib.hid (HR8.out.below hb)
      have HJ9 := Lib.hid (HJ8.out.kept hb)
      have HZ9 := Lib.hid (HZ8.out.below hb)
      clear hb
      go_wp2_with fail
      go_ret
      exact ⟨rfl, HB9.out⟩
    · skip
      have HB6 := Lib.hid (below_next HB5.out hb HB5.out.size)
      have HK6 := Lib.hid (HK5.out.kept hb)
      have HM6 := Lib.hid (HM5.out.below hb)
      have HS6 := Lib.hid (HS5.out.below hb)
      clear hb hd
      have hal := (Below.refl w9.heap.size w9).alloc (Nat.le_refl _) (.cells #[.int .i64 0, .int .i64 0, .int .i64 0, .int .i64 0, .int .i64 0, .int .i64 0, .int .i64 0, .int .i64 0, .slice none 0 0, .slice none 0 0, .slice none 0 0, .slice none 0 0, .slice none 0 0] 28)
      have HB7 := Lib.hid (below_next HB6.out hal HB6.out.size)
      have HK7 := Lib.hid (HK6.out.kept hal)
      have HM7 := Lib.hid (HM6.out.below hal)
      have HS7 := Lib.hid (HS6.out.below hal)
      clear hal
      go_wp2_with fail
      go_ret
      exact ⟨rfl, HB7.out⟩
theorem msgRound_walk (w : World) (v : Value) (m : Mg) (h : InMg w v m) (x : Value) (b : List UInt8) (hx : InB w x b) : Calls Try.prog 6 #[v, x] w (Tr w) := by
  obtain ⟨q, rfl, h1, h2, h3, _⟩ := h
  obtain ⟨B, n, c, rfl, g1, g2, g3, g4⟩ := hx
  exact msgRound_any m q B n c b w h1 h2 h3 ⟨g1, g2, g3, g4⟩
end Go.Proofs.Ytmgmmbgjmnklkaa
