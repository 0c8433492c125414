/-
  MsgCuts: the walk of the law. No statement.
-/
import Derived.Test.YtmgmmbgjmnklkaaMsgLaw
import Derived.Test.YtmgmmbgjmnklkaaOpenMsg
namespace Go.Proofs.Ytmgmmbgjmnklkaa
set_option maxRecDepth 100000
open Go.RowKit
open Pk
set_option linter.unusedVariables false

theorem pack_len10 {m : Mg} {b : List UInt8} (h : m.pack = some b) : b.length ≤ 4294967000 := by
  obtain ⟨rows, h1, h2, h3⟩ := pack_rows h
  have h4 := joinX_len h2
  have h5 := parts_len m.kind
  simp only [List.length_cons, h3] at h4
  omega
theorem size_u8c (w : World) : (sizeOf 5).run Try.prog w = .ok 1 w := by kernel_rfl
theorem slice_h8 (A : Option Addr) (n c k : Nat) (hk : k ≤ c) (hc : c ≤ maxLen) (wx : World) : (Instr.slice 22 (.slice A n c) none (some (.int .i64 (k : Int))) none).run Try.prog wx = .ok (.slice A k c) wx := by
  rw [run_slice_h wx _ _ _ _ (by kernel_rfl) .i64 (k : Int) (by simp only [maxLen] at hc; omega) (by simp only [maxLen] at hc; omega)]
  have e : Try.prog.elem 22 = 5 := by kernel_rfl
  rw [e, size_u8c]
  have e0 : A.map (fun x => x.add 0) = A := by cases A <;> simp [Addr.add]
  simp [Result.andThen, sliced, e0]
set_option maxHeartbeats 6400000 in
theorem msgCuts_any (m : Mg) (q : Mad) (k : Int) (w : World) (h : MgR AllB w m q) (hwf : m.wf) (hbig : m.big) :
    Calls Try.prog 9 #[.agg #[.int .i64 m.kind, .int .i64 m.view, .int .i64 m.seq, .int .i64 m.client, .int .i64 m.stamp, .int .i64 m.e.c, .int .i64 m.e.s, .int .i64 m.e.t, .slice q.ea m.e.dig.length q.ec, .slice q.ga m.dig.length q.gc, .slice q.da m.data.length q.dc, .slice q.pa m.proof.length q.pc, .slice q.va m.proven.length q.vc], .int .i64 k] w (Tr w) := by
  obtain ⟨i0, hi, hz0, hz1, hz2⟩ := info_parts info_u8
  have hB := (Below.refl w.heap.size w).alloc (Nat.le_refl _) (.cells #[.int .i64 m.kind, .int .i64 m.view, .int .i64 m.seq, .int .i64 m.client, .int .i64 m.stamp, .int .i64 m.e.c, .int .i64 m.e.s, .int .i64 m.e.t, .slice q.ea m.e.dig.length q.ec, .slice q.ga m.dig.length q.gc, .slice q.da m.data.length q.dc, .slice q.pa m.proof.length q.pc, .slice q.va m.proven.length q.vc] 28)
  have HB0 := Lib.hid (hB)
  have HK0 := Lib.hid (Bk.new w 28 [.int .i64 m.kind, .int .i64 m.view, .int .i64 m.seq, .int .i64 m.client, .int .i64 m.stamp, .int .i64 m.e.c, .int .i64 m.e.s, .int .i64 m.e.t, .slice q.ea m.e.dig.length q.ec, .slice q.ga m.dig.length q.gc, .slice q.da m.data.length q.dc, .slice q.pa m.proof.length q.pc, .slice q.va m.proven.length q.vc])
  have HM0 := Lib.hid (h.below hB)
  have HWF := Lib.hid hwf
  have HBIG := Lib.hid hbig
  clear h hwf hbig hB
  go_enter Try.func9, Try.ntmps9
  go_wp2_with fail
  refine (alive_ok _).mono ?_
  rintro e w1 ⟨rfl, hb⟩
  have HB1 := Lib.hid (below_next HB0.out hb HB0.out.size)
  have HK1 := Lib.hid (HK0.out.kept hb)
  have HM1 := Lib.hid (HM0.out.below hb)
  clear hb
  have k0 := HK1.out.at_ (i := 0) rfl
  have k1 := HK1.out.at_ (i := 1) rfl
  have k2 := HK1.out.at_ (i := 2) rfl
  have k3 := HK1.out.at_ (i := 3) rfl
  have k4 := HK1.out.at_ (i := 4) rfl
  have k5 := HK1.out.at_ (i := 5) rfl
  have k6 := HK1.out.at_ (i := 6) rfl
  have k7 := HK1.out.at_ (i := 7) rfl
  have k8 := HK1.out.at_ (i := 8) rfl
  have k9 := HK1.out.at_ (i := 9) rfl
  have k10 := HK1.out.at_ (i := 10) rfl
  have k11 := HK1.out.at_ (i := 11) rfl
  have k12 := HK1.out.at_ (i := 12) rfl
  go_wp2_with fail
  clear k0 k1 k2 k3 k4 k5 k6 k7 k8 k9 k10 k11 k12
  refine (heavy_any m q 20000 _ _ HM1.out).mono ?_
  rintro e w2 ⟨hv, rfl, hb⟩
  have HB2 := Lib.hid (below_next HB1.out hb HB1.out.size)
  have HK2 := Lib.hid (HK1.out.kept hb)
  have HM2 := Lib.hid (HM1.out.below hb)
  clear hb
  cases hv
  rotate_left
  · go_wp2_with fail
    go_ret
    exact ⟨rfl, HB2.out⟩
  have k0 := HK2.out.at_ (i := 0) rfl
  have k1 := HK2.out.at_ (i := 1) rfl
  have k2 := HK2.out.at_ (i := 2) rfl
  have k3 := HK2.out.at_ (i := 3) rfl
  have k4 := HK2.out.at_ (i := 4) rfl
  have k5 := HK2.out.at_ (i := 5) rfl
  have k6 := HK2.out.at_ (i := 6) rfl
  have k7 := HK2.out.at_ (i := 7) rfl
  have k8 := HK2.out.at_ (i := 8) rfl
  have k9 := HK2.out.at_ (i := 9) rfl
  have k10 := HK2.out.at_ (i := 10) rfl
  have k11 := HK2.out.at_ (i := 11) rfl
  have k12 := HK2.out.at_ (i := 12) rfl
  go_wp2_with fail
  clear k0 k1 k2 k3 k4 k5 k6 k7 k8 k9 k10 k11 k12
  refine (copyMsg_any m q _ _ HM2.out HBIG.out).mono ?_
  rintro e w3 ⟨hb, r, rfl, hr⟩
  have HB3 := Lib.hid (below_next HB2.out hb HB2.out.size)
  have HR3 := Lib.hid (hr)
  clear hb hr
  go_wp2_with fail
  refine (encode_any m r _ HR3.out.all HWF.out).mono ?_
  rintro e w4 ⟨hb, A4, n4, c4, rfl, ho⟩
  have HB4 := Lib.hid (below_next HB3.out hb HB3.out.size)
  have HO4 := Lib.hid (Sl.own ho)
  clear hb ho
  rcases enc_cases m with ⟨b, he, hk, hok, hp⟩ | ⟨j, he, hj⟩
  rotate_left
  · have hjb : (((j : Nat) : Int) != 0) = true := by rcases hj with rfl | rfl | rfl <;> rfl
    rw [he]
    go_wp2_with fail
    go_ret
    exact ⟨rfl, HB4.out⟩
  have HO := Lib.hid (show Sl w4 A4 n4 c4 b from by have := HO4.out; rw [he] at this; exact this)
  obtain rfl : b.length = n4 := HO.out.len
  have HL4 := Lib.hid (pack_len10 hp)
  have HM1 := Lib.hid (dec_none (more_none hk hp))
  have HC1 := Lib.hid (fun i hi => dec_none (cut_none (k := i) hk hp hi))
  rw [he]
  clear he hk hok hp
  go_wp2_with fail
  refine (copyBytes_big A4 b.length c4 b _ HO.out.rd (by have := HL4.out; omega)).mono ?_
  rintro e w5 ⟨A5, n5, c5, rfl, ho5, hb5⟩
  obtain rfl : b.length = n5 := ho5.len
  have hs5 := hb5.size
  go_wp2_with (at_builtin
               refine wpList_append_rd _ rfl _ _ 22 rfl w4.heap.size 5 i0 _ 1 Try.underlying22 hi hz0 hz1 hz2 rfl A5 b.length c5 (b.map bv) rfl (World.ownsRow.alloc ho5 _) (some ⟨w5.heap.size, 0, none⟩) 1 1 [.int .u8 0] rfl
                 (Rd.new w5 [Value.int .u8 0] 5) (by simp [Value.oneCell']) (by have := HL4.out; simp only [maxLen]; omega) (by have := HL4.out; omega) (by simp; omega) ?_
               intro A6 c6 w6 hown6 hg6 hrow6)
  have hb := (hb5.alloc hb5.size (.cells #[.int .u8 0] 5)).grown hg6 (by simp; omega) (OwnB.block ho5)
  have HLO := Lib.hid (show Sl w6 A6 (b.length + 1) c6 (b ++ [0]) from Sl.own (show OwnB w6 w4.heap.size A6 (b.length + 1) c6 (b ++ [0]) by unfold OwnB; rw [List.map_append]; exact hown6))
  have HB5 := Lib.hid (below_next HB4.out hb HB4.out.size)
  have HO5 := Lib.hid (HO.out.below hb)
  clear hb hb5 ho5 hs5 hown6 hg6 hrow6
  try go_wp2_with fail
  refine (decode_any A6 (b.length + 1) c6 (b ++ [0]) _ HLO.out (by have := HL4.out; omega)).mono ?_
  rintro e w7 ⟨hb, ⟨m5, q5, hd, rfl, hr⟩ | ⟨hd, rfl⟩⟩
  · rw [HM1.out] at hd; cases hd
  have HB6 := Lib.hid (below_next HB5.out hb HB5.out.size)
  have HO6 := Lib.hid (HO5.out.below hb)
  clear hb hd
  by_cases h0 : k < 0
  · go_wp2_with fail
    go_ret
    exact ⟨rfl, HB6.out⟩
  obtain ⟨i, rfl⟩ : ∃ i : Nat, k = i := ⟨k.toNat, by omega⟩
  clear h0
  by_cases h1 : b.length ≤ i
  · go_wp2_with fail
    go_ret
    exact ⟨rfl, HB6.out⟩
  have hil : i < b.length := by omega
  have HIL := Lib.hid hil
  have hcc := HO6.out.1
  have hsl := fun wx => slice_h8 A4 b.length c4 i (by omega) HO6.out.2.1 wx
  have HTK := Lib.hid (Sl.front (n := i) (l := b.take i) (r := b.drop i) (show Sl w7 A4 b.length c4 (b.take i ++ b.drop i) by rw [List.take_append_drop]; exact HO6.out) (by rw [List.length_take]; omega))
  clear h1
  go_wp2_with fail
  clear hsl hil hcc
  refine (decode_any A4 i c4 (b.take i) _ HTK.out (by have := HL4.out; have := HIL.out; omega)).mono ?_
  rintro e w8 ⟨hb, ⟨m5, q5, hd, rfl, hr⟩ | ⟨hd, rfl⟩⟩
  · rw [HC1.out i HIL.out] at hd; cases hd
  have HB7 := Lib.hid (below_next HB6.out hb HB6.out.size)
  have HO7 := Lib.hid (HO6.out.below hb)
  clear hb hd
  have hal := (Below.refl w8.heap.size w8).alloc (Nat.le_refl _) (.cells #[.int .i64 0, .int .i64 0, .int .i64 0, .int .i64 0, .int .i64 0, .int .i64 0, .int .i64 0, .int .i64 0, .slice none 0 0, .slice none 0 0, .slice none 0 0, .slice none 0 0, .slice none 0 0] 28)
  have HB8 := Lib.hid (below_next HB7.out hal HB7.out.size)
  have HO8 := Lib.hid (HO7.out.below hal)
  clear hal
  go_wp2_with fail
  go_ret
  exact ⟨rfl, HB8.out⟩
theorem msgCuts_walk (w : World) (v : Value) (m : Mg) (h : InMg w v m) (k : Int) (hk : (Lit.int .i64 k).wf = true) : Calls Try.prog 9 #[v, .int .i64 k] w (Tr w) := by
  obtain ⟨q, rfl, h1, h2, h3, _⟩ := h
  exact msgCuts_any m q k w h1 h2 h3
end Go.Proofs.Ytmgmmbgjmnklkaa
