/-
  MsgLetters: the walk of the law. No statement.
-/
import Derived.Test.YtmgmmbgjmnklkaaMsgLaw
import Derived.Test.YtmgmmbgjmnklkaaOpenMsg
import Derived.Test.YtmgmmbgjmnklkaaMsgRef5
namespace Go.Proofs.Ytmgmmbgjmnklkaa
set_option maxRecDepth 100000
open Go.RowKit
open Pk
set_option linter.unusedVariables false

def ltZ : Lt := ⟨0, 0, 0, [], []⟩
def enZ : En := ⟨0, 0, 0, []⟩
/-- a letter, an entry and an error came back -/
def DecLX (r : Option Lt) (w : World) (e : Ending) (w' : World) : Prop :=
  Below w.heap.size w w' ∧ ∃ (x : Lt) (k : Nat) (A : Option Addr) (c : Nat) (B : Option Addr) (d : Nat), (r = some x ∧ k = 0 ∨ r = none ∧ x = ltZ ∧ k = 12) ∧ e = .returned (.tuple #[.agg #[.int .i64 x.f1, .int .i64 x.f2, .int .i64 x.r, .slice A x.body.length c, .slice B x.tags.length d], .int .i64 (k : Int)]) ∧ LtR AllB w' x A c B d
theorem DecL.x {l : List UInt8} {w : World} {e : Ending} {w' : World} (h : DecL l w e w') : DecLX (decLt l) w e w' := by
  obtain ⟨hb, ⟨x, A, c, B, d, hd, he, hr⟩ | ⟨hd, he⟩⟩ := h
  · exact ⟨hb, x, 0, A, c, B, d, .inl ⟨hd, rfl⟩, he, hr.1.all, hr.2.all⟩
  · exact ⟨hb, ltZ, 12, none, 0, none, 0, .inr ⟨hd, rfl, rfl⟩, he, BF.nil_ _ _, RdS.nil_ _ _ _⟩
def DecEX (r : Option En) (w : World) (e : Ending) (w' : World) : Prop :=
  Below w.heap.size w w' ∧ ∃ (x : En) (k : Nat) (A : Option Addr) (c : Nat), (r = some x ∧ k = 0 ∨ r = none ∧ x = enZ ∧ k = 12) ∧ e = .returned (.tuple #[.agg #[.int .i64 x.c, .int .i64 x.s, .int .i64 x.t, .slice A x.dig.length c], .int .i64 (k : Int)]) ∧ BF AllB w' A c x.dig
theorem DecE.x {l : List UInt8} {w : World} {e : Ending} {w' : World} (h : DecE l w e w') : DecEX (decEn l) w e w' := by
  obtain ⟨hb, ⟨x, A, c, hd, he, hr⟩ | ⟨hd, he⟩⟩ := h
  · exact ⟨hb, x, 0, A, c, .inl ⟨hd, rfl⟩, he, hr.all⟩
  · exact ⟨hb, enZ, 12, none, 0, .inr ⟨hd, rfl, rfl⟩, he, BF.nil_ _ _⟩
theorem two_ways {α : Type} {r : Option α} {x y z : α} {k j : Nat} (h : r = some x ∧ k = 0 ∨ r = none ∧ x = z ∧ k = 12) (h' : r = some y ∧ j = 0 ∨ r = none ∧ y = z ∧ j = 12) : x = y ∧ k = j := by
  rcases h with ⟨h1, h2⟩ | ⟨h1, h2, h3⟩ <;> rcases h' with ⟨g1, g2⟩ | ⟨g1, g2, g3⟩
  · rw [h1] at g1; injection g1 with g1; exact ⟨g1, by omega⟩
  · rw [h1] at g1; cases g1
  · rw [h1] at g1; cases g1
  · exact ⟨by rw [h2, g2], by omega⟩
set_option maxHeartbeats 12800000 in
theorem msgLetters_any (l : Lt) (x : En) (b : List UInt8) (A0 B0 A1 A2 : Option Addr) (c0 d0 c1 n c2 : Nat) (w : World) (h0 : LtR AllB w l A0 c0 B0 d0) (h1 : BF AllB w A1 c1 x.dig) (h2 : Sl w A2 n c2 b) (g0 : l.big) (g1 : x.dig.length ≤ 140737488355328) :
    Calls Try.prog 5 #[.agg #[.int .i64 l.f1, .int .i64 l.f2, .int .i64 l.r, .slice A0 l.body.length c0, .slice B0 l.tags.length d0], .agg #[.int .i64 x.c, .int .i64 x.s, .int .i64 x.t, .slice A1 x.dig.length c1], .slice A2 n c2] w (Tr w) := by
  have s1 : (w.alloc (.cells #[.int .i64 l.f1, .int .i64 l.f2, .int .i64 l.r, .slice A0 l.body.length c0, .slice B0 l.tags.length d0] 46)).heap.size = w.heap.size + 1 := by simp
  have hB := ((Below.refl w.heap.size w).alloc (Nat.le_refl _) (.cells #[.int .i64 l.f1, .int .i64 l.f2, .int .i64 l.r, .slice A0 l.body.length c0, .slice B0 l.tags.length d0] 46)).alloc (by rw [s1]; omega) (.cells #[.int .i64 x.c, .int .i64 x.s, .int .i64 x.t, .slice A1 x.dig.length c1] 24)
  have k0 := (Bk.new w 46 [.int .i64 l.f1, .int .i64 l.f2, .int .i64 l.r, .slice A0 l.body.length c0, .slice B0 l.tags.length d0]).alloc (.cells #[.int .i64 x.c, .int .i64 x.s, .int .i64 x.t, .slice A1 x.dig.length c1] 24)
  have k1 := Bk.new (w.alloc (.cells #[.int .i64 l.f1, .int .i64 l.f2, .int .i64 l.r, .slice A0 l.body.length c0, .slice B0 l.tags.length d0] 46)) 24 [.int .i64 x.c, .int .i64 x.s, .int .i64 x.t, .slice A1 x.dig.length c1]
  rw [s1] at k1
  have HB0 := Lib.hid (hB)
  have HK0_0 := Lib.hid (k0)
  have HK1_0 := Lib.hid (k1)
  have HM0_0 := Lib.hid (h0.below hB)
  have HM1_0 := Lib.hid (h1.below hB)
  have HS0 := Lib.hid (h2.below hB)
  have G0 := Lib.hid g0
  have G1 := Lib.hid g1
  clear h0 h1 h2 g0 g1 hB k0 k1 s1
  go_enter Try.func5, Try.ntmps5
  go_wp2_with fail
  refine (alive_ok _).mono ?_
  rintro e w1 ⟨rfl, hb⟩
  have HB1 := Lib.hid (below_next HB0.out hb HB0.out.size)
  have HK0_1 := Lib.hid (HK0_0.out.kept hb)
  have HK1_1 := Lib.hid (HK1_0.out.kept hb)
  have HM0_1 := Lib.hid (HM0_0.out.below hb)
  have HM1_1 := Lib.hid (HM1_0.out.below hb)
  have HS1 := Lib.hid (HS0.out.below hb)
  clear hb
  have k0 := HK0_1.out.at_ (i := 0) rfl
  have k1 := HK0_1.out.at_ (i := 1) rfl
  have k2 := HK0_1.out.at_ (i := 2) rfl
  have k3 := HK0_1.out.at_ (i := 3) rfl
  have k4 := HK0_1.out.at_ (i := 4) rfl
  go_wp2_with fail
  clear k0 k1 k2 k3 k4
  refine (weight_any l A0 c0 B0 d0 _ _ HM0_1.out).mono ?_
  rintro e w2 ⟨v1, rfl, hb⟩
  have HB2 := Lib.hid (below_next HB1.out hb HB1.out.size)
  have HK0_2 := Lib.hid (HK0_1.out.kept hb)
  have HK1_2 := Lib.hid (HK1_1.out.kept hb)
  have HM0_2 := Lib.hid (HM0_1.out.below hb)
  have HM1_2 := Lib.hid (HM1_1.out.below hb)
  have HS2 := Lib.hid (HS1.out.below hb)
  clear hb
  by_cases hv1 : (100000 : Int) < v1
  · go_wp2_with fail
    go_ret
    exact ⟨rfl, HB2.out⟩
  have kx3 := HK1_2.out.at_ (i := 3) rfl
  have k0 := HK0_2.out.at_ (i := 0) rfl
  have k1 := HK0_2.out.at_ (i := 1) rfl
  have k2 := HK0_2.out.at_ (i := 2) rfl
  have k3 := HK0_2.out.at_ (i := 3) rfl
  have k4 := HK0_2.out.at_ (i := 4) rfl
  by_cases hv2 : (5000 : Int) < (x.dig.length : Int)
  · go_wp2_with fail
    go_ret
    exact ⟨rfl, HB2.out⟩
  by_cases hv3 : (5000 : Int) < (n : Int)
  · go_wp2_with fail
    go_ret
    exact ⟨rfl, HB2.out⟩
  have HN := Lib.hid hv3
  go_wp2_with fail
  clear kx3 k0 k1 k2 k3 k4
  clear hv1 hv2 hv3
  refine (copyLetterM_any l A0 c0 B0 d0 _ _ HM0_2.out G0.out).mono ?_
  rintro e w4 ⟨hb, E0, f0, E1, f1, rfl, hr⟩
  have HB3 := Lib.hid (below_next HB2.out hb HB2.out.size)
  have HK0_3 := Lib.hid (HK0_2.out.kept hb)
  have HK1_3 := Lib.hid (HK1_2.out.kept hb)
  have HM0_3 := Lib.hid (HM0_2.out.below hb)
  have HM1_3 := Lib.hid (HM1_2.out.below hb)
  have HS3 := Lib.hid (HS2.out.below hb)
  have HR3 := Lib.hid (hr)
  clear hb hr
  go_wp2_with fail
  refine (packLetterX_any l E0 f0 E1 f1 _ ⟨HR3.out.1.all, HR3.out.2.all⟩).mono ?_
  rintro e w5 ⟨hb, A5, n5, c5, rfl, ho⟩
  have HB4 := Lib.hid (below_next HB3.out hb HB3.out.size)
  have HK0_4 := Lib.hid (HK0_3.out.kept hb)
  have HK1_4 := Lib.hid (HK1_3.out.kept hb)
  have HM0_4 := Lib.hid (HM0_3.out.below hb)
  have HM1_4 := Lib.hid (HM1_3.out.below hb)
  have HS4 := Lib.hid (HS3.out.below hb)
  have HO4 := Lib.hid (Sl.own ho)
  clear hb ho
  have k0 := HK0_4.out.at_ (i := 0) rfl
  have k1 := HK0_4.out.at_ (i := 1) rfl
  have k2 := HK0_4.out.at_ (i := 2) rfl
  have k3 := HK0_4.out.at_ (i := 3) rfl
  have k4 := HK0_4.out.at_ (i := 4) rfl
  go_wp2_with fail
  clear k0 k1 k2 k3 k4
  refine (refPackLetter_any l A0 c0 B0 d0 _ _ HM0_4.out).mono ?_
  rintro e w6 ⟨hb, A6, n6, c6, rfl, ho⟩
  have HB5 := Lib.hid (below_next HB4.out hb HB4.out.size)
  have HK0_5 := Lib.hid (HK0_4.out.kept hb)
  have HK1_5 := Lib.hid (HK1_4.out.kept hb)
  have HM0_5 := Lib.hid (HM0_4.out.below hb)
  have HM1_5 := Lib.hid (HM1_4.out.below hb)
  have HS5 := Lib.hid (HS4.out.below hb)
  have HO5 := Lib.hid (HO4.out.below hb)
  have HQ5 := Lib.hid (Sl.own ho)
  clear hb ho
  have k0 := HK1_5.out.at_ (i := 0) rfl
  have k1 := HK1_5.out.at_ (i := 1) rfl
  have k2 := HK1_5.out.at_ (i := 2) rfl
  have k3 := HK1_5.out.at_ (i := 3) rfl
  go_wp2_with fail
  clear k0 k1 k2 k3
  refine (copyEntry_any x A1 c1 _ _ HM1_5.out G1.out).mono ?_
  rintro e w7 ⟨hb, F0, j0, rfl, hr⟩
  have HB6 := Lib.hid (below_next HB5.out hb HB5.out.size)
  have HK0_6 := Lib.hid (HK0_5.out.kept hb)
  have HK1_6 := Lib.hid (HK1_5.out.kept hb)
  have HM0_6 := Lib.hid (HM0_5.out.below hb)
  have HM1_6 := Lib.hid (HM1_5.out.below hb)
  have HS6 := Lib.hid (HS5.out.below hb)
  have HO6 := Lib.hid (HO5.out.below hb)
  have HQ6 := Lib.hid (HQ5.out.below hb)
  have HR6 := Lib.hid (hr)
  clear hb hr
  go_wp2_with fail
  refine (packEntryX_any x F0 j0 _ HR6.out.all).mono ?_
  rintro e w8 ⟨hb, A8, n8, c8, rfl, ho⟩
  have HB7 := Lib.hid (below_next HB6.out hb HB6.out.size)
  have HK0_7 := Lib.hid (HK0_6.out.kept hb)
  have HK1_7 := Lib.hid (HK1_6.out.kept hb)
  have HM0_7 := Lib.hid (HM0_6.out.below hb)
  have HM1_7 := Lib.hid (HM1_6.out.below hb)
  have HS7 := Lib.hid (HS6.out.below hb)
  have HO7 := Lib.hid (HO6.out.below hb)
  have HQ7 := Lib.hid (HQ6.out.below hb)
  have HP7 := Lib.hid (Sl.own ho)
  clear hb ho
  have k0 := HK1_7.out.at_ (i := 0) rfl
  have k1 := HK1_7.out.at_ (i := 1) rfl
  have k2 := HK1_7.out.at_ (i := 2) rfl
  have k3 := HK1_7.out.at_ (i := 3) rfl
  go_wp2_with fail
  clear k0 k1 k2 k3
  refine (refPackEntry_any x A1 c1 _ _ HM1_7.out).mono ?_
  rintro e w9 ⟨hb, A9, n9, c9, rfl, ho⟩
  have HB8 := Lib.hid (below_next HB7.out hb HB7.out.size)
  have HS8 := Lib.hid (HS7.out.below hb)
  have HO8 := Lib.hid (HO7.out.below hb)
  have HQ8 := Lib.hid (HQ7.out.below hb)
  have HP8 := Lib.hid (HP7.out.below hb)
  have HU8 := Lib.hid (Sl.own ho)
  clear hb ho
  generalize l.encode.1 = kl at *
  generalize x.encode.1 = kx at *
  go_wp2_with fail
  refine (sameB_two HO8.out HQ8.out).mono ?_
  rintro e w10 ⟨rfl, hb⟩
  have HB9 := Lib.hid (below_next HB8.out hb HB8.out.size)
  have HS9 := Lib.hid (HS8.out.below hb)
  have HP9 := Lib.hid (HP8.out.below hb)
  have HU9 := Lib.hid (HU8.out.below hb)
  clear hb
  go_wp2_with fail
  refine (sameB_two HP9.out HU9.out).mono ?_
  rintro e w11 ⟨rfl, hb⟩
  have HB10 := Lib.hid (below_next HB9.out hb HB9.out.size)
  have HS10 := Lib.hid (HS9.out.below hb)
  clear hb
  go_wp2_with fail
  refine (copyBytes_big A2 n c2 b _ HS10.out.rd (by have := HN.out; omega)).mono ?_
  rintro e w12 ⟨A12, nA12, cA12, rfl, ho, hb⟩
  have HB11 := Lib.hid (below_next HB10.out hb HB10.out.size)
  have HS11 := Lib.hid (HS10.out.below hb)
  have HC11 := Lib.hid (Sl.own ho)
  have HNA12 := Lib.hid (show nA12 ≤ 4294967296 by have h1 := ho.len; have h2 := HS11.out.len; have h3 := HN.out; omega)
  clear hb ho
  go_wp2_with fail
  refine ((readLetterX_any A12 nA12 cA12 b _ HC11.out HNA12.out).mono fun _ _ h => h.x).mono ?_
  rintro e w13 ⟨hb, lp, kp, P0, p0, P1, p1, hpw, rfl, hr⟩
  have HB12 := Lib.hid (below_next HB11.out hb HB11.out.size)
  have HS12 := Lib.hid (HS11.out.below hb)
  have HLP12 := Lib.hid (hr)
  have HPW := Lib.hid hpw
  clear hb hr hpw
  have hal := (Below.refl w13.heap.size w13).alloc (Nat.le_refl _) (.cells #[.int .i64 lp.f1, .int .i64 lp.f2, .int .i64 lp.r, .slice P0 lp.body.length p0, .slice P1 lp.tags.length p1] 46)
  have HB13 := Lib.hid (below_next HB12.out hal HB12.out.size)
  have HS13 := Lib.hid (HS12.out.below hal)
  have HLP13 := Lib.hid (HLP12.out.below hal)
  have HJ1_13 := Lib.hid (Bk.new w13 46 [.int .i64 lp.f1, .int .i64 lp.f2, .int .i64 lp.r, .slice P0 lp.body.length p0, .slice P1 lp.tags.length p1])
  clear hal
  go_wp2_with fail
  refine ((refReadLetter_any A2 n c2 b _ HS13.out (by have := HN.out; omega)).mono fun _ _ h => h.x).mono ?_
  rintro e w14 ⟨hb, lq, kq, Q0, q0, Q1, q1, hqw, rfl, hr⟩
  obtain ⟨rfl, rfl⟩ := two_ways HPW.out hqw
  have HB14 := Lib.hid (below_next HB13.out hb HB13.out.size)
  have HS14 := Lib.hid (HS13.out.below hb)
  have HLP14 := Lib.hid (HLP13.out.below hb)
  have HJ1_14 := Lib.hid (HJ1_13.out.kept hb)
  have HLQ14 := Lib.hid (hr)
  clear hb hr hqw
  have hal := (Below.refl w14.heap.size w14).alloc (Nat.le_refl _) (.cells #[.int .i64 lp.f1, .int .i64 lp.f2, .int .i64 lp.r, .slice Q0 lp.body.length q0, .slice Q1 lp.tags.length q1] 46)
  have HB15 := Lib.hid (below_next HB14.out hal HB14.out.size)
  have HS15 := Lib.hid (HS14.out.below hal)
  have HLP15 := Lib.hid (HLP14.out.below hal)
  have HJ1_15 := Lib.hid (HJ1_14.out.kept hal)
  have HLQ15 := Lib.hid (HLQ14.out.below hal)
  have HJ2_15 := Lib.hid (Bk.new w14 46 [.int .i64 lp.f1, .int .i64 lp.f2, .int .i64 lp.r, .slice Q0 lp.body.length q0, .slice Q1 lp.tags.length q1])
  clear hal
  go_wp2_with fail
  refine (copyBytes_big A2 n c2 b _ HS15.out.rd (by have := HN.out; omega)).mono ?_
  rintro e w15 ⟨A15, nA15, cA15, rfl, ho, hb⟩
  have HB16 := Lib.hid (below_next HB15.out hb HB15.out.size)
  have HS16 := Lib.hid (HS15.out.below hb)
  have HLP16 := Lib.hid (HLP15.out.below hb)
  have HJ1_16 := Lib.hid (HJ1_15.out.kept hb)
  have HLQ16 := Lib.hid (HLQ15.out.below hb)
  have HJ2_16 := Lib.hid (HJ2_15.out.kept hb)
  have HC16 := Lib.hid (Sl.own ho)
  have HNA15 := Lib.hid (show nA15 ≤ 4294967296 by have h1 := ho.len; have h2 := HS16.out.len; have h3 := HN.out; omega)
  clear hb ho
  go_wp2_with fail
  refine ((readEntryX_any A15 nA15 cA15 b _ HC16.out HNA15.out).mono fun _ _ h => h.x).mono ?_
  rintro e w16 ⟨hb, ep, je, P2, p2, hew, rfl, hr⟩
  have HB17 := Lib.hid (below_next HB16.out hb HB16.out.size)
  have HS17 := Lib.hid (HS16.out.below hb)
  have HLP17 := Lib.hid (HLP16.out.below hb)
  have HJ1_17 := Lib.hid (HJ1_16.out.kept hb)
  have HLQ17 := Lib.hid (HLQ16.out.below hb)
  have HJ2_17 := Lib.hid (HJ2_16.out.kept hb)
  have HEP17 := Lib.hid (hr)
  have HEW := Lib.hid hew
  clear hb hr hew
  have hal := (Below.refl w16.heap.size w16).alloc (Nat.le_refl _) (.cells #[.int .i64 ep.c, .int .i64 ep.s, .int .i64 ep.t, .slice P2 ep.dig.length p2] 24)
  have HB18 := Lib.hid (below_next HB17.out hal HB17.out.size)
  have HS18 := Lib.hid (HS17.out.below hal)
  have HLP18 := Lib.hid (HLP17.out.below hal)
  have HJ1_18 := Lib.hid (HJ1_17.out.kept hal)
  have HLQ18 := Lib.hid (HLQ17.out.below hal)
  have HJ2_18 := Lib.hid (HJ2_17.out.kept hal)
  have HEP18 := Lib.hid (HEP17.out.below hal)
  have HJ3_18 := Lib.hid (Bk.new w16 24 [.int .i64 ep.c, .int .i64 ep.s, .int .i64 ep.t, .slice P2 ep.dig.length p2])
  clear hal
  go_wp2_with fail
  refine ((refReadEntry_any A2 n c2 b _ HS18.out (by have := HN.out; omega)).mono fun _ _ h => h.x).mono ?_
  rintro e w17 ⟨hb, eq, jq, Q2, q2, hqw, rfl, hr⟩
  obtain ⟨rfl, rfl⟩ := two_ways HEW.out hqw
  have HB19 := Lib.hid (below_next HB18.out hb HB18.out.size)
  have HS19 := Lib.hid (HS18.out.below hb)
  have HLP19 := Lib.hid (HLP18.out.below hb)
  have HJ1_19 := Lib.hid (HJ1_18.out.kept hb)
  have HLQ19 := Lib.hid (HLQ18.out.below hb)
  have HJ2_19 := Lib.hid (HJ2_18.out.kept hb)
  have HEP19 := Lib.hid (HEP18.out.below hb)
  have HJ3_19 := Lib.hid (HJ3_18.out.kept hb)
  have HEQ19 := Lib.hid (hr)
  clear hb hr hqw
  have hal := (Below.refl w17.heap.size w17).alloc (Nat.le_refl _) (.cells #[.int .i64 ep.c, .int .i64 ep.s, .int .i64 ep.t, .slice Q2 ep.dig.length q2] 24)
  have HB20 := Lib.hid (below_next HB19.out hal HB19.out.size)
  have HS20 := Lib.hid (HS19.out.below hal)
  have HLP20 := Lib.hid (HLP19.out.below hal)
  have HJ1_20 := Lib.hid (HJ1_19.out.kept hal)
  have HLQ20 := Lib.hid (HLQ19.out.below hal)
  have HJ2_20 := Lib.hid (HJ2_19.out.kept hal)
  have HEP20 := Lib.hid (HEP19.out.below hal)
  have HJ3_20 := Lib.hid (HJ3_19.out.kept hal)
  have HEQ20 := Lib.hid (HEQ19.out.below hal)
  have HJ4_20 := Lib.hid (Bk.new w17 24 [.int .i64 ep.c, .int .i64 ep.s, .int .i64 ep.t, .slice Q2 ep.dig.length q2])
  clear hal
  have ja0 := HJ1_20.out.at_ (i := 0) rfl
  have ja1 := HJ1_20.out.at_ (i := 1) rfl
  have ja2 := HJ1_20.out.at_ (i := 2) rfl
  have ja3 := HJ1_20.out.at_ (i := 3) rfl
  have ja4 := HJ1_20.out.at_ (i := 4) rfl
  have jb0 := HJ2_20.out.at_ (i := 0) rfl
  have jb1 := HJ2_20.out.at_ (i := 1) rfl
  have jb2 := HJ2_20.out.at_ (i := 2) rfl
  have jb3 := HJ2_20.out.at_ (i := 3) rfl
  have jb4 := HJ2_20.out.at_ (i := 4) rfl
  go_wp2_with fail
  clear ja0 ja1 ja2 ja3 ja4 jb0 jb1 jb2 jb3 jb4
  refine (sameLetter_self' lp P0 P1 Q0 Q1 p0 p1 q0 q1 _ _ _ HLP20.out HLQ20.out).mono ?_
  rintro e w18 ⟨rfl, hb⟩
  have HB21 := Lib.hid (below_next HB20.out hb HB20.out.size)
  have HS21 := Lib.hid (HS20.out.below hb)
  have HLP21 := Lib.hid (HLP20.out.below hb)
  have HJ1_21 := Lib.hid (HJ1_20.out.kept hb)
  have HLQ21 := Lib.hid (HLQ20.out.below hb)
  have HJ2_21 := Lib.hid (HJ2_20.out.kept hb)
  have HEP21 := Lib.hid (HEP20.out.below hb)
  have HJ3_21 := Lib.hid (HJ3_20.out.kept hb)
  have HEQ21 := Lib.hid (HEQ20.out.below hb)
  have HJ4_21 := Lib.hid (HJ4_20.out.kept hb)
  clear hb
  have ja0 := HJ3_21.out.at_ (i := 0) rfl
  have ja1 := HJ3_21.out.at_ (i := 1) rfl
  have ja2 := HJ3_21.out.at_ (i := 2) rfl
  have ja3 := HJ3_21.out.at_ (i := 3) rfl
  have jb0 := HJ4_21.out.at_ (i := 0) rfl
  have jb1 := HJ4_21.out.at_ (i := 1) rfl
  have jb2 := HJ4_21.out.at_ (i := 2) rfl
  have jb3 := HJ4_21.out.at_ (i := 3) rfl
  go_wp2_with fail
  clear ja0 ja1 ja2 ja3 jb0 jb1 jb2 jb3
  refine (sameEntry_self ep P2 Q2 p2 q2 _ _ _ HEP21.out HEQ21.out).mono ?_
  rintro e w19 ⟨rfl, hb⟩
  have HB22 := Lib.hid (below_next HB21.out hb HB21.out.size)
  have HS22 := Lib.hid (HS21.out.below hb)
  have HLP22 := Lib.hid (HLP21.out.below hb)
  have HJ1_22 := Lib.hid (HJ1_21.out.kept hb)
  have HLQ22 := Lib.hid (HLQ21.out.below hb)
  have HJ2_22 := Lib.hid (HJ2_21.out.kept hb)
  have HEP22 := Lib.hid (HEP21.out.below hb)
  have HJ3_22 := Lib.hid (HJ3_21.out.kept hb)
  have HEQ22 := Lib.hid (HEQ21.out.below hb)
  have HJ4_22 := Lib.hid (HJ4_21.out.kept hb)
  clear hb
  go_wp2_with fail
  go_ret
  exact ⟨rfl, HB22.out⟩
theorem msgLetters_walk (w : World) (v0 : Value) (l : Lt) (h0 : InLt w v0 l) (v1 : Value) (x : En) (h1 : InEn w v1 x) (v2 : Value) (b : List UInt8) (h2 : InB w v2 b) :
    Calls Try.prog 5 #[v0, v1, v2] w (Tr w) := by
  obtain ⟨A0, c0, B0, d0, rfl, a1, a2⟩ := h0
  obtain ⟨A1, c1, rfl, e1, e2, _⟩ := h1
  obtain ⟨A2, n, c2, rfl, f1, f2, f3, f4⟩ := h2
  exact msgLetters_any l x b A0 B0 A1 A2 c0 d0 c1 n c2 w a1 e1 ⟨f1, f2, f3, f4⟩ a2 e2
end Go.Proofs.Ytmgmmbgjmnklkaa
