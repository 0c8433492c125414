/-
  MsgOthers: the walk of the law. No statement.
-/
import Derived.Test.YtmgmmbgjmnklkaaMsgLaw
import Derived.Test.YtmgmmbgjmnklkaaOpenMsg
import Derived.OrdersHeld
import Derived.Deep.CutRange
namespace Go.Proofs.Ytmgmmbgjmnklkaa
set_option maxRecDepth 100000
open Go.RowKit
open Pk
set_option linter.unusedVariables false

theorem lt_cases (m : Lt) : (∃ b, m.encode = (0, b) ∧ m.ok = true ∧ m.pack = some b) ∨ (∃ k, m.encode = (k, []) ∧ (k = 81 ∨ k = 13)) := by
  unfold Lt.encode
  by_cases h2 : m.ok = false
  · exact .inr ⟨81, by rw [if_pos h2], .inl rfl⟩
  · rw [if_neg h2]
    cases hp : m.pack with
    | none => exact .inr ⟨13, rfl, .inr rfl⟩
    | some b => exact .inl ⟨b, rfl, by simpa using h2, rfl⟩
theorem en_cases (m : En) : (∃ b, m.encode = (0, b) ∧ m.ok = true ∧ m.pack = b) ∨ m.encode = (81, []) := by
  unfold En.encode
  by_cases h2 : m.ok = false
  · exact .inr (by rw [if_pos h2])
  · rw [if_neg h2]
    exact .inl ⟨_, rfl, by simpa using h2, rfl⟩
theorem declt_pack {l : Lt} {b : List UInt8} (hok : l.ok = true) (h : l.pack = some b) : decLt b = some l := by
  unfold decLt okX
  rw [rdLt_pack hok h]
  simp [hok]
theorem decen_pack {l : En} {b : List UInt8} (hok : l.ok = true) (h : l.pack = b) : decEn b = some l := by
  subst h
  unfold decEn okX
  rw [rdEn_pack hok]
  simp [hok]
theorem lt_len {l : Lt} {b : List UInt8} (h : l.pack = some b) : b.length ≤ 4294967296 := by
  unfold Lt.pack at h
  split at h
  · cases h
  · have := joinX_len h
    simp only [List.length_cons, List.length_nil] at this
    omega
theorem en_len {l : En} (h : l.ok = true) : l.pack.length ≤ 4294967296 := by
  have := joinX_len (en_join h)
  simp only [List.length_cons, List.length_nil] at this
  omega
theorem sameB_no {w : World} {A A' : Option Addr} {n n' c c' : Nat} {l l' : List UInt8} (h : Sl w A n c l) (h' : Sl w A' n' c' l') (hne : l ≠ l') :
    Calls Try.prog 15 #[.slice A n c, .slice A' n' c'] w (Tells (.bool false) w) :=
  (sameBytes_any A A' n n' c c' w l l' h.rd h'.rd (Nat.le_trans h.1 h.2.1)).mono (by rintro e w1 ⟨rfl, k, rfl⟩; exact ⟨by rw [decide_eq_false hne], below_drewN (Below.refl _ _) k⟩)
theorem sameLt_no (x y : Lt) (A B A' B' : Option Addr) (c d c' d' : Nat) (F G : Nat → Prop) (w : World) (h : LtR F w x A c B d) (h' : LtR G w y A' c' B' d') (hne : x ≠ y) :
    Calls Try.prog 32 #[.agg #[.int .i64 x.f1, .int .i64 x.f2, .int .i64 x.r, .slice A x.body.length c, .slice B x.tags.length d], .agg #[.int .i64 y.f1, .int .i64 y.f2, .int .i64 y.r, .slice A' y.body.length c', .slice B' y.tags.length d']] w (Tells (.bool false) w) := by
  have := sameLetter_any x y A B A' B' c d c' d' F G w h h'
  rwa [decide_eq_false hne] at this
theorem sameEn_no (x y : En) (A B : Option Addr) (c d : Nat) (F G : Nat → Prop) (w : World) (h : BF F w A c x.dig) (h' : BF G w B d y.dig) (hne : x ≠ y) :
    Calls Try.prog 33 #[.agg #[.int .i64 x.c, .int .i64 x.s, .int .i64 x.t, .slice A x.dig.length c], .agg #[.int .i64 y.c, .int .i64 y.s, .int .i64 y.t, .slice B y.dig.length d]] w (Tells (.bool false) w) := by
  have := sameEntry_any x y A B c d F G w h h'
  rwa [decide_eq_false hne] at this
theorem sameLt_yes (x y : Lt) (A B A' B' : Option Addr) (c d c' d' : Nat) (F G : Nat → Prop) (w : World) (h : LtR F w x A c B d) (h' : LtR G w y A' c' B' d') (hne : x = y) :
    Calls Try.prog 32 #[.agg #[.int .i64 x.f1, .int .i64 x.f2, .int .i64 x.r, .slice A x.body.length c, .slice B x.tags.length d], .agg #[.int .i64 y.f1, .int .i64 y.f2, .int .i64 y.r, .slice A' y.body.length c', .slice B' y.tags.length d']] w (Tells (.bool true) w) := by
  have := sameLetter_any x y A B A' B' c d c' d' F G w h h'
  rwa [decide_eq_true hne] at this
theorem sameEn_yes (x y : En) (A B : Option Addr) (c d : Nat) (F G : Nat → Prop) (w : World) (h : BF F w A c x.dig) (h' : BF G w B d y.dig) (hne : x = y) :
    Calls Try.prog 33 #[.agg #[.int .i64 x.c, .int .i64 x.s, .int .i64 x.t, .slice A x.dig.length c], .agg #[.int .i64 y.c, .int .i64 y.s, .int .i64 y.t, .slice B y.dig.length d]] w (Tells (.bool true) w) := by
  have := sameEntry_any x y A B c d F G w h h'
  rwa [decide_eq_true hne] at this
set_option maxHeartbeats 25600000 in
theorem msgOthers_any (l k : Lt) (x y : En) (A0 B0 A1 B1 A2 A3 : Option Addr) (c0 d0 c1 d1 c2 c3 : Nat) (w : World) (h0 : LtR AllB w l A0 c0 B0 d0) (h1 : LtR AllB w k A1 c1 B1 d1) (h2 : BF AllB w A2 c2 x.dig) (h3 : BF AllB w A3 c3 y.dig)
    (g0 : l.big) (g1 : k.big) (g2 : x.dig.length ≤ 140737488355328) (g3 : y.dig.length ≤ 140737488355328) :
    Calls Try.prog 7 #[.agg #[.int .i64 l.f1, .int .i64 l.f2, .int .i64 l.r, .slice A0 l.body.length c0, .slice B0 l.tags.length d0], .agg #[.int .i64 k.f1, .int .i64 k.f2, .int .i64 k.r, .slice A1 k.body.length c1, .slice B1 k.tags.length d1], .agg #[.int .i64 x.c, .int .i64 x.s, .int .i64 x.t, .slice A2 x.dig.length c2], .agg #[.int .i64 y.c, .int .i64 y.s, .int .i64 y.t, .slice A3 y.dig.length c3]] w (Tr w) := by
  have s1 : (w.alloc (.cells #[.int .i64 l.f1, .int .i64 l.f2, .int .i64 l.r, .slice A0 l.body.length c0, .slice B0 l.tags.length d0] 46)).heap.size = w.heap.size + 1 := by simp
  have s2 : ((w.alloc (.cells #[.int .i64 l.f1, .int .i64 l.f2, .int .i64 l.r, .slice A0 l.body.length c0, .slice B0 l.tags.length d0] 46)).alloc (.cells #[.int .i64 k.f1, .int .i64 k.f2, .int .i64 k.r, .slice A1 k.body.length c1, .slice B1 k.tags.length d1] 46)).heap.size = w.heap.size + 1 + 1 := by simp
  have s3 : (((w.alloc (.cells #[.int .i64 l.f1, .int .i64 l.f2, .int .i64 l.r, .slice A0 l.body.length c0, .slice B0 l.tags.length d0] 46)).alloc (.cells #[.int .i64 k.f1, .int .i64 k.f2, .int .i64 k.r, .slice A1 k.body.length c1, .slice B1 k.tags.length d1] 46)).alloc (.cells #[.int .i64 x.c, .int .i64 x.s, .int .i64 x.t, .slice A2 x.dig.length c2] 24)).heap.size = w.heap.size + 1 + 1 + 1 := by simp
  have hB := ((((Below.refl w.heap.size w).alloc (Nat.le_refl _) (.cells #[.int .i64 l.f1, .int .i64 l.f2, .int .i64 l.r, .slice A0 l.body.length c0, .slice B0 l.tags.length d0] 46)).alloc (by rw [s1]; omega) (.cells #[.int .i64 k.f1, .int .i64 k.f2, .int .i64 k.r, .slice A1 k.body.length c1, .slice B1 k.tags.length d1] 46)).alloc (by rw [s2]; omega) (.cells #[.int .i64 x.c, .int .i64 x.s, .int .i64 x.t, .slice A2 x.dig.length c2] 24)).alloc (by rw [s3]; omega) (.cells #[.int .i64 y.c, .int .i64 y.s, .int .i64 y.t, .slice A3 y.dig.length c3] 24)
  have k0 := (((Bk.new w 46 [.int .i64 l.f1, .int .i64 l.f2, .int .i64 l.r, .slice A0 l.body.length c0, .slice B0 l.tags.length d0]).alloc (.cells #[.int .i64 k.f1, .int .i64 k.f2, .int .i64 k.r, .slice A1 k.body.length c1, .slice B1 k.tags.length d1] 46)).alloc (.cells #[.int .i64 x.c, .int .i64 x.s, .int .i64 x.t, .slice A2 x.dig.length c2] 24)).alloc (.cells #[.int .i64 y.c, .int .i64 y.s, .int .i64 y.t, .slice A3 y.dig.length c3] 24)
  have k1 := ((Bk.new (w.alloc (.cells #[.int .i64 l.f1, .int .i64 l.f2, .int .i64 l.r, .slice A0 l.body.length c0, .slice B0 l.tags.length d0] 46)) 46 [.int .i64 k.f1, .int .i64 k.f2, .int .i64 k.r, .slice A1 k.body.length c1, .slice B1 k.tags.length d1]).alloc (.cells #[.int .i64 x.c, .int .i64 x.s, .int .i64 x.t, .slice A2 x.dig.length c2] 24)).alloc (.cells #[.int .i64 y.c, .int .i64 y.s, .int .i64 y.t, .slice A3 y.dig.length c3] 24)
  have k2 := (Bk.new ((w.alloc (.cells #[.int .i64 l.f1, .int .i64 l.f2, .int .i64 l.r, .slice A0 l.body.length c0, .slice B0 l.tags.length d0] 46)).alloc (.cells #[.int .i64 k.f1, .int .i64 k.f2, .int .i64 k.r, .slice A1 k.body.length c1, .slice B1 k.tags.length d1] 46)) 24 [.int .i64 x.c, .int .i64 x.s, .int .i64 x.t, .slice A2 x.dig.length c2]).alloc (.cells #[.int .i64 y.c, .int .i64 y.s, .int .i64 y.t, .slice A3 y.dig.length c3] 24)
  have k3 := Bk.new (((w.alloc (.cells #[.int .i64 l.f1, .int .i64 l.f2, .int .i64 l.r, .slice A0 l.body.length c0, .slice B0 l.tags.length d0] 46)).alloc (.cells #[.int .i64 k.f1, .int .i64 k.f2, .int .i64 k.r, .slice A1 k.body.length c1, .slice B1 k.tags.length d1] 46)).alloc (.cells #[.int .i64 x.c, .int .i64 x.s, .int .i64 x.t, .slice A2 x.dig.length c2] 24)) 24 [.int .i64 y.c, .int .i64 y.s, .int .i64 y.t, .slice A3 y.dig.length c3]
  rw [s1] at k1
  rw [s2] at k2
  rw [s3] at k3
  have HB0 := Lib.hid (hB)
  have HK0_0 := Lib.hid (k0)
  have HK1_0 := Lib.hid (k1)
  have HK2_0 := Lib.hid (k2)
  have HK3_0 := Lib.hid (k3)
  have HM0_0 := Lib.hid (h0.below hB)
  have HM1_0 := Lib.hid (h1.below hB)
  have HM2_0 := Lib.hid (h2.below hB)
  have HM3_0 := Lib.hid (h3.below hB)
  have G0 := Lib.hid g0
  have G1 := Lib.hid g1
  have G2 := Lib.hid g2
  have G3 := Lib.hid g3
  clear h0 h1 h2 h3 g0 g1 g2 g3 hB k0 k1 k2 k3 s1 s2 s3
  go_enter Try.func7, Try.ntmps7
  go_wp2_with fail
  refine (alive_ok _).mono ?_
  rintro e w1 ⟨rfl, hb⟩
  have HB1 := Lib.hid (below_next HB0.out hb HB0.out.size)
  have HK0_1 := Lib.hid (HK0_0.out.kept hb)
  have HK1_1 := Lib.hid (HK1_0.out.kept hb)
  have HK2_1 := Lib.hid (HK2_0.out.kept hb)
  have HK3_1 := Lib.hid (HK3_0.out.kept hb)
  have HM0_1 := Lib.hid (HM0_0.out.below hb)
  have HM1_1 := Lib.hid (HM1_0.out.below hb)
  have HM2_1 := Lib.hid (HM2_0.out.below hb)
  have HM3_1 := Lib.hid (HM3_0.out.below hb)
  clear hb
  have k0 := HK0_1.out.at_ (i := 0) rfl
  have k1 := HK0_1.out.at_ (i := 1) rfl
  have k2 := HK0_1.out.at_ (i := 2) rfl
  have k3 := HK0_1.out.at_ (i := 3) rfl
  have k4 := HK0_1.out.at_ (i := 4) rfl
  go_wp2_with fail
  clear k0 k1 k2 k3 k4
  refine (weight_any l A0 c0 B0 d0 _ _ HM0_1.out).mono ?_
  rintro e w2 ⟨v1, rfl, hb⟩
  have HB2 := Lib.hid (below_next HB1.out hb HB1.out.size)
  have HK0_2 := Lib.hid (HK0_1.out.kept hb)
  have HK1_2 := Lib.hid (HK1_1.out.kept hb)
  have HK2_2 := Lib.hid (HK2_1.out.kept hb)
  have HK3_2 := Lib.hid (HK3_1.out.kept hb)
  have HM0_2 := Lib.hid (HM0_1.out.below hb)
  have HM1_2 := Lib.hid (HM1_1.out.below hb)
  have HM2_2 := Lib.hid (HM2_1.out.below hb)
  have HM3_2 := Lib.hid (HM3_1.out.below hb)
  clear hb
  by_cases hv1 : (50000 : Int) < v1
  · go_wp2_with fail
    go_ret
    exact ⟨rfl, HB2.out⟩
  have k0 := HK1_2.out.at_ (i := 0) rfl
  have k1 := HK1_2.out.at_ (i := 1) rfl
  have k2 := HK1_2.out.at_ (i := 2) rfl
  have k3 := HK1_2.out.at_ (i := 3) rfl
  have k4 := HK1_2.out.at_ (i := 4) rfl
  go_wp2_with fail
  clear k0 k1 k2 k3 k4
  refine (weight_any k A1 c1 B1 d1 _ _ HM1_2.out).mono ?_
  rintro e w3 ⟨v2, rfl, hb⟩
  have HB3 := Lib.hid (below_next HB2.out hb HB2.out.size)
  have HK0_3 := Lib.hid (HK0_2.out.kept hb)
  have HK1_3 := Lib.hid (HK1_2.out.kept hb)
  have HK2_3 := Lib.hid (HK2_2.out.kept hb)
  have HK3_3 := Lib.hid (HK3_2.out.kept hb)
  have HM0_3 := Lib.hid (HM0_2.out.below hb)
  have HM1_3 := Lib.hid (HM1_2.out.below hb)
  have HM2_3 := Lib.hid (HM2_2.out.below hb)
  have HM3_3 := Lib.hid (HM3_2.out.below hb)
  clear hb
  by_cases hv2 : (50000 : Int) < v2
  · go_wp2_with fail
    go_ret
    exact ⟨rfl, HB3.out⟩
  have q2 := G2.out
  have q3 := G3.out
  have kx3 := HK2_3.out.at_ (i := 3) rfl
  have ky3 := HK3_3.out.at_ (i := 3) rfl
  have k0 := HK0_3.out.at_ (i := 0) rfl
  have k1 := HK0_3.out.at_ (i := 1) rfl
  have k2 := HK0_3.out.at_ (i := 2) rfl
  have k3 := HK0_3.out.at_ (i := 3) rfl
  have k4 := HK0_3.out.at_ (i := 4) rfl
  by_cases hs : (5000 : Int) < (x.dig.length : Int) + (y.dig.length : Int)
  · go_wp2_with fail
    go_ret
    exact ⟨rfl, HB3.out⟩
  go_wp2_with fail
  clear kx3 ky3 k0 k1 k2 k3 k4
  clear hv1 hv2 hs q2 q3
  refine (copyLetterM_any l A0 c0 B0 d0 _ _ HM0_3.out G0.out).mono ?_
  rintro e w4 ⟨hb, E0, f0, E1, f1, rfl, hr⟩
  have HB4 := Lib.hid (below_next HB3.out hb HB3.out.size)
  have HK0_4 := Lib.hid (HK0_3.out.kept hb)
  have HK1_4 := Lib.hid (HK1_3.out.kept hb)
  have HK2_4 := Lib.hid (HK2_3.out.kept hb)
  have HK3_4 := Lib.hid (HK3_3.out.kept hb)
  have HM0_4 := Lib.hid (HM0_3.out.below hb)
  have HM1_4 := Lib.hid (HM1_3.out.below hb)
  have HM2_4 := Lib.hid (HM2_3.out.below hb)
  have HM3_4 := Lib.hid (HM3_3.out.below hb)
  have HR4 := Lib.hid (hr)
  clear hb hr
  go_wp2_with fail
  refine (packLetterX_any l E0 f0 E1 f1 _ ⟨HR4.out.1.all, HR4.out.2.all⟩).mono ?_
  rintro e w5 ⟨hb, A5, n5, c5, rfl, ho⟩
  have HB5 := Lib.hid (below_next HB4.out hb HB4.out.size)
  have HK0_5 := Lib.hid (HK0_4.out.kept hb)
  have HK1_5 := Lib.hid (HK1_4.out.kept hb)
  have HK2_5 := Lib.hid (HK2_4.out.kept hb)
  have HK3_5 := Lib.hid (HK3_4.out.kept hb)
  have HM0_5 := Lib.hid (HM0_4.out.below hb)
  have HM1_5 := Lib.hid (HM1_4.out.below hb)
  have HM2_5 := Lib.hid (HM2_4.out.below hb)
  have HM3_5 := Lib.hid (HM3_4.out.below hb)
  have HO5 := Lib.hid (Sl.own ho)
  clear hb ho
  have k0 := HK1_5.out.at_ (i := 0) rfl
  have k1 := HK1_5.out.at_ (i := 1) rfl
  have k2 := HK1_5.out.at_ (i := 2) rfl
  have k3 := HK1_5.out.at_ (i := 3) rfl
  have k4 := HK1_5.out.at_ (i := 4) rfl
  go_wp2_with fail
  clear k0 k1 k2 k3 k4
  refine (copyLetterM_any k A1 c1 B1 d1 _ _ HM1_5.out G1.out).mono ?_
  rintro e w6 ⟨hb, F0, j0, F1, j1, rfl, hr⟩
  have HB6 := Lib.hid (below_next HB5.out hb HB5.out.size)
  have HK0_6 := Lib.hid (HK0_5.out.kept hb)
  have HK1_6 := Lib.hid (HK1_5.out.kept hb)
  have HK2_6 := Lib.hid (HK2_5.out.kept hb)
  have HK3_6 := Lib.hid (HK3_5.out.kept hb)
  have HM0_6 := Lib.hid (HM0_5.out.below hb)
  have HM1_6 := Lib.hid (HM1_5.out.below hb)
  have HM2_6 := Lib.hid (HM2_5.out.below hb)
  have HM3_6 := Lib.hid (HM3_5.out.below hb)
  have HO6 := Lib.hid (HO5.out.below hb)
  have HR6 := Lib.hid (hr)
  clear hb hr
  go_wp2_with fail
  refine (packLetterX_any k F0 j0 F1 j1 _ ⟨HR6.out.1.all, HR6.out.2.all⟩).mono ?_
  rintro e w7 ⟨hb, A7, n7, c7, rfl, ho⟩
  have HB7 := Lib.hid (below_next HB6.out hb HB6.out.size)
  have HK0_7 := Lib.hid (HK0_6.out.kept hb)
  have HK1_7 := Lib.hid (HK1_6.out.kept hb)
  have HK2_7 := Lib.hid (HK2_6.out.kept hb)
  have HK3_7 := Lib.hid (HK3_6.out.kept hb)
  have HM0_7 := Lib.hid (HM0_6.out.below hb)
  have HM1_7 := Lib.hid (HM1_6.out.below hb)
  have HM2_7 := Lib.hid (HM2_6.out.below hb)
  have HM3_7 := Lib.hid (HM3_6.out.below hb)
  have HO7 := Lib.hid (HO6.out.below hb)
  have HQ7 := Lib.hid (Sl.own ho)
  clear hb ho
  rcases lt_cases l with ⟨a, he, hok, hp⟩ | ⟨ke, he, hke⟩
  · skip
    have HD := Lib.hid (declt_pack hok hp)
    have HLN := Lib.hid (lt_len hp)
    have HOK := Lib.hid hok
    have HPK := Lib.hid hp
    have hoa : Sl w7 A5 n5 c5 a := by have := HO7.out; rw [he] at this; exact this
    rw [he]
    clear he hok hp
    have HO7 := Lib.hid (hoa)
    clear hoa
    rcases lt_cases k with ⟨b, he, hok, hp⟩ | ⟨ke, he, hke⟩
    · skip
      have hob : Sl w7 A7 n7 c7 b := by have := HQ7.out; rw [he] at this; exact this
      rw [he]
      have HQ7 := Lib.hid (hob)
      by_cases hlk : l = k
      · skip
        have HNK := Lib.hid hlk
        obtain rfl : b = a := by have := HPK.out; rw [hlk, hp] at this; injection this
        clear he hok hp hob hlk
        go_wp2_with fail
        refine (readLetterX_any A5 n5 c5 _ _ HO7.out (by have h1 := HO7.out.len; have h2 := HLN.out; omega)).mono ?_
        rintro e w9 ⟨hb, ⟨m5, I0, i0, I1, i1, hd, rfl, hr⟩ | ⟨hd, rfl⟩⟩
        rotate_left
        · rw [HD.out] at hd; cases hd
        rw [HD.out] at hd
        injection hd with hd
        subst hd
        have HB8 := Lib.hid (below_next HB7.out hb HB7.out.size)
        have HK0_8 := Lib.hid (HK0_7.out.kept hb)
        have HK1_8 := Lib.hid (HK1_7.out.kept hb)
        have HK2_8 := Lib.hid (HK2_7.out.kept hb)
        have HK3_8 := Lib.hid (HK3_7.out.kept hb)
        have HM0_8 := Lib.hid (HM0_7.out.below hb)
        have HM1_8 := Lib.hid (HM1_7.out.below hb)
        have HM2_8 := Lib.hid (HM2_7.out.below hb)
        have HM3_8 := Lib.hid (HM3_7.out.below hb)
        have HO8 := Lib.hid (HO7.out.below hb)
        have HQ8 := Lib.hid (HQ7.out.below hb)
        have HR8 := Lib.hid (hr)
        clear hb hr
        have hal := (Below.refl w9.heap.size w9).alloc (Nat.le_refl _) (.cells #[.int .i64 l.f1, .int .i64 l.f2, .int .i64 l.r, .slice I0 l.body.length i0, .slice I1 l.tags.length i1] 46)
        have HB9 := Lib.hid (below_next HB8.out hal HB8.out.size)
        have HK0_9 := Lib.hid (HK0_8.out.kept hal)
        have HK1_9 := Lib.hid (HK1_8.out.kept hal)
        have HK2_9 := Lib.hid (HK2_8.out.kept hal)
        have HK3_9 := Lib.hid (HK3_8.out.kept hal)
        have HM0_9 := Lib.hid (HM0_8.out.below hal)
        have HM1_9 := Lib.hid (HM1_8.out.below hal)
        have HM2_9 := Lib.hid (HM2_8.out.below hal)
        have HM3_9 := Lib.hid (HM3_8.out.below hal)
        have HO9 := Lib.hid (HO8.out.below hal)
        have HQ9 := Lib.hid (HQ8.out.below hal)
        have HR9 := Lib.hid (HR8.out.below hal)
        clear hal
        have k0 := HK0_9.out.at_ (i := 0) rfl
        have k1 := HK0_9.out.at_ (i := 1) rfl
        have k2 := HK0_9.out.at_ (i := 2) rfl
        have k3 := HK0_9.out.at_ (i := 3) rfl
        have k4 := HK0_9.out.at_ (i := 4) rfl
        go_wp2_with fail
        clear k0 k1 k2 k3 k4
        refine (sameLetter_self' l I0 I1 A0 B0 i0 i1 c0 d0 _ _ _ HR9.out HM0_9.out).mono ?_
        rintro e w10 ⟨rfl, hb⟩
        have HB10 := Lib.hid (below_next HB9.out hb HB9.out.size)
        have HK0_10 := Lib.hid (HK0_9.out.kept hb)
        have HK1_10 := Lib.hid (HK1_9.out.kept hb)
        have HK2_10 := Lib.hid (HK2_9.out.kept hb)
        have HK3_10 := Lib.hid (HK3_9.out.kept hb)
        have HM0_10 := Lib.hid (HM0_9.out.below hb)
        have HM1_10 := Lib.hid (HM1_9.out.below hb)
        have HM2_10 := Lib.hid (HM2_9.out.below hb)
        have HM3_10 := Lib.hid (HM3_9.out.below hb)
        have HO10 := Lib.hid (HO9.out.below hb)
        have HQ10 := Lib.hid (HQ9.out.below hb)
        clear hb
        go_upto_region 11 with fail
        have HT := Lib.hid (show _ ∧ _ ∧ _ ∧ _ ∧ _ ∧ _ ∧ _ ∧ _ ∧ _ ∧ _ from ⟨HK0_10.out.at_ (i := 0) rfl, HK0_10.out.at_ (i := 1) rfl, HK0_10.out.at_ (i := 2) rfl, HK0_10.out.at_ (i := 3) rfl, HK0_10.out.at_ (i := 4) rfl, HK1_10.out.at_ (i := 0) rfl, HK1_10.out.at_ (i := 1) rfl, HK1_10.out.at_ (i := 2) rfl, HK1_10.out.at_ (i := 3) rfl, HK1_10.out.at_ (i := 4) rfl⟩)
        refine wp_region_held_drew (S := fun w' => w'.cell? ⟨w.heap.size, 0, none⟩ = some (.int .i64 l.f1) ∧ w'.cell? ⟨w.heap.size, 1, none⟩ = some (.int .i64 l.f2) ∧ w'.cell? ⟨w.heap.size, 2, none⟩ = some (.int .i64 l.r) ∧ w'.cell? ⟨w.heap.size, 3, none⟩ = some (.slice A0 l.body.length c0) ∧ w'.cell? ⟨w.heap.size, 4, none⟩ = some (.slice B0 l.tags.length d0) ∧ w'.cell? ⟨w.heap.size + 1, 0, none⟩ = some (.int .i64 k.f1) ∧ w'.cell? ⟨w.heap.size + 1, 1, none⟩ = some (.int .i64 k.f2) ∧ w'.cell? ⟨w.heap.size + 1, 2, none⟩ = some (.int .i64 k.r) ∧ w'.cell? ⟨w.heap.size + 1, 3, none⟩ = some (.slice A1 k.body.length c1) ∧ w'.cell? ⟨w.heap.size + 1, 4, none⟩ = some (.slice B1 k.tags.length d1)) (by kernel_rfl) (HT.out) (fun hHeld => ?_)
        refine wpAnyH_take (i := 0) (oi := ({ dst := some 66, op := Op.move (Operand.tmp 10), type := 32, pos := "law.go:110", after := _, guard := none } : Oper)) (v := ?_) rfl (by kernel_rfl) (by kernel_rfl) (by kernel_rfl) (fun _ _ _ h => h) (Or.inl ⟨by rfl, ?_⟩) (by assumption) ?_
        rotate_left
        · intro w hSw; (try dsimp only at hSw); go_simp; first | done | with_reducible rfl
        try simp only [Act.put, List.setIfInBounds_toArray, List.set_cons_zero, List.set_cons_succ]
        refine wpAnyH_take (i := 1) (oi := ({ dst := some 67, op := Op.binOp BinOp.eql 32 (Operand.tmp 66) (Operand.const (Value.int IntKind.i64 0)) 32, type := 4, pos := "law.go:110", after := _, guard := none } : Oper)) (v := ?_) rfl (by kernel_rfl) (by kernel_rfl) (by kernel_rfl) (fun _ _ _ h => h) (Or.inl ⟨by rfl, ?_⟩) (by assumption) ?_
        rotate_left
        · intro w hSw; (try dsimp only at hSw); go_simp; first | done | with_reducible rfl
        try simp only [Act.put, List.setIfInBounds_toArray, List.set_cons_zero, List.set_cons_succ]
        refine wpAnyH_take (i := 2) (oi := ({ dst := some 68, op := Op.move (Operand.tmp 67), type := 4, pos := "law.go:110", after := _, guard := none } : Oper)) (v := ?_) rfl (by kernel_rfl) (by kernel_rfl) (by kernel_rfl) (fun _ _ _ h => h) (Or.inl ⟨by rfl, ?_⟩) (by assumption) ?_
        rotate_left
        · intro w hSw; (try dsimp only at hSw); go_simp; first | done | with_reducible rfl
        try simp only [Act.put, List.setIfInBounds_toArray, List.set_cons_zero, List.set_cons_succ]
        refine wpAnyH_take (i := 3) (oi := ({ dst := some 69, op := Op.move (Operand.tmp 12), type := 32, pos := "law.go:110", after := _, guard := some (2, true) } : Oper)) (v := ?_) rfl (by kernel_rfl) (by kernel_rfl) (by kernel_rfl) (fun _ _ _ h => h) (Or.inl ⟨by rfl, ?_⟩) (by assumption) ?_
        rotate_left
        · intro w hSw; (try dsimp only at hSw); go_simp; first | done | with_reducible rfl
        try simp only [Act.put, List.setIfInBounds_toArray, List.set_cons_zero, List.set_cons_succ]
        refine wpAnyH_take (i := 4) (oi := ({ dst := some 70, op := Op.binOp BinOp.eql 32 (Operand.tmp 69) (Operand.const (Value.int IntKind.i64 0)) 32, type := 4, pos := "law.go:110", after := _, guard := some (2, true) } : Oper)) (v := ?_) rfl (by kernel_rfl) (by kernel_rfl) (by kernel_rfl) (fun _ _ _ h => h) (Or.inl ⟨by rfl, ?_⟩) (by assumption) ?_
        rotate_left
        · intro w hSw; (try dsimp only at hSw); go_simp; first | done | with_reducible rfl
        try simp only [Act.put, List.setIfInBounds_toArray, List.set_cons_zero, List.set_cons_succ]
        refine wpAnyH_take (i := 5) (oi := ({ dst := some 71, op := Op.pick (Operand.tmp 68) (Operand.tmp 70) (Operand.const (Value.bool false)), type := 4, pos := "law.go:110", after := _, guard := none } : Oper)) (v := ?_) rfl (by kernel_rfl) (by kernel_rfl) (by kernel_rfl) (fun _ _ _ h => h) (Or.inl ⟨by rfl, ?_⟩) (by assumption) ?_
        rotate_left
        · intro w hSw; (try dsimp only at hSw); go_simp; first | done | with_reducible rfl
        try simp only [Act.put, List.setIfInBounds_toArray, List.set_cons_zero, List.set_cons_succ]
        refine wpAnyH_take (i := 6) (oi := ({ dst := some 72, op := Op.move (Operand.tmp 71), type := 4, pos := "law.go:110", after := _, guard := none } : Oper)) (v := ?_) rfl (by kernel_rfl) (by kernel_rfl) (by kernel_rfl) (fun _ _ _ h => h) (Or.inl ⟨by rfl, ?_⟩) (by assumption) ?_
        rotate_left
        · intro w hSw; (try dsimp only at hSw); go_simp; first | done | with_reducible rfl
        try simp only [Act.put, List.setIfInBounds_toArray, List.set_cons_zero, List.set_cons_succ]
        refine wpAnyH_take (i := 7) (oi := ({ dst := some 73, op := Op.move (Operand.tmp 9), type := 22, pos := "law.go:110", after := _, guard := some (6, true) } : Oper)) (v := ?_) rfl (by kernel_rfl) (by kernel_rfl) (by kernel_rfl) (fun _ _ _ h => h) (Or.inl ⟨by rfl, ?_⟩) (by assumption) ?_
        rotate_left
        · intro w hSw; (try dsimp only at hSw); go_simp; first | done | with_reducible rfl
        try simp only [Act.put, List.setIfInBounds_toArray, List.set_cons_zero, List.set_cons_succ]
        refine wpAnyH_take (i := 8) (oi := ({ dst := some 74, op := Op.move (Operand.tmp 11), type := 22, pos := "law.go:110", after := _, guard := some (6, true) } : Oper)) (v := ?_) rfl (by kernel_rfl) (by kernel_rfl) (by kernel_rfl) (fun _ _ _ h => h) (Or.inl ⟨by rfl, ?_⟩) (by assumption) ?_
        rotate_left
        · intro w hSw; (try dsimp only at hSw); go_simp; first | done | with_reducible rfl
        try simp only [Act.put, List.setIfInBounds_toArray, List.set_cons_zero, List.set_cons_succ]
        refine wpAnyH_take (i := 10) (oi := ({ dst := some 76, op := Op.load 46 (Operand.tmp 4), type := 46, pos := "law.go:110", after := _, guard := some (6, true) } : Oper)) (v := ?_) rfl (by kernel_rfl) (by kernel_rfl) (by kernel_rfl) (fun _ _ _ h => h) (Or.inl ⟨by rfl, ?_⟩) (by assumption) ?_
        rotate_left
        · intro w hSw; (try dsimp only at hSw); go_simp; first | done | with_reducible rfl
        try simp only [Act.put, List.setIfInBounds_toArray, List.set_cons_zero, List.set_cons_succ]
        refine wpAnyH_take (i := 11) (oi := ({ dst := some 77, op := Op.load 46 (Operand.tmp 5), type := 46, pos := "law.go:110", after := _, guard := some (6, true) } : Oper)) (v := ?_) rfl (by kernel_rfl) (by kernel_rfl) (by kernel_rfl) (fun _ _ _ h => h) (Or.inl ⟨by rfl, ?_⟩) (by assumption) ?_
        rotate_left
        · intro w hSw; (try dsimp only at hSw); go_simp; first | done | with_reducible rfl
        try simp only [Act.put, List.setIfInBounds_toArray, List.set_cons_zero, List.set_cons_succ]
        refine wpAnyH_ready (rs := [9]) (by kernel_rfl) (by simp) ?_
        refine AllReadyH.cons (o := ({ dst := some 75, op := Op.call { callee := Callee.value (Operand.func 15), args := #[Operand.tmp 73, Operand.tmp 74], argTypes := #[22, 22] }, type := 4, pos := "law.go:110", after := _, guard := some (6, true) } : Oper)) rfl (fun K hK => ?_) AllReadyH.nil
        go_simp
        refine (sameB_two (Sl.drew HO10.out) (Sl.drew HQ10.out)).mono ?_
        rintro e w12 ⟨rfl, hb⟩
        replace hb : Below w10.heap.size w10 w12 := ⟨hb.os, hb.tape, hb.output, hb.size, hb.block⟩
        have HB11 := Lib.hid (below_next HB10.out hb HB10.out.size)
        have HK0_11 := Lib.hid (HK0_10.out.kept hb)
        have HK1_11 := Lib.hid (HK1_10.out.kept hb)
        have HK2_11 := Lib.hid (HK2_10.out.kept hb)
        have HK3_11 := Lib.hid (HK3_10.out.kept hb)
        have HM0_11 := Lib.hid (HM0_10.out.below hb)
        have HM1_11 := Lib.hid (HM1_10.out.below hb)
        have HM2_11 := Lib.hid (HM2_10.out.below hb)
        have HM3_11 := Lib.hid (HM3_10.out.below hb)
        clear hb HT
        have HT := Lib.hid (show _ ∧ _ ∧ _ ∧ _ ∧ _ ∧ _ ∧ _ ∧ _ ∧ _ ∧ _ from ⟨HK0_11.out.at_ (i := 0) rfl, HK0_11.out.at_ (i := 1) rfl, HK0_11.out.at_ (i := 2) rfl, HK0_11.out.at_ (i := 3) rfl, HK0_11.out.at_ (i := 4) rfl, HK1_11.out.at_ (i := 0) rfl, HK1_11.out.at_ (i := 1) rfl, HK1_11.out.at_ (i := 2) rfl, HK1_11.out.at_ (i := 3) rfl, HK1_11.out.at_ (i := 4) rfl⟩)
        go_wp2_with fail
        refine hK.out _ _ (HT.out) (fun hHeld => ?_)
        clear hK K
        try simp only [Act.put, List.setIfInBounds_toArray, List.set_cons_zero, List.set_cons_succ]
        refine wpAnyH_ready (rs := [12]) (by kernel_rfl) (by simp) ?_
        refine AllReadyH.cons (o := ({ dst := some 78, op := Op.call { callee := Callee.value (Operand.func 32), args := #[Operand.tmp 76, Operand.tmp 77], argTypes := #[46, 46] }, type := 4, pos := "law.go:110", after := _, guard := some (6, true) } : Oper)) rfl (fun K hK => ?_) AllReadyH.nil
        go_simp
        refine (sameLt_yes l k A0 B0 A1 B1 c0 d0 c1 d1 _ _ _ HM0_11.out HM1_11.out HNK.out).mono ?_
        rintro e w13 ⟨rfl, hb⟩
        have HB12 := Lib.hid (below_next HB11.out hb HB11.out.size)
        have HK0_12 := Lib.hid (HK0_11.out.kept hb)
        have HK1_12 := Lib.hid (HK1_11.out.kept hb)
        have HK2_12 := Lib.hid (HK2_11.out.kept hb)
        have HK3_12 := Lib.hid (HK3_11.out.kept hb)
        have HM0_12 := Lib.hid (HM0_11.out.below hb)
        have HM1_12 := Lib.hid (HM1_11.out.below hb)
        have HM2_12 := Lib.hid (HM2_11.out.below hb)
        have HM3_12 := Lib.hid (HM3_11.out.below hb)
        clear hb HT
        have HT := Lib.hid (show _ ∧ _ ∧ _ ∧ _ ∧ _ ∧ _ ∧ _ ∧ _ ∧ _ ∧ _ from ⟨HK0_12.out.at_ (i := 0) rfl, HK0_12.out.at_ (i := 1) rfl, HK0_12.out.at_ (i := 2) rfl, HK0_12.out.at_ (i := 3) rfl, HK0_12.out.at_ (i := 4) rfl, HK1_12.out.at_ (i := 0) rfl, HK1_12.out.at_ (i := 1) rfl, HK1_12.out.at_ (i := 2) rfl, HK1_12.out.at_ (i := 3) rfl, HK1_12.out.at_ (i := 4) rfl⟩)
        go_wp2_with fail
        refine hK.out _ _ (HT.out) (fun hHeld => ?_)
        clear hK K
        try simp only [Act.put, List.setIfInBounds_toArray, List.set_cons_zero, List.set_cons_succ]
        refine wpAnyH_take (i := 13) (oi := ({ dst := some 79, op := Op.binOp BinOp.neq 4 (Operand.tmp 75) (Operand.tmp 78) 4, type := 4, pos := "law.go:110", after := _, guard := some (6, true) } : Oper)) (v := ?_) rfl (by kernel_rfl) (by kernel_rfl) (by kernel_rfl) (fun _ _ _ h => h) (Or.inl ⟨by rfl, ?_⟩) (by assumption) ?_
        rotate_left
        · intro w hSw; (try dsimp only at hSw); go_simp; first | done | with_reducible rfl
        try simp only [Act.put, List.setIfInBounds_toArray, List.set_cons_zero, List.set_cons_succ]
        refine wpAnyH_take (i := 14) (oi := ({ dst := some 80, op := Op.pick (Operand.tmp 72) (Operand.tmp 79) (Operand.const (Value.bool false)), type := 4, pos := "law.go:110", after := _, guard := none } : Oper)) (v := ?_) rfl (by kernel_rfl) (by kernel_rfl) (by kernel_rfl) (fun _ _ _ h => h) (Or.inl ⟨by rfl, ?_⟩) (by assumption) ?_
        rotate_left
        · intro w hSw; (try dsimp only at hSw); go_simp; first | done | with_reducible rfl
        try simp only [Act.put, List.setIfInBounds_toArray, List.set_cons_zero, List.set_cons_succ]
        refine wpAnyH_done (by kernel_rfl) ?_ _
        clear HT HNK
        have k0 := HK2_12.out.at_ (i := 0) rfl
        have k1 := HK2_12.out.at_ (i := 1) rfl
        have k2 := HK2_12.out.at_ (i := 2) rfl
        have k3 := HK2_12.out.at_ (i := 3) rfl
        go_wp2_with fail
        clear k0 k1 k2 k3
        try clear HD HLN HOK HPK
        try clear hke
        refine (copyEntry_any x A2 c2 _ _ HM2_12.out G2.out).mono ?_
        rintro e w14 ⟨hb, E0, f0, rfl, hr⟩
        have HB13 := Lib.hid (below_next HB12.out hb HB12.out.size)
        have HK0_13 := Lib.hid (HK0_12.out.kept hb)
        have HK1_13 := Lib.hid (HK1_12.out.kept hb)
        have HK2_13 := Lib.hid (HK2_12.out.kept hb)
        have HK3_13 := Lib.hid (HK3_12.out.kept hb)
        have HM0_13 := Lib.hid (HM0_12.out.below hb)
        have HM1_13 := Lib.hid (HM1_12.out.below hb)
        have HM2_13 := Lib.hid (HM2_12.out.below hb)
        have HM3_13 := Lib.hid (HM3_12.out.below hb)
        have HR13 := Lib.hid (hr)
        clear hb hr
        go_wp2_with fail
        refine (packEntryX_any x E0 f0 _ HR13.out.all).mono ?_
        rintro e w15 ⟨hb, A15, n15, c15, rfl, ho⟩
        have HB14 := Lib.hid (below_next HB13.out hb HB13.out.size)
        have HK0_14 := Lib.hid (HK0_13.out.kept hb)
        have HK1_14 := Lib.hid (HK1_13.out.kept hb)
        have HK2_14 := Lib.hid (HK2_13.out.kept hb)
        have HK3_14 := Lib.hid (HK3_13.out.kept hb)
        have HM0_14 := Lib.hid (HM0_13.out.below hb)
        have HM1_14 := Lib.hid (HM1_13.out.below hb)
        have HM2_14 := Lib.hid (HM2_13.out.below hb)
        have HM3_14 := Lib.hid (HM3_13.out.below hb)
        have HP14 := Lib.hid (Sl.own ho)
        clear hb ho
        have k0 := HK3_14.out.at_ (i := 0) rfl
        have k1 := HK3_14.out.at_ (i := 1) rfl
        have k2 := HK3_14.out.at_ (i := 2) rfl
        have k3 := HK3_14.out.at_ (i := 3) rfl
        go_wp2_with fail
        clear k0 k1 k2 k3
        refine (copyEntry_any y A3 c3 _ _ HM3_14.out G3.out).mono ?_
        rintro e w16 ⟨hb, F0, j0, rfl, hr⟩
        have HB15 := Lib.hid (below_next HB14.out hb HB14.out.size)
        have HK0_15 := Lib.hid (HK0_14.out.kept hb)
        have HK1_15 := Lib.hid (HK1_14.out.kept hb)
        have HK2_15 := Lib.hid (HK2_14.out.kept hb)
        have HK3_15 := Lib.hid (HK3_14.out.kept hb)
        have HM0_15 := Lib.hid (HM0_14.out.below hb)
        have HM1_15 := Lib.hid (HM1_14.out.below hb)
        have HM2_15 := Lib.hid (HM2_14.out.below hb)
        have HM3_15 := Lib.hid (HM3_14.out.below hb)
        have HP15 := Lib.hid (HP14.out.below hb)
        have HR15 := Lib.hid (hr)
        clear hb hr
        go_wp2_with fail
        refine (packEntryX_any y F0 j0 _ HR15.out.all).mono ?_
        rintro e w17 ⟨hb, A17, n17, c17, rfl, ho⟩
        have HB16 := Lib.hid (below_next HB15.out hb HB15.out.size)
        have HK0_16 := Lib.hid (HK0_15.out.kept hb)
        have HK1_16 := Lib.hid (HK1_15.out.kept hb)
        have HK2_16 := Lib.hid (HK2_15.out.kept hb)
        have HK3_16 := Lib.hid (HK3_15.out.kept hb)
        have HM0_16 := Lib.hid (HM0_15.out.below hb)
        have HM1_16 := Lib.hid (HM1_15.out.below hb)
        have HM2_16 := Lib.hid (HM2_15.out.below hb)
        have HM3_16 := Lib.hid (HM3_15.out.below hb)
        have HP16 := Lib.hid (HP15.out.below hb)
        have HU16 := Lib.hid (Sl.own ho)
        clear hb ho
        rcases en_cases x with ⟨a, he, hok, hp⟩ | he
        · skip
          have HD := Lib.hid (decen_pack hok hp)
          have HLN := Lib.hid (show a.length ≤ 4294967296 by rw [← hp]; exact en_len hok)
          have HOK := Lib.hid hok
          have HPK := Lib.hid hp
          have hoa : Sl w17 A15 n15 c15 a := by have := HP16.out; rw [he] at this; exact this
          rw [he]
          clear he hok hp
          have HP16 := Lib.hid (hoa)
          clear hoa
          rcases en_cases y with ⟨b, he, hok, hp⟩ | he
          · skip
            have hob : Sl w17 A17 n17 c17 b := by have := HU16.out; rw [he] at this; exact this
            rw [he]
            have HU16 := Lib.hid (hob)
            by_cases hlk : x = y
            · skip
              have HNK := Lib.hid hlk
              obtain rfl : b = a := by have h1 := HPK.out; rw [hlk, hp] at h1; exact h1
              clear he hok hp hob hlk
              go_wp2_with fail
              refine (readEntryX_any A15 n15 c15 _ _ HP16.out (by have h1 := HP16.out.len; have h2 := HLN.out; omega)).mono ?_
              rintro e w9 ⟨hb, ⟨m5, I0, i0, hd, rfl, hr⟩ | ⟨hd, rfl⟩⟩
              rotate_left
              · rw [HD.out] at hd; cases hd
              rw [HD.out] at hd
              injection hd with hd
              subst hd
              have HB17 := Lib.hid (below_next HB16.out hb HB16.out.size)
              have HK0_17 := Lib.hid (HK0_16.out.kept hb)
              have HK1_17 := Lib.hid (HK1_16.out.kept hb)
              have HK2_17 := Lib.hid (HK2_16.out.kept hb)
              have HK3_17 := Lib.hid (HK3_16.out.kept hb)
              have HM0_17 := Lib.hid (HM0_16.out.below hb)
              have HM1_17 := Lib.hid (HM1_16.out.below hb)
              have HM2_17 := Lib.hid (HM2_16.out.below hb)
              have HM3_17 := Lib.hid (HM3_16.out.below hb)
              have HP17 := Lib.hid (HP16.out.below hb)
              have HU17 := Lib.hid (HU16.out.below hb)
              have HR17 := Lib.hid (hr)
              clear hb hr
              have hal := (Below.refl w9.heap.size w9).alloc (Nat.le_refl _) (.cells #[.int .i64 x.c, .int .i64 x.s, .int .i64 x.t, .slice I0 x.dig.length i0] 24)
              have HB18 := Lib.hid (below_next HB17.out hal HB17.out.size)
              have HK0_18 := Lib.hid (HK0_17.out.kept hal)
              have HK1_18 := Lib.hid (HK1_17.out.kept hal)
              have HK2_18 := Lib.hid (HK2_17.out.kept hal)
              have HK3_18 := Lib.hid (HK3_17.out.kept hal)
              have HM0_18 := Lib.hid (HM0_17.out.below hal)
              have HM1_18 := Lib.hid (HM1_17.out.below hal)
              have HM2_18 := Lib.hid (HM2_17.out.below hal)
              have HM3_18 := Lib.hid (HM3_17.out.below hal)
              have HP18 := Lib.hid (HP17.out.below hal)
              have HU18 := Lib.hid (HU17.out.below hal)
              have HR18 := Lib.hid (HR17.out.below hal)
              clear hal
              have k0 := HK2_18.out.at_ (i := 0) rfl
              have k1 := HK2_18.out.at_ (i := 1) rfl
              have k2 := HK2_18.out.at_ (i := 2) rfl
              have k3 := HK2_18.out.at_ (i := 3) rfl
              go_wp2_with fail
              clear k0 k1 k2 k3
              refine (sameEntry_self x I0 A2 i0 c2 _ _ _ HR18.out HM2_18.out).mono ?_
              rintro e w10 ⟨rfl, hb⟩
              have HB19 := Lib.hid (below_next HB18.out hb HB18.out.size)
              have HK0_19 := Lib.hid (HK0_18.out.kept hb)
              have HK1_19 := Lib.hid (HK1_18.out.kept hb)
              have HK2_19 := Lib.hid (HK2_18.out.kept hb)
              have HK3_19 := Lib.hid (HK3_18.out.kept hb)
              have HM0_19 := Lib.hid (HM0_18.out.below hb)
              have HM1_19 := Lib.hid (HM1_18.out.below hb)
              have HM2_19 := Lib.hid (HM2_18.out.below hb)
              have HM3_19 := Lib.hid (HM3_18.out.below hb)
              have HP19 := Lib.hid (HP18.out.below hb)
              have HU19 := Lib.hid (HU18.out.below hb)
              clear hb
              go_upto_region 19 with fail
              have HT := Lib.hid (show _ ∧ _ ∧ _ ∧ _ ∧ _ ∧ _ ∧ _ ∧ _ from ⟨HK2_19.out.at_ (i := 0) rfl, HK2_19.out.at_ (i := 1) rfl, HK2_19.out.at_ (i := 2) rfl, HK2_19.out.at_ (i := 3) rfl, HK3_19.out.at_ (i := 0) rfl, HK3_19.out.at_ (i := 1) rfl, HK3_19.out.at_ (i := 2) rfl, HK3_19.out.at_ (i := 3) rfl⟩)
              refine wp_region_held_drew (S := fun w' => w'.cell? ⟨w.heap.size + 1 + 1, 0, none⟩ = some (.int .i64 x.c) ∧ w'.cell? ⟨w.heap.size + 1 + 1, 1, none⟩ = some (.int .i64 x.s) ∧ w'.cell? ⟨w.heap.size + 1 + 1, 2, none⟩ = some (.int .i64 x.t) ∧ w'.cell? ⟨w.heap.size + 1 + 1, 3, none⟩ = some (.slice A2 x.dig.length c2) ∧ w'.cell? ⟨w.heap.size + 1 + 1 + 1, 0, none⟩ = some (.int .i64 y.c) ∧ w'.cell? ⟨w.heap.size + 1 + 1 + 1, 1, none⟩ = some (.int .i64 y.s) ∧ w'.cell? ⟨w.heap.size + 1 + 1 + 1, 2, none⟩ = some (.int .i64 y.t) ∧ w'.cell? ⟨w.heap.size + 1 + 1 + 1, 3, none⟩ = some (.slice A3 y.dig.length c3)) (by kernel_rfl) (HT.out) (fun hHeld => ?_)
              refine wpAnyH_take (i := 0) (oi := ({ dst := some 108, op := Op.move (Operand.tmp 10), type := 32, pos := "law.go:121", after := _, guard := none } : Oper)) (v := ?_) rfl (by kernel_rfl) (by kernel_rfl) (by kernel_rfl) (fun _ _ _ h => h) (Or.inl ⟨by rfl, ?_⟩) (by assumption) ?_
              rotate_left
              · intro w hSw; (try dsimp only at hSw); go_simp; first | done | with_reducible rfl
              try simp only [Act.put, List.setIfInBounds_toArray, List.set_cons_zero, List.set_cons_succ]
              refine wpAnyH_take (i := 1) (oi := ({ dst := some 109, op := Op.binOp BinOp.neq 32 (Operand.tmp 108) (Operand.const (Value.int IntKind.i64 0)) 32, type := 4, pos := "law.go:121", after := _, guard := none } : Oper)) (v := ?_) rfl (by kernel_rfl) (by kernel_rfl) (by kernel_rfl) (fun _ _ _ h => h) (Or.inl ⟨by rfl, ?_⟩) (by assumption) ?_
              rotate_left
              · intro w hSw; (try dsimp only at hSw); go_simp; first | done | with_reducible rfl
              try simp only [Act.put, List.setIfInBounds_toArray, List.set_cons_zero, List.set_cons_succ]
              refine wpAnyH_take (i := 2) (oi := ({ dst := some 110, op := Op.move (Operand.tmp 109), type := 4, pos := "law.go:121", after := _, guard := none } : Oper)) (v := ?_) rfl (by kernel_rfl) (by kernel_rfl) (by kernel_rfl) (fun _ _ _ h => h) (Or.inl ⟨by rfl, ?_⟩) (by assumption) ?_
              rotate_left
              · intro w hSw; (try dsimp only at hSw); go_simp; first | done | with_reducible rfl
              try simp only [Act.put, List.setIfInBounds_toArray, List.set_cons_zero, List.set_cons_succ]
              refine wpAnyH_take (i := 3) (oi := ({ dst := some 111, op := Op.move (Operand.tmp 12), type := 32, pos := "law.go:121", after := _, guard := some (2, false) } : Oper)) (v := ?_) rfl (by kernel_rfl) (by kernel_rfl) (by kernel_rfl) (fun _ _ _ h => h) (Or.inl ⟨by rfl, ?_⟩) (by assumption) ?_
              rotate_left
              · intro w hSw; (try dsimp only at hSw); go_simp; first | done | with_reducible rfl
              try simp only [Act.put, List.setIfInBounds_toArray, List.set_cons_zero, List.set_cons_succ]
              refine wpAnyH_take (i := 4) (oi := ({ dst := some 112, op := Op.binOp BinOp.neq 32 (Operand.tmp 111) (Operand.const (Value.int IntKind.i64 0)) 32, type := 4, pos := "law.go:121", after := _, guard := some (2, false) } : Oper)) (v := ?_) rfl (by kernel_rfl) (by kernel_rfl) (by kernel_rfl) (fun _ _ _ h => h) (Or.inl ⟨by rfl, ?_⟩) (by assumption) ?_
              rotate_left
              · intro w hSw; (try dsimp only at hSw); go_simp; first | done | with_reducible rfl
              try simp only [Act.put, List.setIfInBounds_toArray, List.set_cons_zero, List.set_cons_succ]
              refine wpAnyH_take (i := 5) (oi := ({ dst := some 113, op := Op.pick (Operand.tmp 110) (Operand.const (Value.bool true)) (Operand.tmp 112), type := 4, pos := "law.go:121", after := _, guard := none } : Oper)) (v := ?_) rfl (by kernel_rfl) (by kernel_rfl) (by kernel_rfl) (fun _ _ _ h => h) (Or.inl ⟨by rfl, ?_⟩) (by assumption) ?_
              rotate_left
              · intro w hSw; (try dsimp only at hSw); go_simp; first | done | with_reducible rfl
              try simp only [Act.put, List.setIfInBounds_toArray, List.set_cons_zero, List.set_cons_succ]
              refine wpAnyH_take (i := 6) (oi := ({ dst := some 114, op := Op.move (Operand.tmp 113), type := 4, pos := "law.go:121", after := _, guard := none } : Oper)) (v := ?_) rfl (by kernel_rfl) (by kernel_rfl) (by kernel_rfl) (fun _ _ _ h => h) (Or.inl ⟨by rfl, ?_⟩) (by assumption) ?_
              rotate_left
              · intro w hSw; (try dsimp only at hSw); go_simp; first | done | with_reducible rfl
              try simp only [Act.put, List.setIfInBounds_toArray, List.set_cons_zero, List.set_cons_succ]
              refine wpAnyH_take (i := 7) (oi := ({ dst := some 115, op := Op.move (Operand.tmp 15), type := 22, pos := "law.go:121", after := _, guard := some (6, false) } : Oper)) (v := ?_) rfl (by kernel_rfl) (by kernel_rfl) (by kernel_rfl) (fun _ _ _ h => h) (Or.inl ⟨by rfl, ?_⟩) (by assumption) ?_
              rotate_left
              · intro w hSw; (try dsimp only at hSw); go_simp; first | done | with_reducible rfl
              try simp only [Act.put, List.setIfInBounds_toArray, List.set_cons_zero, List.set_cons_succ]
              refine wpAnyH_take (i := 8) (oi := ({ dst := some 116, op := Op.move (Operand.tmp 16), type := 22, pos := "law.go:121", after := _, guard := some (6, false) } : Oper)) (v := ?_) rfl (by kernel_rfl) (by kernel_rfl) (by kernel_rfl) (fun _ _ _ h => h) (Or.inl ⟨by rfl, ?_⟩) (by assumption) ?_
              rotate_left
              · intro w hSw; (try dsimp only at hSw); go_simp; first | done | with_reducible rfl
              try simp only [Act.put, List.setIfInBounds_toArray, List.set_cons_zero, List.set_cons_succ]
              refine wpAnyH_take (i := 10) (oi := ({ dst := some 118, op := Op.load 24 (Operand.tmp 6), type := 24, pos := "law.go:121", after := _, guard := some (6, false) } : Oper)) (v := ?_) rfl (by kernel_rfl) (by kernel_rfl) (by kernel_rfl) (fun _ _ _ h => h) (Or.inl ⟨by rfl, ?_⟩) (by assumption) ?_
              rotate_left
              · intro w hSw; (try dsimp only at hSw); go_simp; first | done | with_reducible rfl
              try simp only [Act.put, List.setIfInBounds_toArray, List.set_cons_zero, List.set_cons_succ]
              refine wpAnyH_take (i := 11) (oi := ({ dst := some 119, op := Op.load 24 (Operand.tmp 7), type := 24, pos := "law.go:121", after := _, guard := some (6, false) } : Oper)) (v := ?_) rfl (by kernel_rfl) (by kernel_rfl) (by kernel_rfl) (fun _ _ _ h => h) (Or.inl ⟨by rfl, ?_⟩) (by assumption) ?_
              rotate_left
              · intro w hSw; (try dsimp only at hSw); go_simp; first | done | with_reducible rfl
              try simp only [Act.put, List.setIfInBounds_toArray, List.set_cons_zero, List.set_cons_succ]
              refine wpAnyH_ready (rs := [9]) (by kernel_rfl) (by simp) ?_
              refine AllReadyH.cons (o := ({ dst := some 117, op := Op.call { callee := Callee.value (Operand.func 15), args := #[Operand.tmp 115, Operand.tmp 116], argTypes := #[22, 22] }, type := 4, pos := "law.go:121", after := _, guard := some (6, false) } : Oper)) rfl (fun K hK => ?_) AllReadyH.nil
              go_simp
              refine (sameB_two (Sl.drew HP19.out) (Sl.drew HU19.out)).mono ?_
              rintro e w12 ⟨rfl, hb⟩
              replace hb : Below w10.heap.size w10 w12 := ⟨hb.os, hb.tape, hb.output, hb.size, hb.block⟩
              have HB20 := Lib.hid (below_next HB19.out hb HB19.out.size)
              have HK0_20 := Lib.hid (HK0_19.out.kept hb)
              have HK1_20 := Lib.hid (HK1_19.out.kept hb)
              have HK2_20 := Lib.hid (HK2_19.out.kept hb)
              have HK3_20 := Lib.hid (HK3_19.out.kept hb)
              have HM0_20 := Lib.hid (HM0_19.out.below hb)
              have HM1_20 := Lib.hid (HM1_19.out.below hb)
              have HM2_20 := Lib.hid (HM2_19.out.below hb)
              have HM3_20 := Lib.hid (HM3_19.out.below hb)
              clear hb HT
              have HT := Lib.hid (show _ ∧ _ ∧ _ ∧ _ ∧ _ ∧ _ ∧ _ ∧ _ from ⟨HK2_20.out.at_ (i := 0) rfl, HK2_20.out.at_ (i := 1) rfl, HK2_20.out.at_ (i := 2) rfl, HK2_20.out.at_ (i := 3) rfl, HK3_20.out.at_ (i := 0) rfl, HK3_20.out.at_ (i := 1) rfl, HK3_20.out.at_ (i := 2) rfl, HK3_20.out.at_ (i := 3) rfl⟩)
              go_wp2_with fail
              refine hK.out _ _ (HT.out) (fun hHeld => ?_)
              clear hK K
              try simp only [Act.put, List.setIfInBounds_toArray, List.set_cons_zero, List.set_cons_succ]
              refine wpAnyH_ready (rs := [12]) (by kernel_rfl) (by simp) ?_
              refine AllReadyH.cons (o := ({ dst := some 120, op := Op.call { callee := Callee.value (Operand.func 33), args := #[Operand.tmp 118, Operand.tmp 119], argTypes := #[24, 24] }, type := 4, pos := "law.go:121", after := _, guard := some (6, false) } : Oper)) rfl (fun K hK => ?_) AllReadyH.nil
              go_simp
              refine (sameEn_yes x y A2 A3 c2 c3 _ _ _ HM2_20.out HM3_20.out HNK.out).mono ?_
              rintro e w13 ⟨rfl, hb⟩
              have HB21 := Lib.hid (below_next HB20.out hb HB20.out.size)
              have HK0_21 := Lib.hid (HK0_20.out.kept hb)
              have HK1_21 := Lib.hid (HK1_20.out.kept hb)
              have HK2_21 := Lib.hid (HK2_20.out.kept hb)
              have HK3_21 := Lib.hid (HK3_20.out.kept hb)
              have HM0_21 := Lib.hid (HM0_20.out.below hb)
              have HM1_21 := Lib.hid (HM1_20.out.below hb)
              have HM2_21 := Lib.hid (HM2_20.out.below hb)
              have HM3_21 := Lib.hid (HM3_20.out.below hb)
              clear hb HT
              have HT := Lib.hid (show _ ∧ _ ∧ _ ∧ _ ∧ _ ∧ _ ∧ _ ∧ _ from ⟨HK2_21.out.at_ (i := 0) rfl, HK2_21.out.at_ (i := 1) rfl, HK2_21.out.at_ (i := 2) rfl, HK2_21.out.at_ (i := 3) rfl, HK3_21.out.at_ (i := 0) rfl, HK3_21.out.at_ (i := 1) rfl, HK3_21.out.at_ (i := 2) rfl, HK3_21.out.at_ (i := 3) rfl⟩)
              go_wp2_with fail
              refine hK.out _ _ (HT.out) (fun hHeld => ?_)
              clear hK K
              try simp only [Act.put, List.setIfInBounds_toArray, List.set_cons_zero, List.set_cons_succ]
              refine wpAnyH_take (i := 13) (oi := ({ dst := some 121, op := Op.binOp BinOp.eql 4 (Operand.tmp 117) (Operand.tmp 120) 4, type := 4, pos := "law.go:121", after := _, guard := some (6, false) } : Oper)) (v := ?_) rfl (by kernel_rfl) (by kernel_rfl) (by kernel_rfl) (fun _ _ _ h => h) (Or.inl ⟨by rfl, ?_⟩) (by assumption) ?_
              rotate_left
              · intro w hSw; (try dsimp only at hSw); go_simp; first | done | with_reducible rfl
              try simp only [Act.put, List.setIfInBounds_toArray, List.set_cons_zero, List.set_cons_succ]
              refine wpAnyH_take (i := 14) (oi := ({ dst := some 122, op := Op.pick (Operand.tmp 114) (Operand.const (Value.bool true)) (Operand.tmp 121), type := 4, pos := "law.go:121", after := _, guard := none } : Oper)) (v := ?_) rfl (by kernel_rfl) (by kernel_rfl) (by kernel_rfl) (fun _ _ _ h => h) (Or.inl ⟨by rfl, ?_⟩) (by assumption) ?_
              rotate_left
              · intro w hSw; (try dsimp only at hSw); go_simp; first | done | with_reducible rfl
              try simp only [Act.put, List.setIfInBounds_toArray, List.set_cons_zero, List.set_cons_succ]
              refine wpAnyH_take (i := 15) (oi := ({ dst := some 8, op := Op.assign (Operand.tmp 122), type := 4, pos := "law.go:121", after := _, guard := none } : Oper)) (v := ?_) rfl (by kernel_rfl) (by kernel_rfl) (by kernel_rfl) (fun _ _ _ h => h) (Or.inl ⟨by rfl, ?_⟩) (by assumption) ?_
              rotate_left
              · intro w hSw; (try dsimp only at hSw); go_simp; first | done | with_reducible rfl
              try simp only [Act.put, List.setIfInBounds_toArray, List.set_cons_zero, List.set_cons_succ]
              refine wpAnyH_done (by kernel_rfl) ?_ _
              clear HT HNK
              go_wp2_with fail
              go_ret
              exact ⟨rfl, HB21.out⟩
            · skip
              have HNK := Lib.hid hlk
              have HNE := Lib.hid (show a ≠ b by rintro rfl; exact hlk (en_inj HOK.out hok (HPK.out.trans hp.symm)))
              clear he hok hp hob hlk
              go_wp2_with fail
              refine (readEntryX_any A15 n15 c15 _ _ HP16.out (by have h1 := HP16.out.len; have h2 := HLN.out; omega)).mono ?_
              rintro e w9 ⟨hb, ⟨m5, I0, i0, hd, rfl, hr⟩ | ⟨hd, rfl⟩⟩
              rotate_left
              · rw [HD.out] at hd; cases hd
              rw [HD.out] at hd
              injection hd with hd
              subst hd
              have HB17 := Lib.hid (below_next HB16.out hb HB16.out.size)
              have HK0_17 := Lib.hid (HK0_16.out.kept hb)
              have HK1_17 := Lib.hid (HK1_16.out.kept hb)
              have HK2_17 := Lib.hid (HK2_16.out.kept hb)
              have HK3_17 := Lib.hid (HK3_16.out.kept hb)
              have HM0_17 := Lib.hid (HM0_16.out.below hb)
              have HM1_17 := Lib.hid (HM1_16.out.below hb)
              have HM2_17 := Lib.hid (HM2_16.out.below hb)
              have HM3_17 := Lib.hid (HM3_16.out.below hb)
              have HP17 := Lib.hid (HP16.out.below hb)
              have HU17 := Lib.hid (HU16.out.below hb)
              have HR17 := Lib.hid (hr)
              clear hb hr
              have hal := (Below.refl w9.heap.size w9).alloc (Nat.le_refl _) (.cells #[.int .i64 x.c, .int .i64 x.s, .int .i64 x.t, .slice I0 x.dig.length i0] 24)
              have HB18 := Lib.hid (below_next HB17.out hal HB17.out.size)
              have HK0_18 := Lib.hid (HK0_17.out.kept hal)
              have HK1_18 := Lib.hid (HK1_17.out.kept hal)
              have HK2_18 := Lib.hid (HK2_17.out.kept hal)
              have HK3_18 := Lib.hid (HK3_17.out.kept hal)
              have HM0_18 := Lib.hid (HM0_17.out.below hal)
              have HM1_18 := Lib.hid (HM1_17.out.below hal)
              have HM2_18 := Lib.hid (HM2_17.out.below hal)
              have HM3_18 := Lib.hid (HM3_17.out.below hal)
              have HP18 := Lib.hid (HP17.out.below hal)
              have HU18 := Lib.hid (HU17.out.below hal)
              have HR18 := Lib.hid (HR17.out.below hal)
              clear hal
              have k0 := HK2_18.out.at_ (i := 0) rfl
              have k1 := HK2_18.out.at_ (i := 1) rfl
              have k2 := HK2_18.out.at_ (i := 2) rfl
              have k3 := HK2_18.out.at_ (i := 3) rfl
              go_wp2_with fail
              clear k0 k1 k2 k3
              refine (sameEntry_self x I0 A2 i0 c2 _ _ _ HR18.out HM2_18.out).mono ?_
              rintro e w10 ⟨rfl, hb⟩
              have HB19 := Lib.hid (below_next HB18.out hb HB18.out.size)
              have HK0_19 := Lib.hid (HK0_18.out.kept hb)
              have HK1_19 := Lib.hid (HK1_18.out.kept hb)
              have HK2_19 := Lib.hid (HK2_18.out.kept hb)
              have HK3_19 := Lib.hid (HK3_18.out.kept hb)
              have HM0_19 := Lib.hid (HM0_18.out.below hb)
              have HM1_19 := Lib.hid (HM1_18.out.below hb)
              have HM2_19 := Lib.hid (HM2_18.out.below hb)
              have HM3_19 := Lib.hid (HM3_18.out.below hb)
              have HP19 := Lib.hid (HP18.out.below hb)
              have HU19 := Lib.hid (HU18.out.below hb)
              clear hb
              go_upto_region 19 with fail
              have HT := Lib.hid (show _ ∧ _ ∧ _ ∧ _ ∧ _ ∧ _ ∧ _ ∧ _ from ⟨HK2_19.out.at_ (i := 0) rfl, HK2_19.out.at_ (i := 1) rfl, HK2_19.out.at_ (i := 2) rfl, HK2_19.out.at_ (i := 3) rfl, HK3_19.out.at_ (i := 0) rfl, HK3_19.out.at_ (i := 1) rfl, HK3_19.out.at_ (i := 2) rfl, HK3_19.out.at_ (i := 3) rfl⟩)
              refine wp_region_held_drew (S := fun w' => w'.cell? ⟨w.heap.size + 1 + 1, 0, none⟩ = some (.int .i64 x.c) ∧ w'.cell? ⟨w.heap.size + 1 + 1, 1, none⟩ = some (.int .i64 x.s) ∧ w'.cell? ⟨w.heap.size + 1 + 1, 2, none⟩ = some (.int .i64 x.t) ∧ w'.cell? ⟨w.heap.size + 1 + 1, 3, none⟩ = some (.slice A2 x.dig.length c2) ∧ w'.cell? ⟨w.heap.size + 1 + 1 + 1, 0, none⟩ = some (.int .i64 y.c) ∧ w'.cell? ⟨w.heap.size + 1 + 1 + 1, 1, none⟩ = some (.int .i64 y.s) ∧ w'.cell? ⟨w.heap.size + 1 + 1 + 1, 2, none⟩ = some (.int .i64 y.t) ∧ w'.cell? ⟨w.heap.size + 1 + 1 + 1, 3, none⟩ = some (.slice A3 y.dig.length c3)) (by kernel_rfl) (HT.out) (fun hHeld => ?_)
              refine wpAnyH_take (i := 0) (oi := ({ dst := some 108, op := Op.move (Operand.tmp 10), type := 32, pos := "law.go:121", after := _, guard := none } : Oper)) (v := ?_) rfl (by kernel_rfl) (by kernel_rfl) (by kernel_rfl) (fun _ _ _ h => h) (Or.inl ⟨by rfl, ?_⟩) (by assumption) ?_
              rotate_left
              · intro w hSw; (try dsimp only at hSw); go_simp; first | done | with_reducible rfl
              try simp only [Act.put, List.setIfInBounds_toArray, List.set_cons_zero, List.set_cons_succ]
              refine wpAnyH_take (i := 1) (oi := ({ dst := some 109, op := Op.binOp BinOp.neq 32 (Operand.tmp 108) (Operand.const (Value.int IntKind.i64 0)) 32, type := 4, pos := "law.go:121", after := _, guard := none } : Oper)) (v := ?_) rfl (by kernel_rfl) (by kernel_rfl) (by kernel_rfl) (fun _ _ _ h => h) (Or.inl ⟨by rfl, ?_⟩) (by assumption) ?_
              rotate_left
              · intro w hSw; (try dsimp only at hSw); go_simp; first | done | with_reducible rfl
              try simp only [Act.put, List.setIfInBounds_toArray, List.set_cons_zero, List.set_cons_succ]
              refine wpAnyH_take (i := 2) (oi := ({ dst := some 110, op := Op.move (Operand.tmp 109), type := 4, pos := "law.go:121", after := _, guard := none } : Oper)) (v := ?_) rfl (by kernel_rfl) (by kernel_rfl) (by kernel_rfl) (fun _ _ _ h => h) (Or.inl ⟨by rfl, ?_⟩) (by assumption) ?_
              rotate_left
              · intro w hSw; (try dsimp only at hSw); go_simp; first | done | with_reducible rfl
              try simp only [Act.put, List.setIfInBounds_toArray, List.set_cons_zero, List.set_cons_succ]
              refine wpAnyH_take (i := 3) (oi := ({ dst := some 111, op := Op.move (Operand.tmp 12), type := 32, pos := "law.go:121", after := _, guard := some (2, false) } : Oper)) (v := ?_) rfl (by kernel_rfl) (by kernel_rfl) (by kernel_rfl) (fun _ _ _ h => h) (Or.inl ⟨by rfl, ?_⟩) (by assumption) ?_
              rotate_left
              · intro w hSw; (try dsimp only at hSw); go_simp; first | done | with_reducible rfl
              try simp only [Act.put, List.setIfInBounds_toArray, List.set_cons_zero, List.set_cons_succ]
              refine wpAnyH_take (i := 4) (oi := ({ dst := some 112, op := Op.binOp BinOp.neq 32 (Operand.tmp 111) (Operand.const (Value.int IntKind.i64 0)) 32, type := 4, pos := "law.go:121", after := _, guard := some (2, false) } : Oper)) (v := ?_) rfl (by kernel_rfl) (by kernel_rfl) (by kernel_rfl) (fun _ _ _ h => h) (Or.inl ⟨by rfl, ?_⟩) (by assumption) ?_
              rotate_left
              · intro w hSw; (try dsimp only at hSw); go_simp; first | done | with_reducible rfl
              try simp only [Act.put, List.setIfInBounds_toArray, List.set_cons_zero, List.set_cons_succ]
              refine wpAnyH_take (i := 5) (oi := ({ dst := some 113, op := Op.pick (Operand.tmp 110) (Operand.const (Value.bool true)) (Operand.tmp 112), type := 4, pos := "law.go:121", after := _, guard := none } : Oper)) (v := ?_) rfl (by kernel_rfl) (by kernel_rfl) (by kernel_rfl) (fun _ _ _ h => h) (Or.inl ⟨by rfl, ?_⟩) (by assumption) ?_
              rotate_left
              · intro w hSw; (try dsimp only at hSw); go_simp; first | done | with_reducible rfl
              try simp only [Act.put, List.setIfInBounds_toArray, List.set_cons_zero, List.set_cons_succ]
              refine wpAnyH_take (i := 6) (oi := ({ dst := some 114, op := Op.move (Operand.tmp 113), type := 4, pos := "law.go:121", after := _, guard := none } : Oper)) (v := ?_) rfl (by kernel_rfl) (by kernel_rfl) (by kernel_rfl) (fun _ _ _ h => h) (Or.inl ⟨by rfl, ?_⟩) (by assumption) ?_
              rotate_left
              · intro w hSw; (try dsimp only at hSw); go_simp; first | done | with_reducible rfl
              try simp only [Act.put, List.setIfInBounds_toArray, List.set_cons_zero, List.set_cons_succ]
              refine wpAnyH_take (i := 7) (oi := ({ dst := some 115, op := Op.move (Operand.tmp 15), type := 22, pos := "law.go:121", after := _, guard := some (6, false) } : Oper)) (v := ?_) rfl (by kernel_rfl) (by kernel_rfl) (by kernel_rfl) (fun _ _ _ h => h) (Or.inl ⟨by rfl, ?_⟩) (by assumption) ?_
              rotate_left
              · intro w hSw; (try dsimp only at hSw); go_simp; first | done | with_reducible rfl
              try simp only [Act.put, List.setIfInBounds_toArray, List.set_cons_zero, List.set_cons_succ]
              refine wpAnyH_take (i := 8) (oi := ({ dst := some 116, op := Op.move (Operand.tmp 16), type := 22, pos := "law.go:121", after := _, guard := some (6, false) } : Oper)) (v := ?_) rfl (by kernel_rfl) (by kernel_rfl) (by kernel_rfl) (fun _ _ _ h => h) (Or.inl ⟨by rfl, ?_⟩) (by assumption) ?_
              rotate_left
              · intro w hSw; (try dsimp only at hSw); go_simp; first | done | with_reducible rfl
              try simp only [Act.put, List.setIfInBounds_toArray, List.set_cons_zero, List.set_cons_succ]
              refine wpAnyH_take (i := 10) (oi := ({ dst := some 118, op := Op.load 24 (Operand.tmp 6), type := 24, pos := "law.go:121", after := _, guard := some (6, false) } : Oper)) (v := ?_) rfl (by kernel_rfl) (by kernel_rfl) (by kernel_rfl) (fun _ _ _ h => h) (Or.inl ⟨by rfl, ?_⟩) (by assumption) ?_
              rotate_left
              · intro w hSw; (try dsimp only at hSw); go_simp; first | done | with_reducible rfl
              try simp only [Act.put, List.setIfInBounds_toArray, List.set_cons_zero, List.set_cons_succ]
              refine wpAnyH_take (i := 11) (oi := ({ dst := some 119, op := Op.load 24 (Operand.tmp 7), type := 24, pos := "law.go:121", after := _, guard := some (6, false) } : Oper)) (v := ?_) rfl (by kernel_rfl) (by kernel_rfl) (by kernel_rfl) (fun _ _ _ h => h) (Or.inl ⟨by rfl, ?_⟩) (by assumption) ?_
              rotate_left
              · intro w hSw; (try dsimp only at hSw); go_simp; first | done | with_reducible rfl
              try simp only [Act.put, List.setIfInBounds_toArray, List.set_cons_zero, List.set_cons_succ]
              refine wpAnyH_ready (rs := [9]) (by kernel_rfl) (by simp) ?_
              refine AllReadyH.cons (o := ({ dst := some 117, op := Op.call { callee := Callee.value (Operand.func 15), args := #[Operand.tmp 115, Operand.tmp 116], argTypes := #[22, 22] }, type := 4, pos := "law.go:121", after := _, guard := some (6, false) } : Oper)) rfl (fun K hK => ?_) AllReadyH.nil
              go_simp
              refine (sameB_no (Sl.drew HP19.out) (Sl.drew HU19.out) HNE.out).mono ?_
              rintro e w12 ⟨rfl, hb⟩
              replace hb : Below w10.heap.size w10 w12 := ⟨hb.os, hb.tape, hb.output, hb.size, hb.block⟩
              have HB20 := Lib.hid (below_next HB19.out hb HB19.out.size)
              have HK0_20 := Lib.hid (HK0_19.out.kept hb)
              have HK1_20 := Lib.hid (HK1_19.out.kept hb)
              have HK2_20 := Lib.hid (HK2_19.out.kept hb)
              have HK3_20 := Lib.hid (HK3_19.out.kept hb)
              have HM0_20 := Lib.hid (HM0_19.out.below hb)
              have HM1_20 := Lib.hid (HM1_19.out.below hb)
              have HM2_20 := Lib.hid (HM2_19.out.below hb)
              have HM3_20 := Lib.hid (HM3_19.out.below hb)
              clear hb HT
              have HT := Lib.hid (show _ ∧ _ ∧ _ ∧ _ ∧ _ ∧ _ ∧ _ ∧ _ from ⟨HK2_20.out.at_ (i := 0) rfl, HK2_20.out.at_ (i := 1) rfl, HK2_20.out.at_ (i := 2) rfl, HK2_20.out.at_ (i := 3) rfl, HK3_20.out.at_ (i := 0) rfl, HK3_20.out.at_ (i := 1) rfl, HK3_20.out.at_ (i := 2) rfl, HK3_20.out.at_ (i := 3) rfl⟩)
              go_wp2_with fail
              refine hK.out _ _ (HT.out) (fun hHeld => ?_)
              clear hK K
              try simp only [Act.put, List.setIfInBounds_toArray, List.set_cons_zero, List.set_cons_succ]
              refine wpAnyH_ready (rs := [12]) (by kernel_rfl) (by simp) ?_
              refine AllReadyH.cons (o := ({ dst := some 120, op := Op.call { callee := Callee.value (Operand.func 33), args := #[Operand.tmp 118, Operand.tmp 119], argTypes := #[24, 24] }, type := 4, pos := "law.go:121", after := _, guard := some (6, false) } : Oper)) rfl (fun K hK => ?_) AllReadyH.nil
              go_simp
              refine (sameEn_no x y A2 A3 c2 c3 _ _ _ HM2_20.out HM3_20.out HNK.out).mono ?_
              rintro e w13 ⟨rfl, hb⟩
              have HB21 := Lib.hid (below_next HB20.out hb HB20.out.size)
              have HK0_21 := Lib.hid (HK0_20.out.kept hb)
              have HK1_21 := Lib.hid (HK1_20.out.kept hb)
              have HK2_21 := Lib.hid (HK2_20.out.kept hb)
              have HK3_21 := Lib.hid (HK3_20.out.kept hb)
              have HM0_21 := Lib.hid (HM0_20.out.below hb)
              have HM1_21 := Lib.hid (HM1_20.out.below hb)
              have HM2_21 := Lib.hid (HM2_20.out.below hb)
              have HM3_21 := Lib.hid (HM3_20.out.below hb)
              clear hb HT
              have HT := Lib.hid (show _ ∧ _ ∧ _ ∧ _ ∧ _ ∧ _ ∧ _ ∧ _ from ⟨HK2_21.out.at_ (i := 0) rfl, HK2_21.out.at_ (i := 1) rfl, HK2_21.out.at_ (i := 2) rfl, HK2_21.out.at_ (i := 3) rfl, HK3_21.out.at_ (i := 0) rfl, HK3_21.out.at_ (i := 1) rfl, HK3_21.out.at_ (i := 2) rfl, HK3_21.out.at_ (i := 3) rfl⟩)
              go_wp2_with fail
              refine hK.out _ _ (HT.out) (fun hHeld => ?_)
              clear hK K
              try simp only [Act.put, List.setIfInBounds_toArray, List.set_cons_zero, List.set_cons_succ]
              refine wpAnyH_take (i := 13) (oi := ({ dst := some 121, op := Op.binOp BinOp.eql 4 (Operand.tmp 117) (Operand.tmp 120) 4, type := 4, pos := "law.go:121", after := _, guard := some (6, false) } : Oper)) (v := ?_) rfl (by kernel_rfl) (by kernel_rfl) (by kernel_rfl) (fun _ _ _ h => h) (Or.inl ⟨by rfl, ?_⟩) (by assumption) ?_
              rotate_left
              · intro w hSw; (try dsimp only at hSw); go_simp; first | done | with_reducible rfl
              try simp only [Act.put, List.setIfInBounds_toArray, List.set_cons_zero, List.set_cons_succ]
              refine wpAnyH_take (i := 14) (oi := ({ dst := some 122, op := Op.pick (Operand.tmp 114) (Operand.const (Value.bool true)) (Operand.tmp 121), type := 4, pos := "law.go:121", after := _, guard := none } : Oper)) (v := ?_) rfl (by kernel_rfl) (by kernel_rfl) (by kernel_rfl) (fun _ _ _ h => h) (Or.inl ⟨by rfl, ?_⟩) (by assumption) ?_
              rotate_left
              · intro w hSw; (try dsimp only at hSw); go_simp; first | done | with_reducible rfl
              try simp only [Act.put, List.setIfInBounds_toArray, List.set_cons_zero, List.set_cons_succ]
              refine wpAnyH_take (i := 15) (oi := ({ dst := some 8, op := Op.assign (Operand.tmp 122), type := 4, pos := "law.go:121", after := _, guard := none } : Oper)) (v := ?_) rfl (by kernel_rfl) (by kernel_rfl) (by kernel_rfl) (fun _ _ _ h => h) (Or.inl ⟨by rfl, ?_⟩) (by assumption) ?_
              rotate_left
              · intro w hSw; (try dsimp only at hSw); go_simp; first | done | with_reducible rfl
              try simp only [Act.put, List.setIfInBounds_toArray, List.set_cons_zero, List.set_cons_succ]
              refine wpAnyH_done (by kernel_rfl) ?_ _
              clear HT HNK HNE
              go_wp2_with fail
              go_ret
              exact ⟨rfl, HB21.out⟩
          · skip
            rw [he]
            clear he
            go_wp2_with fail
            refine (readEntryX_any A15 n15 c15 _ _ HP16.out (by have h1 := HP16.out.len; have h2 := HLN.out; omega)).mono ?_
            rintro e w9 ⟨hb, ⟨m5, I0, i0, hd, rfl, hr⟩ | ⟨hd, rfl⟩⟩
            rotate_left
            · rw [HD.out] at hd; cases hd
            rw [HD.out] at hd
            injection hd with hd
            subst hd
            have HB17 := Lib.hid (below_next HB16.out hb HB16.out.size)
            have HK0_17 := Lib.hid (HK0_16.out.kept hb)
            have HK1_17 := Lib.hid (HK1_16.out.kept hb)
            have HK2_17 := Lib.hid (HK2_16.out.kept hb)
            have HK3_17 := Lib.hid (HK3_16.out.kept hb)
            have HM0_17 := Lib.hid (HM0_16.out.below hb)
            have HM1_17 := Lib.hid (HM1_16.out.below hb)
            have HM2_17 := Lib.hid (HM2_16.out.below hb)
            have HM3_17 := Lib.hid (HM3_16.out.below hb)
            have HP17 := Lib.hid (HP16.out.below hb)
            have HR17 := Lib.hid (hr)
            clear hb hr
            have hal := (Below.refl w9.heap.size w9).alloc (Nat.le_refl _) (.cells #[.int .i64 x.c, .int .i64 x.s, .int .i64 x.t, .slice I0 x.dig.length i0] 24)
            have HB18 := Lib.hid (below_next HB17.out hal HB17.out.size)
            have HK0_18 := Lib.hid (HK0_17.out.kept hal)
            have HK1_18 := Lib.hid (HK1_17.out.kept hal)
            have HK2_18 := Lib.hid (HK2_17.out.kept hal)
            have HK3_18 := Lib.hid (HK3_17.out.kept hal)
            have HM0_18 := Lib.hid (HM0_17.out.below hal)
            have HM1_18 := Lib.hid (HM1_17.out.below hal)
            have HM2_18 := Lib.hid (HM2_17.out.below hal)
            have HM3_18 := Lib.hid (HM3_17.out.below hal)
            have HP18 := Lib.hid (HP17.out.below hal)
            have HR18 := Lib.hid (HR17.out.below hal)
            clear hal
            have k0 := HK2_18.out.at_ (i := 0) rfl
            have k1 := HK2_18.out.at_ (i := 1) rfl
            have k2 := HK2_18.out.at_ (i := 2) rfl
            have k3 := HK2_18.out.at_ (i := 3) rfl
            go_wp2_with fail
            clear k0 k1 k2 k3
            refine (sameEntry_self x I0 A2 i0 c2 _ _ _ HR18.out HM2_18.out).mono ?_
            rintro e w10 ⟨rfl, hb⟩
            have HB19 := Lib.hid (below_next HB18.out hb HB18.out.size)
            have HK0_19 := Lib.hid (HK0_18.out.kept hb)
            have HK1_19 := Lib.hid (HK1_18.out.kept hb)
            have HK2_19 := Lib.hid (HK2_18.out.kept hb)
            have HK3_19 := Lib.hid (HK3_18.out.kept hb)
            have HM0_19 := Lib.hid (HM0_18.out.below hb)
            have HM1_19 := Lib.hid (HM1_18.out.below hb)
            have HM2_19 := Lib.hid (HM2_18.out.below hb)
            have HM3_19 := Lib.hid (HM3_18.out.below hb)
            have HP19 := Lib.hid (HP18.out.below hb)
            clear hb
            go_upto_region 19 with fail
            have HT := Lib.hid (show _ ∧ _ ∧ _ ∧ _ ∧ _ ∧ _ ∧ _ ∧ _ from ⟨HK2_19.out.at_ (i := 0) rfl, HK2_19.out.at_ (i := 1) rfl, HK2_19.out.at_ (i := 2) rfl, HK2_19.out.at_ (i := 3) rfl, HK3_19.out.at_ (i := 0) rfl, HK3_19.out.at_ (i := 1) rfl, HK3_19.out.at_ (i := 2) rfl, HK3_19.out.at_ (i := 3) rfl⟩)
            refine wp_region_held_drew (S := fun w' => w'.cell? ⟨w.heap.size + 1 + 1, 0, none⟩ = some (.int .i64 x.c) ∧ w'.cell? ⟨w.heap.size + 1 + 1, 1, none⟩ = some (.int .i64 x.s) ∧ w'.cell? ⟨w.heap.size + 1 + 1, 2, none⟩ = some (.int .i64 x.t) ∧ w'.cell? ⟨w.heap.size + 1 + 1, 3, none⟩ = some (.slice A2 x.dig.length c2) ∧ w'.cell? ⟨w.heap.size + 1 + 1 + 1, 0, none⟩ = some (.int .i64 y.c) ∧ w'.cell? ⟨w.heap.size + 1 + 1 + 1, 1, none⟩ = some (.int .i64 y.s) ∧ w'.cell? ⟨w.heap.size + 1 + 1 + 1, 2, none⟩ = some (.int .i64 y.t) ∧ w'.cell? ⟨w.heap.size + 1 + 1 + 1, 3, none⟩ = some (.slice A3 y.dig.length c3)) (by kernel_rfl) (HT.out) (fun hHeld => ?_)
            refine wpAnyH_take (i := 0) (oi := ({ dst := some 108, op := Op.move (Operand.tmp 10), type := 32, pos := "law.go:121", after := _, guard := none } : Oper)) (v := ?_) rfl (by kernel_rfl) (by kernel_rfl) (by kernel_rfl) (fun _ _ _ h => h) (Or.inl ⟨by rfl, ?_⟩) (by assumption) ?_
            rotate_left
            · intro w hSw; (try dsimp only at hSw); go_simp; first | done | with_reducible rfl
            try simp only [Act.put, List.setIfInBounds_toArray, List.set_cons_zero, List.set_cons_succ]
            refine wpAnyH_take (i := 1) (oi := ({ dst := some 109, op := Op.binOp BinOp.neq 32 (Operand.tmp 108) (Operand.const (Value.int IntKind.i64 0)) 32, type := 4, pos := "law.go:121", after := _, guard := none } : Oper)) (v := ?_) rfl (by kernel_rfl) (by kernel_rfl) (by kernel_rfl) (fun _ _ _ h => h) (Or.inl ⟨by rfl, ?_⟩) (by assumption) ?_
            rotate_left
            · intro w hSw; (try dsimp only at hSw); go_simp; first | done | with_reducible rfl
            try simp only [Act.put, List.setIfInBounds_toArray, List.set_cons_zero, List.set_cons_succ]
            refine wpAnyH_take (i := 2) (oi := ({ dst := some 110, op := Op.move (Operand.tmp 109), type := 4, pos := "law.go:121", after := _, guard := none } : Oper)) (v := ?_) rfl (by kernel_rfl) (by kernel_rfl) (by kernel_rfl) (fun _ _ _ h => h) (Or.inl ⟨by rfl, ?_⟩) (by assumption) ?_
            rotate_left
            · intro w hSw; (try dsimp only at hSw); go_simp; first | done | with_reducible rfl
            try simp only [Act.put, List.setIfInBounds_toArray, List.set_cons_zero, List.set_cons_succ]
            refine wpAnyH_take (i := 3) (oi := ({ dst := some 111, op := Op.move (Operand.tmp 12), type := 32, pos := "law.go:121", after := _, guard := some (2, false) } : Oper)) (v := ?_) rfl (by kernel_rfl) (by kernel_rfl) (by kernel_rfl) (fun _ _ _ h => h) (Or.inl ⟨by rfl, ?_⟩) (by assumption) ?_
            rotate_left
            · intro w hSw; (try dsimp only at hSw); go_simp; first | done | with_reducible rfl
            try simp only [Act.put, List.setIfInBounds_toArray, List.set_cons_zero, List.set_cons_succ]
            refine wpAnyH_take (i := 4) (oi := ({ dst := some 112, op := Op.binOp BinOp.neq 32 (Operand.tmp 111) (Operand.const (Value.int IntKind.i64 0)) 32, type := 4, pos := "law.go:121", after := _, guard := some (2, false) } : Oper)) (v := ?_) rfl (by kernel_rfl) (by kernel_rfl) (by kernel_rfl) (fun _ _ _ h => h) (Or.inl ⟨by rfl, ?_⟩) (by assumption) ?_
            rotate_left
            · intro w hSw; (try dsimp only at hSw); go_simp; first | done | with_reducible rfl
            try simp only [Act.put, List.setIfInBounds_toArray, List.set_cons_zero, List.set_cons_succ]
            refine wpAnyH_take (i := 5) (oi := ({ dst := some 113, op := Op.pick (Operand.tmp 110) (Operand.const (Value.bool true)) (Operand.tmp 112), type := 4, pos := "law.go:121", after := _, guard := none } : Oper)) (v := ?_) rfl (by kernel_rfl) (by kernel_rfl) (by kernel_rfl) (fun _ _ _ h => h) (Or.inl ⟨by rfl, ?_⟩) (by assumption) ?_
            rotate_left
            · intro w hSw; (try dsimp only at hSw); go_simp; first | done | with_reducible rfl
            try simp only [Act.put, List.setIfInBounds_toArray, List.set_cons_zero, List.set_cons_succ]
            refine wpAnyH_take (i := 6) (oi := ({ dst := some 114, op := Op.move (Operand.tmp 113), type := 4, pos := "law.go:121", after := _, guard := none } : Oper)) (v := ?_) rfl (by kernel_rfl) (by kernel_rfl) (by kernel_rfl) (fun _ _ _ h => h) (Or.inl ⟨by rfl, ?_⟩) (by assumption) ?_
            rotate_left
            · intro w hSw; (try dsimp only at hSw); go_simp; first | done | with_reducible rfl
            try simp only [Act.put, List.setIfInBounds_toArray, List.set_cons_zero, List.set_cons_succ]
            refine wpAnyH_take (i := 7) (oi := ({ dst := some 115, op := Op.move (Operand.tmp 15), type := 22, pos := "law.go:121", after := _, guard := some (6, false) } : Oper)) (v := undef) rfl (by kernel_rfl) (by kernel_rfl) (by kernel_rfl) (fun _ _ _ h => h) (Or.inr ⟨by rfl, rfl⟩) (by assumption) ?_
            try simp only [Act.put, List.setIfInBounds_toArray, List.set_cons_zero, List.set_cons_succ]
            refine wpAnyH_take (i := 8) (oi := ({ dst := some 116, op := Op.move (Operand.tmp 16), type := 22, pos := "law.go:121", after := _, guard := some (6, false) } : Oper)) (v := undef) rfl (by kernel_rfl) (by kernel_rfl) (by kernel_rfl) (fun _ _ _ h => h) (Or.inr ⟨by rfl, rfl⟩) (by assumption) ?_
            try simp only [Act.put, List.setIfInBounds_toArray, List.set_cons_zero, List.set_cons_succ]
            refine wpAnyH_take (i := 9) (oi := ({ dst := some 117, op := Op.call { callee := Callee.value (Operand.func 15), args := #[Operand.tmp 115, Operand.tmp 116], argTypes := #[22, 22] }, type := 4, pos := "law.go:121", after := _, guard := some (6, false) } : Oper)) (v := undef) rfl (by kernel_rfl) (by kernel_rfl) (by kernel_rfl) (fun _ _ _ h => h) (Or.inr ⟨by rfl, rfl⟩) (by assumption) ?_
            try simp only [Act.put, List.setIfInBounds_toArray, List.set_cons_zero, List.set_cons_succ]
            refine wpAnyH_take (i := 10) (oi := ({ dst := some 118, op := Op.load 24 (Operand.tmp 6), type := 24, pos := "law.go:121", after := _, guard := some (6, false) } : Oper)) (v := undef) rfl (by kernel_rfl) (by kernel_rfl) (by kernel_rfl) (fun _ _ _ h => h) (Or.inr ⟨by rfl, rfl⟩) (by assumption) ?_
            try simp only [Act.put, List.setIfInBounds_toArray, List.set_cons_zero, List.set_cons_succ]
            refine wpAnyH_take (i := 11) (oi := ({ dst := some 119, op := Op.load 24 (Operand.tmp 7), type := 24, pos := "law.go:121", after := _, guard := some (6, false) } : Oper)) (v := undef) rfl (by kernel_rfl) (by kernel_rfl) (by kernel_rfl) (fun _ _ _ h => h) (Or.inr ⟨by rfl, rfl⟩) (by assumption) ?_
            try simp only [Act.put, List.setIfInBounds_toArray, List.set_cons_zero, List.set_cons_succ]
            refine wpAnyH_take (i := 12) (oi := ({ dst := some 120, op := Op.call { callee := Callee.value (Operand.func 33), args := #[Operand.tmp 118, Operand.tmp 119], argTypes := #[24, 24] }, type := 4, pos := "law.go:121", after := _, guard := some (6, false) } : Oper)) (v := undef) rfl (by kernel_rfl) (by kernel_rfl) (by kernel_rfl) (fun _ _ _ h => h) (Or.inr ⟨by rfl, rfl⟩) (by assumption) ?_
            try simp only [Act.put, List.setIfInBounds_toArray, List.set_cons_zero, List.set_cons_succ]
            refine wpAnyH_take (i := 13) (oi := ({ dst := some 121, op := Op.binOp BinOp.eql 4 (Operand.tmp 117) (Operand.tmp 120) 4, type := 4, pos := "law.go:121", after := _, guard := some (6, false) } : Oper)) (v := undef) rfl (by kernel_rfl) (by kernel_rfl) (by kernel_rfl) (fun _ _ _ h => h) (Or.inr ⟨by rfl, rfl⟩) (by assumption) ?_
            try simp only [Act.put, List.setIfInBounds_toArray, List.set_cons_zero, List.set_cons_succ]
            refine wpAnyH_take (i := 14) (oi := ({ dst := some 122, op := Op.pick (Operand.tmp 114) (Operand.const (Value.bool true)) (Operand.tmp 121), type := 4, pos := "law.go:121", after := _, guard := none } : Oper)) (v := ?_) rfl (by kernel_rfl) (by kernel_rfl) (by kernel_rfl) (fun _ _ _ h => h) (Or.inl ⟨by rfl, ?_⟩) (by assumption) ?_
            rotate_left
            · intro w hSw; (try dsimp only at hSw); go_simp; first | done | with_reducible rfl
            try simp only [Act.put, List.setIfInBounds_toArray, List.set_cons_zero, List.set_cons_succ]
            refine wpAnyH_take (i := 15) (oi := ({ dst := some 8, op := Op.assign (Operand.tmp 122), type := 4, pos := "law.go:121", after := _, guard := none } : Oper)) (v := ?_) rfl (by kernel_rfl) (by kernel_rfl) (by kernel_rfl) (fun _ _ _ h => h) (Or.inl ⟨by rfl, ?_⟩) (by assumption) ?_
            rotate_left
            · intro w hSw; (try dsimp only at hSw); go_simp; first | done | with_reducible rfl
            try simp only [Act.put, List.setIfInBounds_toArray, List.set_cons_zero, List.set_cons_succ]
            refine wpAnyH_done (by kernel_rfl) ?_ _
            have hb := below_drew (Below.refl w10.heap.size w10)
            have HB20 := Lib.hid (below_next HB19.out hb HB19.out.size)
            have HK0_20 := Lib.hid (HK0_19.out.kept hb)
            have HK1_20 := Lib.hid (HK1_19.out.kept hb)
            have HK2_20 := Lib.hid (HK2_19.out.kept hb)
            have HK3_20 := Lib.hid (HK3_19.out.kept hb)
            have HM0_20 := Lib.hid (HM0_19.out.below hb)
            have HM1_20 := Lib.hid (HM1_19.out.below hb)
            have HM2_20 := Lib.hid (HM2_19.out.below hb)
            have HM3_20 := Lib.hid (HM3_19.out.below hb)
            have HP20 := Lib.hid (HP19.out.below hb)
            clear hb
            clear HT
            go_wp2_with fail
            go_ret
            exact ⟨rfl, HB20.out⟩
        · skip
          rw [he]
          clear he
          go_upto_region 19 with fail
          have HT := Lib.hid (show _ ∧ _ ∧ _ ∧ _ ∧ _ ∧ _ ∧ _ ∧ _ from ⟨HK2_16.out.at_ (i := 0) rfl, HK2_16.out.at_ (i := 1) rfl, HK2_16.out.at_ (i := 2) rfl, HK2_16.out.at_ (i := 3) rfl, HK3_16.out.at_ (i := 0) rfl, HK3_16.out.at_ (i := 1) rfl, HK3_16.out.at_ (i := 2) rfl, HK3_16.out.at_ (i := 3) rfl⟩)
          refine wp_region_held_drew (S := fun w' => w'.cell? ⟨w.heap.size + 1 + 1, 0, none⟩ = some (.int .i64 x.c) ∧ w'.cell? ⟨w.heap.size + 1 + 1, 1, none⟩ = some (.int .i64 x.s) ∧ w'.cell? ⟨w.heap.size + 1 + 1, 2, none⟩ = some (.int .i64 x.t) ∧ w'.cell? ⟨w.heap.size + 1 + 1, 3, none⟩ = some (.slice A2 x.dig.length c2) ∧ w'.cell? ⟨w.heap.size + 1 + 1 + 1, 0, none⟩ = some (.int .i64 y.c) ∧ w'.cell? ⟨w.heap.size + 1 + 1 + 1, 1, none⟩ = some (.int .i64 y.s) ∧ w'.cell? ⟨w.heap.size + 1 + 1 + 1, 2, none⟩ = some (.int .i64 y.t) ∧ w'.cell? ⟨w.heap.size + 1 + 1 + 1, 3, none⟩ = some (.slice A3 y.dig.length c3)) (by kernel_rfl) (HT.out) (fun hHeld => ?_)
          refine wpAnyH_take (i := 0) (oi := ({ dst := some 108, op := Op.move (Operand.tmp 10), type := 32, pos := "law.go:121", after := _, guard := none } : Oper)) (v := ?_) rfl (by kernel_rfl) (by kernel_rfl) (by kernel_rfl) (fun _ _ _ h => h) (Or.inl ⟨by rfl, ?_⟩) (by assumption) ?_
          rotate_left
          · intro w hSw; (try dsimp only at hSw); go_simp; first | done | with_reducible rfl
          try simp only [Act.put, List.setIfInBounds_toArray, List.set_cons_zero, List.set_cons_succ]
          refine wpAnyH_take (i := 1) (oi := ({ dst := some 109, op := Op.binOp BinOp.neq 32 (Operand.tmp 108) (Operand.const (Value.int IntKind.i64 0)) 32, type := 4, pos := "law.go:121", after := _, guard := none } : Oper)) (v := ?_) rfl (by kernel_rfl) (by kernel_rfl) (by kernel_rfl) (fun _ _ _ h => h) (Or.inl ⟨by rfl, ?_⟩) (by assumption) ?_
          rotate_left
          · intro w hSw; (try dsimp only at hSw); go_simp; first | done | with_reducible rfl
          try simp only [Act.put, List.setIfInBounds_toArray, List.set_cons_zero, List.set_cons_succ]
          refine wpAnyH_take (i := 2) (oi := ({ dst := some 110, op := Op.move (Operand.tmp 109), type := 4, pos := "law.go:121", after := _, guard := none } : Oper)) (v := ?_) rfl (by kernel_rfl) (by kernel_rfl) (by kernel_rfl) (fun _ _ _ h => h) (Or.inl ⟨by rfl, ?_⟩) (by assumption) ?_
          rotate_left
          · intro w hSw; (try dsimp only at hSw); go_simp; first | done | with_reducible rfl
          try simp only [Act.put, List.setIfInBounds_toArray, List.set_cons_zero, List.set_cons_succ]
          refine wpAnyH_take (i := 3) (oi := ({ dst := some 111, op := Op.move (Operand.tmp 12), type := 32, pos := "law.go:121", after := _, guard := some (2, false) } : Oper)) (v := undef) rfl (by kernel_rfl) (by kernel_rfl) (by kernel_rfl) (fun _ _ _ h => h) (Or.inr ⟨by rfl, rfl⟩) (by assumption) ?_
          try simp only [Act.put, List.setIfInBounds_toArray, List.set_cons_zero, List.set_cons_succ]
          refine wpAnyH_take (i := 4) (oi := ({ dst := some 112, op := Op.binOp BinOp.neq 32 (Operand.tmp 111) (Operand.const (Value.int IntKind.i64 0)) 32, type := 4, pos := "law.go:121", after := _, guard := some (2, false) } : Oper)) (v := undef) rfl (by kernel_rfl) (by kernel_rfl) (by kernel_rfl) (fun _ _ _ h => h) (Or.inr ⟨by rfl, rfl⟩) (by assumption) ?_
          try simp only [Act.put, List.setIfInBounds_toArray, List.set_cons_zero, List.set_cons_succ]
          refine wpAnyH_take (i := 5) (oi := ({ dst := some 113, op := Op.pick (Operand.tmp 110) (Operand.const (Value.bool true)) (Operand.tmp 112), type := 4, pos := "law.go:121", after := _, guard := none } : Oper)) (v := ?_) rfl (by kernel_rfl) (by kernel_rfl) (by kernel_rfl) (fun _ _ _ h => h) (Or.inl ⟨by rfl, ?_⟩) (by assumption) ?_
          rotate_left
          · intro w hSw; (try dsimp only at hSw); go_simp; first | done | with_reducible rfl
          try simp only [Act.put, List.setIfInBounds_toArray, List.set_cons_zero, List.set_cons_succ]
          refine wpAnyH_take (i := 6) (oi := ({ dst := some 114, op := Op.move (Operand.tmp 113), type := 4, pos := "law.go:121", after := _, guard := none } : Oper)) (v := ?_) rfl (by kernel_rfl) (by kernel_rfl) (by kernel_rfl) (fun _ _ _ h => h) (Or.inl ⟨by rfl, ?_⟩) (by assumption) ?_
          rotate_left
          · intro w hSw; (try dsimp only at hSw); go_simp; first | done | with_reducible rfl
          try simp only [Act.put, List.setIfInBounds_toArray, List.set_cons_zero, List.set_cons_succ]
          refine wpAnyH_take (i := 7) (oi := ({ dst := some 115, op := Op.move (Operand.tmp 15), type := 22, pos := "law.go:121", after := _, guard := some (6, false) } : Oper)) (v := undef) rfl (by kernel_rfl) (by kernel_rfl) (by kernel_rfl) (fun _ _ _ h => h) (Or.inr ⟨by rfl, rfl⟩) (by assumption) ?_
          try simp only [Act.put, List.setIfInBounds_toArray, List.set_cons_zero, List.set_cons_succ]
          refine wpAnyH_take (i := 8) (oi := ({ dst := some 116, op := Op.move (Operand.tmp 16), type := 22, pos := "law.go:121", after := _, guard := some (6, false) } : Oper)) (v := undef) rfl (by kernel_rfl) (by kernel_rfl) (by kernel_rfl) (fun _ _ _ h => h) (Or.inr ⟨by rfl, rfl⟩) (by assumption) ?_
          try simp only [Act.put, List.setIfInBounds_toArray, List.set_cons_zero, List.set_cons_succ]
          refine wpAnyH_take (i := 9) (oi := ({ dst := some 117, op := Op.call { callee := Callee.value (Operand.func 15), args := #[Operand.tmp 115, Operand.tmp 116], argTypes := #[22, 22] }, type := 4, pos := "law.go:121", after := _, guard := some (6, false) } : Oper)) (v := undef) rfl (by kernel_rfl) (by kernel_rfl) (by kernel_rfl) (fun _ _ _ h => h) (Or.inr ⟨by rfl, rfl⟩) (by assumption) ?_
          try simp only [Act.put, List.setIfInBounds_toArray, List.set_cons_zero, List.set_cons_succ]
          refine wpAnyH_take (i := 10) (oi := ({ dst := some 118, op := Op.load 24 (Operand.tmp 6), type := 24, pos := "law.go:121", after := _, guard := some (6, false) } : Oper)) (v := undef) rfl (by kernel_rfl) (by kernel_rfl) (by kernel_rfl) (fun _ _ _ h => h) (Or.inr ⟨by rfl, rfl⟩) (by assumption) ?_
          try simp only [Act.put, List.setIfInBounds_toArray, List.set_cons_zero, List.set_cons_succ]
          refine wpAnyH_take (i := 11) (oi := ({ dst := some 119, op := Op.load 24 (Operand.tmp 7), type := 24, pos := "law.go:121", after := _, guard := some (6, false) } : Oper)) (v := undef) rfl (by kernel_rfl) (by kernel_rfl) (by kernel_rfl) (fun _ _ _ h => h) (Or.inr ⟨by rfl, rfl⟩) (by assumption) ?_
          try simp only [Act.put, List.setIfInBounds_toArray, List.set_cons_zero, List.set_cons_succ]
          refine wpAnyH_take (i := 12) (oi := ({ dst := some 120, op := Op.call { callee := Callee.value (Operand.func 33), args := #[Operand.tmp 118, Operand.tmp 119], argTypes := #[24, 24] }, type := 4, pos := "law.go:121", after := _, guard := some (6, false) } : Oper)) (v := undef) rfl (by kernel_rfl) (by kernel_rfl) (by kernel_rfl) (fun _ _ _ h => h) (Or.inr ⟨by rfl, rfl⟩) (by assumption) ?_
          try simp only [Act.put, List.setIfInBounds_toArray, List.set_cons_zero, List.set_cons_succ]
          refine wpAnyH_take (i := 13) (oi := ({ dst := some 121, op := Op.binOp BinOp.eql 4 (Operand.tmp 117) (Operand.tmp 120) 4, type := 4, pos := "law.go:121", after := _, guard := some (6, false) } : Oper)) (v := undef) rfl (by kernel_rfl) (by kernel_rfl) (by kernel_rfl) (fun _ _ _ h => h) (Or.inr ⟨by rfl, rfl⟩) (by assumption) ?_
          try simp only [Act.put, List.setIfInBounds_toArray, List.set_cons_zero, List.set_cons_succ]
          refine wpAnyH_take (i := 14) (oi := ({ dst := some 122, op := Op.pick (Operand.tmp 114) (Operand.const (Value.bool true)) (Operand.tmp 121), type := 4, pos := "law.go:121", after := _, guard := none } : Oper)) (v := ?_) rfl (by kernel_rfl) (by kernel_rfl) (by kernel_rfl) (fun _ _ _ h => h) (Or.inl ⟨by rfl, ?_⟩) (by assumption) ?_
          rotate_left
          · intro w hSw; (try dsimp only at hSw); go_simp; first | done | with_reducible rfl
          try simp only [Act.put, List.setIfInBounds_toArray, List.set_cons_zero, List.set_cons_succ]
          refine wpAnyH_take (i := 15) (oi := ({ dst := some 8, op := Op.assign (Operand.tmp 122), type := 4, pos := "law.go:121", after := _, guard := none } : Oper)) (v := ?_) rfl (by kernel_rfl) (by kernel_rfl) (by kernel_rfl) (fun _ _ _ h => h) (Or.inl ⟨by rfl, ?_⟩) (by assumption) ?_
          rotate_left
          · intro w hSw; (try dsimp only at hSw); go_simp; first | done | with_reducible rfl
          try simp only [Act.put, List.setIfInBounds_toArray, List.set_cons_zero, List.set_cons_succ]
          refine wpAnyH_done (by kernel_rfl) ?_ _
          have hb := below_drew (Below.refl w17.heap.size w17)
          have HB17 := Lib.hid (below_next HB16.out hb HB16.out.size)
          have HK0_17 := Lib.hid (HK0_16.out.kept hb)
          have HK1_17 := Lib.hid (HK1_16.out.kept hb)
          have HK2_17 := Lib.hid (HK2_16.out.kept hb)
          have HK3_17 := Lib.hid (HK3_16.out.kept hb)
          have HM0_17 := Lib.hid (HM0_16.out.below hb)
          have HM1_17 := Lib.hid (HM1_16.out.below hb)
          have HM2_17 := Lib.hid (HM2_16.out.below hb)
          have HM3_17 := Lib.hid (HM3_16.out.below hb)
          clear hb
          clear HT
          go_wp2_with fail
          go_ret
          exact ⟨rfl, HB17.out⟩
      · skip
        have HNK := Lib.hid hlk
        have HNE := Lib.hid (show a ≠ b by rintro rfl; exact hlk (lt_inj HOK.out hok HPK.out hp))
        clear he hok hp hob hlk
        go_wp2_with fail
        refine (readLetterX_any A5 n5 c5 _ _ HO7.out (by have h1 := HO7.out.len; have h2 := HLN.out; omega)).mono ?_
        rintro e w9 ⟨hb, ⟨m5, I0, i0, I1, i1, hd, rfl, hr⟩ | ⟨hd, rfl⟩⟩
        rotate_left
        · rw [HD.out] at hd; cases hd
        rw [HD.out] at hd
        injection hd with hd
        subst hd
        have HB8 := Lib.hid (below_next HB7.out hb HB7.out.size)
        have HK0_8 := Lib.hid (HK0_7.out.kept hb)
        have HK1_8 := Lib.hid (HK1_7.out.kept hb)
        have HK2_8 := Lib.hid (HK2_7.out.kept hb)
        have HK3_8 := Lib.hid (HK3_7.out.kept hb)
        have HM0_8 := Lib.hid (HM0_7.out.below hb)
        have HM1_8 := Lib.hid (HM1_7.out.below hb)
        have HM2_8 := Lib.hid (HM2_7.out.below hb)
        have HM3_8 := Lib.hid (HM3_7.out.below hb)
        have HO8 := Lib.hid (HO7.out.below hb)
        have HQ8 := Lib.hid (HQ7.out.below hb)
        have HR8 := Lib.hid (hr)
        clear hb hr
        have hal := (Below.refl w9.heap.size w9).alloc (Nat.le_refl _) (.cells #[.int .i64 l.f1, .int .i64 l.f2, .int .i64 l.r, .slice I0 l.body.length i0, .slice I1 l.tags.length i1] 46)
        have HB9 := Lib.hid (below_next HB8.out hal HB8.out.size)
        have HK0_9 := Lib.hid (HK0_8.out.kept hal)
        have HK1_9 := Lib.hid (HK1_8.out.kept hal)
        have HK2_9 := Lib.hid (HK2_8.out.kept hal)
        have HK3_9 := Lib.hid (HK3_8.out.kept hal)
        have HM0_9 := Lib.hid (HM0_8.out.below hal)
        have HM1_9 := Lib.hid (HM1_8.out.below hal)
        have HM2_9 := Lib.hid (HM2_8.out.below hal)
        have HM3_9 := Lib.hid (HM3_8.out.below hal)
        have HO9 := Lib.hid (HO8.out.below hal)
        have HQ9 := Lib.hid (HQ8.out.below hal)
        have HR9 := Lib.hid (HR8.out.below hal)
        clear hal
        have k0 := HK0_9.out.at_ (i := 0) rfl
        have k1 := HK0_9.out.at_ (i := 1) rfl
        have k2 := HK0_9.out.at_ (i := 2) rfl
        have k3 := HK0_9.out.at_ (i := 3) rfl
        have k4 := HK0_9.out.at_ (i := 4) rfl
        go_wp2_with fail
        clear k0 k1 k2 k3 k4
        refine (sameLetter_self' l I0 I1 A0 B0 i0 i1 c0 d0 _ _ _ HR9.out HM0_9.out).mono ?_
        rintro e w10 ⟨rfl, hb⟩
        have HB10 := Lib.hid (below_next HB9.out hb HB9.out.size)
        have HK0_10 := Lib.hid (HK0_9.out.kept hb)
        have HK1_10 := Lib.hid (HK1_9.out.kept hb)
        have HK2_10 := Lib.hid (HK2_9.out.kept hb)
        have HK3_10 := Lib.hid (HK3_9.out.kept hb)
        have HM0_10 := Lib.hid (HM0_9.out.below hb)
        have HM1_10 := Lib.hid (HM1_9.out.below hb)
        have HM2_10 := Lib.hid (HM2_9.out.below hb)
        have HM3_10 := Lib.hid (HM3_9.out.below hb)
        have HO10 := Lib.hid (HO9.out.below hb)
        have HQ10 := Lib.hid (HQ9.out.below hb)
        clear hb
        go_upto_region 11 with fail
        have HT := Lib.hid (show _ ∧ _ ∧ _ ∧ _ ∧ _ ∧ _ ∧ _ ∧ _ ∧ _ ∧ _ from ⟨HK0_10.out.at_ (i := 0) rfl, HK0_10.out.at_ (i := 1) rfl, HK0_10.out.at_ (i := 2) rfl, HK0_10.out.at_ (i := 3) rfl, HK0_10.out.at_ (i := 4) rfl, HK1_10.out.at_ (i := 0) rfl, HK1_10.out.at_ (i := 1) rfl, HK1_10.out.at_ (i := 2) rfl, HK1_10.out.at_ (i := 3) rfl, HK1_10.out.at_ (i := 4) rfl⟩)
        refine wp_region_held_drew (S := fun w' => w'.cell? ⟨w.heap.size, 0, none⟩ = some (.int .i64 l.f1) ∧ w'.cell? ⟨w.heap.size, 1, none⟩ = some (.int .i64 l.f2) ∧ w'.cell? ⟨w.heap.size, 2, none⟩ = some (.int .i64 l.r) ∧ w'.cell? ⟨w.heap.size, 3, none⟩ = some (.slice A0 l.body.length c0) ∧ w'.cell? ⟨w.heap.size, 4, none⟩ = some (.slice B0 l.tags.length d0) ∧ w'.cell? ⟨w.heap.size + 1, 0, none⟩ = some (.int .i64 k.f1) ∧ w'.cell? ⟨w.heap.size + 1, 1, none⟩ = some (.int .i64 k.f2) ∧ w'.cell? ⟨w.heap.size + 1, 2, none⟩ = some (.int .i64 k.r) ∧ w'.cell? ⟨w.heap.size + 1, 3, none⟩ = some (.slice A1 k.body.length c1) ∧ w'.cell? ⟨w.heap.size + 1, 4, none⟩ = some (.slice B1 k.tags.length d1)) (by kernel_rfl) (HT.out) (fun hHeld => ?_)
        refine wpAnyH_take (i := 0) (oi := ({ dst := some 66, op := Op.move (Operand.tmp 10), type := 32, pos := "law.go:110", after := _, guard := none } : Oper)) (v := ?_) rfl (by kernel_rfl) (by kernel_rfl) (by kernel_rfl) (fun _ _ _ h => h) (Or.inl ⟨by rfl, ?_⟩) (by assumption) ?_
        rotate_left
        · intro w hSw; (try dsimp only at hSw); go_simp; first | done | with_reducible rfl
        try simp only [Act.put, List.setIfInBounds_toArray, List.set_cons_zero, List.set_cons_succ]
        refine wpAnyH_take (i := 1) (oi := ({ dst := some 67, op := Op.binOp BinOp.eql 32 (Operand.tmp 66) (Operand.const (Value.int IntKind.i64 0)) 32, type := 4, pos := "law.go:110", after := _, guard := none } : Oper)) (v := ?_) rfl (by kernel_rfl) (by kernel_rfl) (by kernel_rfl) (fun _ _ _ h => h) (Or.inl ⟨by rfl, ?_⟩) (by assumption) ?_
        rotate_left
        · intro w hSw; (try dsimp only at hSw); go_simp; first | done | with_reducible rfl
        try simp only [Act.put, List.setIfInBounds_toArray, List.set_cons_zero, List.set_cons_succ]
        refine wpAnyH_take (i := 2) (oi := ({ dst := some 68, op := Op.move (Operand.tmp 67), type := 4, pos := "law.go:110", after := _, guard := none } : Oper)) (v := ?_) rfl (by kernel_rfl) (by kernel_rfl) (by kernel_rfl) (fun _ _ _ h => h) (Or.inl ⟨by rfl, ?_⟩) (by assumption) ?_
        rotate_left
        · intro w hSw; (try dsimp only at hSw); go_simp; first | done | with_reducible rfl
        try simp only [Act.put, List.setIfInBounds_toArray, List.set_cons_zero, List.set_cons_succ]
        refine wpAnyH_take (i := 3) (oi := ({ dst := some 69, op := Op.move (Operand.tmp 12), type := 32, pos := "law.go:110", after := _, guard := some (2, true) } : Oper)) (v := ?_) rfl (by kernel_rfl) (by kernel_rfl) (by kernel_rfl) (fun _ _ _ h => h) (Or.inl ⟨by rfl, ?_⟩) (by assumption) ?_
        rotate_left
        · intro w hSw; (try dsimp only at hSw); go_simp; first | done | with_reducible rfl
        try simp only [Act.put, List.setIfInBounds_toArray, List.set_cons_zero, List.set_cons_succ]
        refine wpAnyH_take (i := 4) (oi := ({ dst := some 70, op := Op.binOp BinOp.eql 32 (Operand.tmp 69) (Operand.const (Value.int IntKind.i64 0)) 32, type := 4, pos := "law.go:110", after := _, guard := some (2, true) } : Oper)) (v := ?_) rfl (by kernel_rfl) (by kernel_rfl) (by kernel_rfl) (fun _ _ _ h => h) (Or.inl ⟨by rfl, ?_⟩) (by assumption) ?_
        rotate_left
        · intro w hSw; (try dsimp only at hSw); go_simp; first | done | with_reducible rfl
        try simp only [Act.put, List.setIfInBounds_toArray, List.set_cons_zero, List.set_cons_succ]
        refine wpAnyH_take (i := 5) (oi := ({ dst := some 71, op := Op.pick (Operand.tmp 68) (Operand.tmp 70) (Operand.const (Value.bool false)), type := 4, pos := "law.go:110", after := _, guard := none } : Oper)) (v := ?_) rfl (by kernel_rfl) (by kernel_rfl) (by kernel_rfl) (fun _ _ _ h => h) (Or.inl ⟨by rfl, ?_⟩) (by assumption) ?_
        rotate_left
        · intro w hSw; (try dsimp only at hSw); go_simp; first | done | with_reducible rfl
        try simp only [Act.put, List.setIfInBounds_toArray, List.set_cons_zero, List.set_cons_succ]
        refine wpAnyH_take (i := 6) (oi := ({ dst := some 72, op := Op.move (Operand.tmp 71), type := 4, pos := "law.go:110", after := _, guard := none } : Oper)) (v := ?_) rfl (by kernel_rfl) (by kernel_rfl) (by kernel_rfl) (fun _ _ _ h => h) (Or.inl ⟨by rfl, ?_⟩) (by assumption) ?_
        rotate_left
        · intro w hSw; (try dsimp only at hSw); go_simp; first | done | with_reducible rfl
        try simp only [Act.put, List.setIfInBounds_toArray, List.set_cons_zero, List.set_cons_succ]
        refine wpAnyH_take (i := 7) (oi := ({ dst := some 73, op := Op.move (Operand.tmp 9), type := 22, pos := "law.go:110", after := _, guard := some (6, true) } : Oper)) (v := ?_) rfl (by kernel_rfl) (by kernel_rfl) (by kernel_rfl) (fun _ _ _ h => h) (Or.inl ⟨by rfl, ?_⟩) (by assumption) ?_
        rotate_left
        · intro w hSw; (try dsimp only at hSw); go_simp; first | done | with_reducible rfl
        try simp only [Act.put, List.setIfInBounds_toArray, List.set_cons_zero, List.set_cons_succ]
        refine wpAnyH_take (i := 8) (oi := ({ dst := some 74, op := Op.move (Operand.tmp 11), type := 22, pos := "law.go:110", after := _, guard := some (6, true) } : Oper)) (v := ?_) rfl (by kernel_rfl) (by kernel_rfl) (by kernel_rfl) (fun _ _ _ h => h) (Or.inl ⟨by rfl, ?_⟩) (by assumption) ?_
        rotate_left
        · intro w hSw; (try dsimp only at hSw); go_simp; first | done | with_reducible rfl
        try simp only [Act.put, List.setIfInBounds_toArray, List.set_cons_zero, List.set_cons_succ]
        refine wpAnyH_take (i := 10) (oi := ({ dst := some 76, op := Op.load 46 (Operand.tmp 4), type := 46, pos := "law.go:110", after := _, guard := some (6, true) } : Oper)) (v := ?_) rfl (by kernel_rfl) (by kernel_rfl) (by kernel_rfl) (fun _ _ _ h => h) (Or.inl ⟨by rfl, ?_⟩) (by assumption) ?_
        rotate_left
        · intro w hSw; (try dsimp only at hSw); go_simp; first | done | with_reducible rfl
        try simp only [Act.put, List.setIfInBounds_toArray, List.set_cons_zero, List.set_cons_succ]
        refine wpAnyH_take (i := 11) (oi := ({ dst := some 77, op := Op.load 46 (Operand.tmp 5), type := 46, pos := "law.go:110", after := _, guard := some (6, true) } : Oper)) (v := ?_) rfl (by kernel_rfl) (by kernel_rfl) (by kernel_rfl) (fun _ _ _ h => h) (Or.inl ⟨by rfl, ?_⟩) (by assumption) ?_
        rotate_left
        · intro w hSw; (try dsimp only at hSw); go_simp; first | done | with_reducible rfl
        try simp only [Act.put, List.setIfInBounds_toArray, List.set_cons_zero, List.set_cons_succ]
        refine wpAnyH_ready (rs := [9]) (by kernel_rfl) (by simp) ?_
        refine AllReadyH.cons (o := ({ dst := some 75, op := Op.call { callee := Callee.value (Operand.func 15), args := #[Operand.tmp 73, Operand.tmp 74], argTypes := #[22, 22] }, type := 4, pos := "law.go:110", after := _, guard := some (6, true) } : Oper)) rfl (fun K hK => ?_) AllReadyH.nil
        go_simp
        refine (sameB_no (Sl.drew HO10.out) (Sl.drew HQ10.out) HNE.out).mono ?_
        rintro e w12 ⟨rfl, hb⟩
        replace hb : Below w10.heap.size w10 w12 := ⟨hb.os, hb.tape, hb.output, hb.size, hb.block⟩
        have HB11 := Lib.hid (below_next HB10.out hb HB10.out.size)
        have HK0_11 := Lib.hid (HK0_10.out.kept hb)
        have HK1_11 := Lib.hid (HK1_10.out.kept hb)
        have HK2_11 := Lib.hid (HK2_10.out.kept hb)
        have HK3_11 := Lib.hid (HK3_10.out.kept hb)
        have HM0_11 := Lib.hid (HM0_10.out.below hb)
        have HM1_11 := Lib.hid (HM1_10.out.below hb)
        have HM2_11 := Lib.hid (HM2_10.out.below hb)
        have HM3_11 := Lib.hid (HM3_10.out.below hb)
        clear hb HT
        have HT := Lib.hid (show _ ∧ _ ∧ _ ∧ _ ∧ _ ∧ _ ∧ _ ∧ _ ∧ _ ∧ _ from ⟨HK0_11.out.at_ (i := 0) rfl, HK0_11.out.at_ (i := 1) rfl, HK0_11.out.at_ (i := 2) rfl, HK0_11.out.at_ (i := 3) rfl, HK0_11.out.at_ (i := 4) rfl, HK1_11.out.at_ (i := 0) rfl, HK1_11.out.at_ (i := 1) rfl, HK1_11.out.at_ (i := 2) rfl, HK1_11.out.at_ (i := 3) rfl, HK1_11.out.at_ (i := 4) rfl⟩)
        go_wp2_with fail
        refine hK.out _ _ (HT.out) (fun hHeld => ?_)
        clear hK K
        try simp only [Act.put, List.setIfInBounds_toArray, List.set_cons_zero, List.set_cons_succ]
        refine wpAnyH_ready (rs := [12]) (by kernel_rfl) (by simp) ?_
        refine AllReadyH.cons (o := ({ dst := some 78, op := Op.call { callee := Callee.value (Operand.func 32), args := #[Operand.tmp 76, Operand.tmp 77], argTypes := #[46, 46] }, type := 4, pos := "law.go:110", after := _, guard := some (6, true) } : Oper)) rfl (fun K hK => ?_) AllReadyH.nil
        go_simp
        refine (sameLt_no l k A0 B0 A1 B1 c0 d0 c1 d1 _ _ _ HM0_11.out HM1_11.out HNK.out).mono ?_
        rintro e w13 ⟨rfl, hb⟩
        have HB12 := Lib.hid (below_next HB11.out hb HB11.out.size)
        have HK0_12 := Lib.hid (HK0_11.out.kept hb)
        have HK1_12 := Lib.hid (HK1_11.out.kept hb)
        have HK2_12 := Lib.hid (HK2_11.out.kept hb)
        have HK3_12 := Lib.hid (HK3_11.out.kept hb)
        have HM0_12 := Lib.hid (HM0_11.out.below hb)
        have HM1_12 := Lib.hid (HM1_11.out.below hb)
        have HM2_12 := Lib.hid (HM2_11.out.below hb)
        have HM3_12 := Lib.hid (HM3_11.out.below hb)
        clear hb HT
        have HT := Lib.hid (show _ ∧ _ ∧ _ ∧ _ ∧ _ ∧ _ ∧ _ ∧ _ ∧ _ ∧ _ from ⟨HK0_12.out.at_ (i := 0) rfl, HK0_12.out.at_ (i := 1) rfl, HK0_12.out.at_ (i := 2) rfl, HK0_12.out.at_ (i := 3) rfl, HK0_12.out.at_ (i := 4) rfl, HK1_12.out.at_ (i := 0) rfl, HK1_12.out.at_ (i := 1) rfl, HK1_12.out.at_ (i := 2) rfl, HK1_12.out.at_ (i := 3) rfl, HK1_12.out.at_ (i := 4) rfl⟩)
        go_wp2_with fail
        refine hK.out _ _ (HT.out) (fun hHeld => ?_)
        clear hK K
        try simp only [Act.put, List.setIfInBounds_toArray, List.set_cons_zero, List.set_cons_succ]
        refine wpAnyH_take (i := 13) (oi := ({ dst := some 79, op := Op.binOp BinOp.neq 4 (Operand.tmp 75) (Operand.tmp 78) 4, type := 4, pos := "law.go:110", after := _, guard := some (6, true) } : Oper)) (v := ?_) rfl (by kernel_rfl) (by kernel_rfl) (by kernel_rfl) (fun _ _ _ h => h) (Or.inl ⟨by rfl, ?_⟩) (by assumption) ?_
        rotate_left
        · intro w hSw; (try dsimp only at hSw); go_simp; first | done | with_reducible rfl
        try simp only [Act.put, List.setIfInBounds_toArray, List.set_cons_zero, List.set_cons_succ]
        refine wpAnyH_take (i := 14) (oi := ({ dst := some 80, op := Op.pick (Operand.tmp 72) (Operand.tmp 79) (Operand.const (Value.bool false)), type := 4, pos := "law.go:110", after := _, guard := none } : Oper)) (v := ?_) rfl (by kernel_rfl) (by kernel_rfl) (by kernel_rfl) (fun _ _ _ h => h) (Or.inl ⟨by rfl, ?_⟩) (by assumption) ?_
        rotate_left
        · intro w hSw; (try dsimp only at hSw); go_simp; first | done | with_reducible rfl
        try simp only [Act.put, List.setIfInBounds_toArray, List.set_cons_zero, List.set_cons_succ]
        refine wpAnyH_done (by kernel_rfl) ?_ _
        clear HT HNK HNE
        have k0 := HK2_12.out.at_ (i := 0) rfl
        have k1 := HK2_12.out.at_ (i := 1) rfl
        have k2 := HK2_12.out.at_ (i := 2) rfl
        have k3 := HK2_12.out.at_ (i := 3) rfl
        go_wp2_with fail
        clear k0 k1 k2 k3
        try clear HD HLN HOK HPK
        try clear hke
        refine (copyEntry_any x A2 c2 _ _ HM2_12.out G2.out).mono ?_
        rintro e w14 ⟨hb, E0, f0, rfl, hr⟩
        have HB13 := Lib.hid (below_next HB12.out hb HB12.out.size)
        have HK0_13 := Lib.hid (HK0_12.out.kept hb)
        have HK1_13 := Lib.hid (HK1_12.out.kept hb)
        have HK2_13 := Lib.hid (HK2_12.out.kept hb)
        have HK3_13 := Lib.hid (HK3_12.out.kept hb)
        have HM0_13 := Lib.hid (HM0_12.out.below hb)
        have HM1_13 := Lib.hid (HM1_12.out.below hb)
        have HM2_13 := Lib.hid (HM2_12.out.below hb)
        have HM3_13 := Lib.hid (HM3_12.out.below hb)
        have HR13 := Lib.hid (hr)
        clear hb hr
        go_wp2_with fail
        refine (packEntryX_any x E0 f0 _ HR13.out.all).mono ?_
        rintro e w15 ⟨hb, A15, n15, c15, rfl, ho⟩
        have HB14 := Lib.hid (below_next HB13.out hb HB13.out.size)
        have HK0_14 := Lib.hid (HK0_13.out.kept hb)
        have HK1_14 := Lib.hid (HK1_13.out.kept hb)
        have HK2_14 := Lib.hid (HK2_13.out.kept hb)
        have HK3_14 := Lib.hid (HK3_13.out.kept hb)
        have HM0_14 := Lib.hid (HM0_13.out.below hb)
        have HM1_14 := Lib.hid (HM1_13.out.below hb)
        have HM2_14 := Lib.hid (HM2_13.out.below hb)
        have HM3_14 := Lib.hid (HM3_13.out.below hb)
        have HP14 := Lib.hid (Sl.own ho)
        clear hb ho
        have k0 := HK3_14.out.at_ (i := 0) rfl
        have k1 := HK3_14.out.at_ (i := 1) rfl
        have k2 := HK3_14.out.at_ (i := 2) rfl
        have k3 := HK3_14.out.at_ (i := 3) rfl
        go_wp2_with fail
        clear k0 k1 k2 k3
        refine (copyEntry_any y A3 c3 _ _ HM3_14.out G3.out).mono ?_
        rintro e w16 ⟨hb, F0, j0, rfl, hr⟩
        have HB15 := Lib.hid (below_next HB14.out hb HB14.out.size)
        have HK0_15 := Lib.hid (HK0_14.out.kept hb)
        have HK1_15 := Lib.hid (HK1_14.out.kept hb)
        have HK2_15 := Lib.hid (HK2_14.out.kept hb)
        have HK3_15 := Lib.hid (HK3_14.out.kept hb)
        have HM0_15 := Lib.hid (HM0_14.out.below hb)
        have HM1_15 := Lib.hid (HM1_14.out.below hb)
        have HM2_15 := Lib.hid (HM2_14.out.below hb)
        have HM3_15 := Lib.hid (HM3_14.out.below hb)
        have HP15 := Lib.hid (HP14.out.below hb)
        have HR15 := Lib.hid (hr)
        clear hb hr
        go_wp2_with fail
        refine (packEntryX_any y F0 j0 _ HR15.out.all).mono ?_
        rintro e w17 ⟨hb, A17, n17, c17, rfl, ho⟩
        have HB16 := Lib.hid (below_next HB15.out hb HB15.out.size)
        have HK0_16 := Lib.hid (HK0_15.out.kept hb)
        have HK1_16 := Lib.hid (HK1_15.out.kept hb)
        have HK2_16 := Lib.hid (HK2_15.out.kept hb)
        have HK3_16 := Lib.hid (HK3_15.out.kept hb)
        have HM0_16 := Lib.hid (HM0_15.out.below hb)
        have HM1_16 := Lib.hid (HM1_15.out.below hb)
        have HM2_16 := Lib.hid (HM2_15.out.below hb)
        have HM3_16 := Lib.hid (HM3_15.out.below hb)
        have HP16 := Lib.hid (HP15.out.below hb)
        have HU16 := Lib.hid (Sl.own ho)
        clear hb ho
        rcases en_cases x with ⟨a, he, hok, hp⟩ | he
        · skip
          have HD := Lib.hid (decen_pack hok hp)
          have HLN := Lib.hid (show a.length ≤ 4294967296 by rw [← hp]; exact en_len hok)
          have HOK := Lib.hid hok
          have HPK := Lib.hid hp
          have hoa : Sl w17 A15 n15 c15 a := by have := HP16.out; rw [he] at this; exact this
          rw [he]
          clear he hok hp
          have HP16 := Lib.hid (hoa)
          clear hoa
          rcases en_cases y with ⟨b, he, hok, hp⟩ | he
          · skip
            have hob : Sl w17 A17 n17 c17 b := by have := HU16.out; rw [he] at this; exact this
            rw [he]
            have HU16 := Lib.hid (hob)
            by_cases hlk : x = y
            · skip
              have HNK := Lib.hid hlk
              obtain rfl : b = a := by have h1 := HPK.out; rw [hlk, hp] at h1; exact h1
              clear he hok hp hob hlk
              go_wp2_with fail
              refine (readEntryX_any A15 n15 c15 _ _ HP16.out (by have h1 := HP16.out.len; have h2 := HLN.out; omega)).mono ?_
              rintro e w9 ⟨hb, ⟨m5, I0, i0, hd, rfl, hr⟩ | ⟨hd, rfl⟩⟩
              rotate_left
              · rw [HD.out] at hd; cases hd
              rw [HD.out] at hd
              injection hd with hd
              subst hd
              have HB17 := Lib.hid (below_next HB16.out hb HB16.out.size)
              have HK0_17 := Lib.hid (HK0_16.out.kept hb)
              have HK1_17 := Lib.hid (HK1_16.out.kept hb)
              have HK2_17 := Lib.hid (HK2_16.out.kept hb)
              have HK3_17 := Lib.hid (HK3_16.out.kept hb)
              have HM0_17 := Lib.hid (HM0_16.out.below hb)
              have HM1_17 := Lib.hid (HM1_16.out.below hb)
              have HM2_17 := Lib.hid (HM2_16.out.below hb)
              have HM3_17 := Lib.hid (HM3_16.out.below hb)
              have HP17 := Lib.hid (HP16.out.below hb)
              have HU17 := Lib.hid (HU16.out.below hb)
              have HR17 := Lib.hid (hr)
              clear hb hr
              have hal := (Below.refl w9.heap.size w9).alloc (Nat.le_refl _) (.cells #[.int .i64 x.c, .int .i64 x.s, .int .i64 x.t, .slice I0 x.dig.length i0] 24)
              have HB18 := Lib.hid (below_next HB17.out hal HB17.out.size)
              have HK0_18 := Lib.hid (HK0_17.out.kept hal)
              have HK1_18 := Lib.hid (HK1_17.out.kept hal)
              have HK2_18 := Lib.hid (HK2_17.out.kept hal)
              have HK3_18 := Lib.hid (HK3_17.out.kept hal)
              have HM0_18 := Lib.hid (HM0_17.out.below hal)
              have HM1_18 := Lib.hid (HM1_17.out.below hal)
              have HM2_18 := Lib.hid (HM2_17.out.below hal)
              have HM3_18 := Lib.hid (HM3_17.out.below hal)
              have HP18 := Lib.hid (HP17.out.below hal)
              have HU18 := Lib.hid (HU17.out.below hal)
              have HR18 := Lib.hid (HR17.out.below hal)
              clear hal
              have k0 := HK2_18.out.at_ (i := 0) rfl
              have k1 := HK2_18.out.at_ (i := 1) rfl
              have k2 := HK2_18.out.at_ (i := 2) rfl
              have k3 := HK2_18.out.at_ (i := 3) rfl
              go_wp2_with fail
              clear k0 k1 k2 k3
              refine (sameEntry_self x I0 A2 i0 c2 _ _ _ HR18.out HM2_18.out).mono ?_
              rintro e w10 ⟨rfl, hb⟩
              have HB19 := Lib.hid (below_next HB18.out hb HB18.out.size)
              have HK0_19 := Lib.hid (HK0_18.out.kept hb)
              have HK1_19 := Lib.hid (HK1_18.out.kept hb)
              have HK2_19 := Lib.hid (HK2_18.out.kept hb)
              have HK3_19 := Lib.hid (HK3_18.out.kept hb)
              have HM0_19 := Lib.hid (HM0_18.out.below hb)
              have HM1_19 := Lib.hid (HM1_18.out.below hb)
              have HM2_19 := Lib.hid (HM2_18.out.below hb)
              have HM3_19 := Lib.hid (HM3_18.out.below hb)
              have HP19 := Lib.hid (HP18.out.below hb)
              have HU19 := Lib.hid (HU18.out.below hb)
              clear hb
              go_upto_region 19 with fail
              have HT := Lib.hid (show _ ∧ _ ∧ _ ∧ _ ∧ _ ∧ _ ∧ _ ∧ _ from ⟨HK2_19.out.at_ (i := 0) rfl, HK2_19.out.at_ (i := 1) rfl, HK2_19.out.at_ (i := 2) rfl, HK2_19.out.at_ (i := 3) rfl, HK3_19.out.at_ (i := 0) rfl, HK3_19.out.at_ (i := 1) rfl, HK3_19.out.at_ (i := 2) rfl, HK3_19.out.at_ (i := 3) rfl⟩)
              refine wp_region_held_drew (S := fun w' => w'.cell? ⟨w.heap.size + 1 + 1, 0, none⟩ = some (.int .i64 x.c) ∧ w'.cell? ⟨w.heap.size + 1 + 1, 1, none⟩ = some (.int .i64 x.s) ∧ w'.cell? ⟨w.heap.size + 1 + 1, 2, none⟩ = some (.int .i64 x.t) ∧ w'.cell? ⟨w.heap.size + 1 + 1, 3, none⟩ = some (.slice A2 x.dig.length c2) ∧ w'.cell? ⟨w.heap.size + 1 + 1 + 1, 0, none⟩ = some (.int .i64 y.c) ∧ w'.cell? ⟨w.heap.size + 1 + 1 + 1, 1, none⟩ = some (.int .i64 y.s) ∧ w'.cell? ⟨w.heap.size + 1 + 1 + 1, 2, none⟩ = some (.int .i64 y.t) ∧ w'.cell? ⟨w.heap.size + 1 + 1 + 1, 3, none⟩ = some (.slice A3 y.dig.length c3)) (by kernel_rfl) (HT.out) (fun hHeld => ?_)
              refine wpAnyH_take (i := 0) (oi := ({ dst := some 108, op := Op.move (Operand.tmp 10), type := 32, pos := "law.go:121", after := _, guard := none } : Oper)) (v := ?_) rfl (by kernel_rfl) (by kernel_rfl) (by kernel_rfl) (fun _ _ _ h => h) (Or.inl ⟨by rfl, ?_⟩) (by assumption) ?_
              rotate_left
              · intro w hSw; (try dsimp only at hSw); go_simp; first | done | with_reducible rfl
              try simp only [Act.put, List.setIfInBounds_toArray, List.set_cons_zero, List.set_cons_succ]
              refine wpAnyH_take (i := 1) (oi := ({ dst := some 109, op := Op.binOp BinOp.neq 32 (Operand.tmp 108) (Operand.const (Value.int IntKind.i64 0)) 32, type := 4, pos := "law.go:121", after := _, guard := none } : Oper)) (v := ?_) rfl (by kernel_rfl) (by kernel_rfl) (by kernel_rfl) (fun _ _ _ h => h) (Or.inl ⟨by rfl, ?_⟩) (by assumption) ?_
              rotate_left
              · intro w hSw; (try dsimp only at hSw); go_simp; first | done | with_reducible rfl
              try simp only [Act.put, List.setIfInBounds_toArray, List.set_cons_zero, List.set_cons_succ]
              refine wpAnyH_take (i := 2) (oi := ({ dst := some 110, op := Op.move (Operand.tmp 109), type := 4, pos := "law.go:121", after := _, guard := none } : Oper)) (v := ?_) rfl (by kernel_rfl) (by kernel_rfl) (by kernel_rfl) (fun _ _ _ h => h) (Or.inl ⟨by rfl, ?_⟩) (by assumption) ?_
              rotate_left
              · intro w hSw; (try dsimp only at hSw); go_simp; first | done | with_reducible rfl
              try simp only [Act.put, List.setIfInBounds_toArray, List.set_cons_zero, List.set_cons_succ]
              refine wpAnyH_take (i := 3) (oi := ({ dst := some 111, op := Op.move (Operand.tmp 12), type := 32, pos := "law.go:121", after := _, guard := some (2, false) } : Oper)) (v := ?_) rfl (by kernel_rfl) (by kernel_rfl) (by kernel_rfl) (fun _ _ _ h => h) (Or.inl ⟨by rfl, ?_⟩) (by assumption) ?_
              rotate_left
              · intro w hSw; (try dsimp only at hSw); go_simp; first | done | with_reducible rfl
              try simp only [Act.put, List.setIfInBounds_toArray, List.set_cons_zero, List.set_cons_succ]
              refine wpAnyH_take (i := 4) (oi := ({ dst := some 112, op := Op.binOp BinOp.neq 32 (Operand.tmp 111) (Operand.const (Value.int IntKind.i64 0)) 32, type := 4, pos := "law.go:121", after := _, guard := some (2, false) } : Oper)) (v := ?_) rfl (by kernel_rfl) (by kernel_rfl) (by kernel_rfl) (fun _ _ _ h => h) (Or.inl ⟨by rfl, ?_⟩) (by assumption) ?_
              rotate_left
              · intro w hSw; (try dsimp only at hSw); go_simp; first | done | with_reducible rfl
              try simp only [Act.put, List.setIfInBounds_toArray, List.set_cons_zero, List.set_cons_succ]
              refine wpAnyH_take (i := 5) (oi := ({ dst := some 113, op := Op.pick (Operand.tmp 110) (Operand.const (Value.bool true)) (Operand.tmp 112), type := 4, pos := "law.go:121", after := _, guard := none } : Oper)) (v := ?_) rfl (by kernel_rfl) (by kernel_rfl) (by kernel_rfl) (fun _ _ _ h => h) (Or.inl ⟨by rfl, ?_⟩) (by assumption) ?_
              rotate_left
              · intro w hSw; (try dsimp only at hSw); go_simp; first | done | with_reducible rfl
              try simp only [Act.put, List.setIfInBounds_toArray, List.set_cons_zero, List.set_cons_succ]
              refine wpAnyH_take (i := 6) (oi := ({ dst := some 114, op := Op.move (Operand.tmp 113), type := 4, pos := "law.go:121", after := _, guard := none } : Oper)) (v := ?_) rfl (by kernel_rfl) (by kernel_rfl) (by kernel_rfl) (fun _ _ _ h => h) (Or.inl ⟨by rfl, ?_⟩) (by assumption) ?_
              rotate_left
              · intro w hSw; (try dsimp only at hSw); go_simp; first | done | with_reducible rfl
              try simp only [Act.put, List.setIfInBounds_toArray, List.set_cons_zero, List.set_cons_succ]
              refine wpAnyH_take (i := 7) (oi := ({ dst := some 115, op := Op.move (Operand.tmp 15), type := 22, pos := "law.go:121", after := _, guard := some (6, false) } : Oper)) (v := ?_) rfl (by kernel_rfl) (by kernel_rfl) (by kernel_rfl) (fun _ _ _ h => h) (Or.inl ⟨by rfl, ?_⟩) (by assumption) ?_
              rotate_left
              · intro w hSw; (try dsimp only at hSw); go_simp; first | done | with_reducible rfl
              try simp only [Act.put, List.setIfInBounds_toArray, List.set_cons_zero, List.set_cons_succ]
              refine wpAnyH_take (i := 8) (oi := ({ dst := some 116, op := Op.move (Operand.tmp 16), type := 22, pos := "law.go:121", after := _, guard := some (6, false) } : Oper)) (v := ?_) rfl (by kernel_rfl) (by kernel_rfl) (by kernel_rfl) (fun _ _ _ h => h) (Or.inl ⟨by rfl, ?_⟩) (by assumption) ?_
              rotate_left
              · intro w hSw; (try dsimp only at hSw); go_simp; first | done | with_reducible rfl
              try simp only [Act.put, List.setIfInBounds_toArray, List.set_cons_zero, List.set_cons_succ]
              refine wpAnyH_take (i := 10) (oi := ({ dst := some 118, op := Op.load 24 (Operand.tmp 6), type := 24, pos := "law.go:121", after := _, guard := some (6, false) } : Oper)) (v := ?_) rfl (by kernel_rfl) (by kernel_rfl) (by kernel_rfl) (fun _ _ _ h => h) (Or.inl ⟨by rfl, ?_⟩) (by assumption) ?_
              rotate_left
              · intro w hSw; (try dsimp only at hSw); go_simp; first | done | with_reducible rfl
              try simp only [Act.put, List.setIfInBounds_toArray, List.set_cons_zero, List.set_cons_succ]
              refine wpAnyH_take (i := 11) (oi := ({ dst := some 119, op := Op.load 24 (Operand.tmp 7), type := 24, pos := "law.go:121", after := _, guard := some (6, false) } : Oper)) (v := ?_) rfl (by kernel_rfl) (by kernel_rfl) (by kernel_rfl) (fun _ _ _ h => h) (Or.inl ⟨by rfl, ?_⟩) (by assumption) ?_
              rotate_left
              · intro w hSw; (try dsimp only at hSw); go_simp; first | done | with_reducible rfl
              try simp only [Act.put, List.setIfInBounds_toArray, List.set_cons_zero, List.set_cons_succ]
              refine wpAnyH_ready (rs := [9]) (by kernel_rfl) (by simp) ?_
              refine AllReadyH.cons (o := ({ dst := some 117, op := Op.call { callee := Callee.value (Operand.func 15), args := #[Operand.tmp 115, Operand.tmp 116], argTypes := #[22, 22] }, type := 4, pos := "law.go:121", after := _, guard := some (6, false) } : Oper)) rfl (fun K hK => ?_) AllReadyH.nil
              go_simp
              refine (sameB_two (Sl.drew HP19.out) (Sl.drew HU19.out)).mono ?_
              rintro e w12 ⟨rfl, hb⟩
              replace hb : Below w10.heap.size w10 w12 := ⟨hb.os, hb.tape, hb.output, hb.size, hb.block⟩
              have HB20 := Lib.hid (below_next HB19.out hb HB19.out.size)
              have HK0_20 := Lib.hid (HK0_19.out.kept hb)
              have HK1_20 := Lib.hid (HK1_19.out.kept hb)
              have HK2_20 := Lib.hid (HK2_19.out.kept hb)
              have HK3_20 := Lib.hid (HK3_19.out.kept hb)
              have HM0_20 := Lib.hid (HM0_19.out.below hb)
              have HM1_20 := Lib.hid (HM1_19.out.below hb)
              have HM2_20 := Lib.hid (HM2_19.out.below hb)
              have HM3_20 := Lib.hid (HM3_19.out.below hb)
              clear hb HT
              have HT := Lib.hid (show _ ∧ _ ∧ _ ∧ _ ∧ _ ∧ _ ∧ _ ∧ _ from ⟨HK2_20.out.at_ (i := 0) rfl, HK2_20.out.at_ (i := 1) rfl, HK2_20.out.at_ (i := 2) rfl, HK2_20.out.at_ (i := 3) rfl, HK3_20.out.at_ (i := 0) rfl, HK3_20.out.at_ (i := 1) rfl, HK3_20.out.at_ (i := 2) rfl, HK3_20.out.at_ (i := 3) rfl⟩)
              go_wp2_with fail
              refine hK.out _ _ (HT.out) (fun hHeld => ?_)
              clear hK K
              try simp only [Act.put, List.setIfInBounds_toArray, List.set_cons_zero, List.set_cons_succ]
              refine wpAnyH_ready (rs := [12]) (by kernel_rfl) (by simp) ?_
              refine AllReadyH.cons (o := ({ dst := some 120, op := Op.call { callee := Callee.value (Operand.func 33), args := #[Operand.tmp 118, Operand.tmp 119], argTypes := #[24, 24] }, type := 4, pos := "law.go:121", after := _, guard := some (6, false) } : Oper)) rfl (fun K hK => ?_) AllReadyH.nil
              go_simp
              refine (sameEn_yes x y A2 A3 c2 c3 _ _ _ HM2_20.out HM3_20.out HNK.out).mono ?_
              rintro e w13 ⟨rfl, hb⟩
              have HB21 := Lib.hid (below_next HB20.out hb HB20.out.size)
              have HK0_21 := Lib.hid (HK0_20.out.kept hb)
              have HK1_21 := Lib.hid (HK1_20.out.kept hb)
              have HK2_21 := Lib.hid (HK2_20.out.kept hb)
              have HK3_21 := Lib.hid (HK3_20.out.kept hb)
              have HM0_21 := Lib.hid (HM0_20.out.below hb)
              have HM1_21 := Lib.hid (HM1_20.out.below hb)
              have HM2_21 := Lib.hid (HM2_20.out.below hb)
              have HM3_21 := Lib.hid (HM3_20.out.below hb)
              clear hb HT
              have HT := Lib.hid (show _ ∧ _ ∧ _ ∧ _ ∧ _ ∧ _ ∧ _ ∧ _ from ⟨HK2_21.out.at_ (i := 0) rfl, HK2_21.out.at_ (i := 1) rfl, HK2_21.out.at_ (i := 2) rfl, HK2_21.out.at_ (i := 3) rfl, HK3_21.out.at_ (i := 0) rfl, HK3_21.out.at_ (i := 1) rfl, HK3_21.out.at_ (i := 2) rfl, HK3_21.out.at_ (i := 3) rfl⟩)
              go_wp2_with fail
              refine hK.out _ _ (HT.out) (fun hHeld => ?_)
              clear hK K
              try simp only [Act.put, List.setIfInBounds_toArray, List.set_cons_zero, List.set_cons_succ]
              refine wpAnyH_take (i := 13) (oi := ({ dst := some 121, op := Op.binOp BinOp.eql 4 (Operand.tmp 117) (Operand.tmp 120) 4, type := 4, pos := "law.go:121", after := _, guard := some (6, false) } : Oper)) (v := ?_) rfl (by kernel_rfl) (by kernel_rfl) (by kernel_rfl) (fun _ _ _ h => h) (Or.inl ⟨by rfl, ?_⟩) (by assumption) ?_
              rotate_left
              · intro w hSw; (try dsimp only at hSw); go_simp; first | done | with_reducible rfl
              try simp only [Act.put, List.setIfInBounds_toArray, List.set_cons_zero, List.set_cons_succ]
              refine wpAnyH_take (i := 14) (oi := ({ dst := some 122, op := Op.pick (Operand.tmp 114) (Operand.const (Value.bool true)) (Operand.tmp 121), type := 4, pos := "law.go:121", after := _, guard := none } : Oper)) (v := ?_) rfl (by kernel_rfl) (by kernel_rfl) (by kernel_rfl) (fun _ _ _ h => h) (Or.inl ⟨by rfl, ?_⟩) (by assumption) ?_
              rotate_left
              · intro w hSw; (try dsimp only at hSw); go_simp; first | done | with_reducible rfl
              try simp only [Act.put, List.setIfInBounds_toArray, List.set_cons_zero, List.set_cons_succ]
              refine wpAnyH_take (i := 15) (oi := ({ dst := some 8, op := Op.assign (Operand.tmp 122), type := 4, pos := "law.go:121", after := _, guard := none } : Oper)) (v := ?_) rfl (by kernel_rfl) (by kernel_rfl) (by kernel_rfl) (fun _ _ _ h => h) (Or.inl ⟨by rfl, ?_⟩) (by assumption) ?_
              rotate_left
              · intro w hSw; (try dsimp only at hSw); go_simp; first | done | with_reducible rfl
              try simp only [Act.put, List.setIfInBounds_toArray, List.set_cons_zero, List.set_cons_succ]
              refine wpAnyH_done (by kernel_rfl) ?_ _
              clear HT HNK
              go_wp2_with fail
              go_ret
              exact ⟨rfl, HB21.out⟩
            · skip
              have HNK := Lib.hid hlk
              have HNE := Lib.hid (show a ≠ b by rintro rfl; exact hlk (en_inj HOK.out hok (HPK.out.trans hp.symm)))
              clear he hok hp hob hlk
              go_wp2_with fail
              refine (readEntryX_any A15 n15 c15 _ _ HP16.out (by have h1 := HP16.out.len; have h2 := HLN.out; omega)).mono ?_
              rintro e w9 ⟨hb, ⟨m5, I0, i0, hd, rfl, hr⟩ | ⟨hd, rfl⟩⟩
              rotate_left
              · rw [HD.out] at hd; cases hd
              rw [HD.out] at hd
              injection hd with hd
              subst hd
              have HB17 := Lib.hid (below_next HB16.out hb HB16.out.size)
              have HK0_17 := Lib.hid (HK0_16.out.kept hb)
              have HK1_17 := Lib.hid (HK1_16.out.kept hb)
              have HK2_17 := Lib.hid (HK2_16.out.kept hb)
              have HK3_17 := Lib.hid (HK3_16.out.kept hb)
              have HM0_17 := Lib.hid (HM0_16.out.below hb)
              have HM1_17 := Lib.hid (HM1_16.out.below hb)
              have HM2_17 := Lib.hid (HM2_16.out.below hb)
              have HM3_17 := Lib.hid (HM3_16.out.below hb)
              have HP17 := Lib.hid (HP16.out.below hb)
              have HU17 := Lib.hid (HU16.out.below hb)
              have HR17 := Lib.hid (hr)
              clear hb hr
              have hal := (Below.refl w9.heap.size w9).alloc (Nat.le_refl _) (.cells #[.int .i64 x.c, .int .i64 x.s, .int .i64 x.t, .slice I0 x.dig.length i0] 24)
              have HB18 := Lib.hid (below_next HB17.out hal HB17.out.size)
              have HK0_18 := Lib.hid (HK0_17.out.kept hal)
              have HK1_18 := Lib.hid (HK1_17.out.kept hal)
              have HK2_18 := Lib.hid (HK2_17.out.kept hal)
              have HK3_18 := Lib.hid (HK3_17.out.kept hal)
              have HM0_18 := Lib.hid (HM0_17.out.below hal)
              have HM1_18 := Lib.hid (HM1_17.out.below hal)
              have HM2_18 := Lib.hid (HM2_17.out.below hal)
              have HM3_18 := Lib.hid (HM3_17.out.below hal)
              have HP18 := Lib.hid (HP17.out.below hal)
              have HU18 := Lib.hid (HU17.out.below hal)
              have HR18 := Lib.hid (HR17.out.below hal)
              clear hal
              have k0 := HK2_18.out.at_ (i := 0) rfl
              have k1 := HK2_18.out.at_ (i := 1) rfl
              have k2 := HK2_18.out.at_ (i := 2) rfl
              have k3 := HK2_18.out.at_ (i := 3) rfl
              go_wp2_with fail
              clear k0 k1 k2 k3
              refine (sameEntry_self x I0 A2 i0 c2 _ _ _ HR18.out HM2_18.out).mono ?_
              rintro e w10 ⟨rfl, hb⟩
              have HB19 := Lib.hid (below_next HB18.out hb HB18.out.size)
              have HK0_19 := Lib.hid (HK0_18.out.kept hb)
              have HK1_19 := Lib.hid (HK1_18.out.kept hb)
              have HK2_19 := Lib.hid (HK2_18.out.kept hb)
              have HK3_19 := Lib.hid (HK3_18.out.kept hb)
              have HM0_19 := Lib.hid (HM0_18.out.below hb)
              have HM1_19 := Lib.hid (HM1_18.out.below hb)
              have HM2_19 := Lib.hid (HM2_18.out.below hb)
              have HM3_19 := Lib.hid (HM3_18.out.below hb)
              have HP19 := Lib.hid (HP18.out.below hb)
              have HU19 := Lib.hid (HU18.out.below hb)
              clear hb
              go_upto_region 19 with fail
              have HT := Lib.hid (show _ ∧ _ ∧ _ ∧ _ ∧ _ ∧ _ ∧ _ ∧ _ from ⟨HK2_19.out.at_ (i := 0) rfl, HK2_19.out.at_ (i := 1) rfl, HK2_19.out.at_ (i := 2) rfl, HK2_19.out.at_ (i := 3) rfl, HK3_19.out.at_ (i := 0) rfl, HK3_19.out.at_ (i := 1) rfl, HK3_19.out.at_ (i := 2) rfl, HK3_19.out.at_ (i := 3) rfl⟩)
              refine wp_region_held_drew (S := fun w' => w'.cell? ⟨w.heap.size + 1 + 1, 0, none⟩ = some (.int .i64 x.c) ∧ w'.cell? ⟨w.heap.size + 1 + 1, 1, none⟩ = some (.int .i64 x.s) ∧ w'.cell? ⟨w.heap.size + 1 + 1, 2, none⟩ = some (.int .i64 x.t) ∧ w'.cell? ⟨w.heap.size + 1 + 1, 3, none⟩ = some (.slice A2 x.dig.length c2) ∧ w'.cell? ⟨w.heap.size + 1 + 1 + 1, 0, none⟩ = some (.int .i64 y.c) ∧ w'.cell? ⟨w.heap.size + 1 + 1 + 1, 1, none⟩ = some (.int .i64 y.s) ∧ w'.cell? ⟨w.heap.size + 1 + 1 + 1, 2, none⟩ = some (.int .i64 y.t) ∧ w'.cell? ⟨w.heap.size + 1 + 1 + 1, 3, none⟩ = some (.slice A3 y.dig.length c3)) (by kernel_rfl) (HT.out) (fun hHeld => ?_)
              refine wpAnyH_take (i := 0) (oi := ({ dst := some 108, op := Op.move (Operand.tmp 10), type := 32, pos := "law.go:121", after := _, guard := none } : Oper)) (v := ?_) rfl (by kernel_rfl) (by kernel_rfl) (by kernel_rfl) (fun _ _ _ h => h) (Or.inl ⟨by rfl, ?_⟩) (by assumption) ?_
              rotate_left
              · intro w hSw; (try dsimp only at hSw); go_simp; first | done | with_reducible rfl
              try simp only [Act.put, List.setIfInBounds_toArray, List.set_cons_zero, List.set_cons_succ]
              refine wpAnyH_take (i := 1) (oi := ({ dst := some 109, op := Op.binOp BinOp.neq 32 (Operand.tmp 108) (Operand.const (Value.int IntKind.i64 0)) 32, type := 4, pos := "law.go:121", after := _, guard := none } : Oper)) (v := ?_) rfl (by kernel_rfl) (by kernel_rfl) (by kernel_rfl) (fun _ _ _ h => h) (Or.inl ⟨by rfl, ?_⟩) (by assumption) ?_
              rotate_left
              · intro w hSw; (try dsimp only at hSw); go_simp; first | done | with_reducible rfl
              try simp only [Act.put, List.setIfInBounds_toArray, List.set_cons_zero, List.set_cons_succ]
              refine wpAnyH_take (i := 2) (oi := ({ dst := some 110, op := Op.move (Operand.tmp 109), type := 4, pos := "law.go:121", after := _, guard := none } : Oper)) (v := ?_) rfl (by kernel_rfl) (by kernel_rfl) (by kernel_rfl) (fun _ _ _ h => h) (Or.inl ⟨by rfl, ?_⟩) (by assumption) ?_
              rotate_left
              · intro w hSw; (try dsimp only at hSw); go_simp; first | done | with_reducible rfl
              try simp only [Act.put, List.setIfInBounds_toArray, List.set_cons_zero, List.set_cons_succ]
              refine wpAnyH_take (i := 3) (oi := ({ dst := some 111, op := Op.move (Operand.tmp 12), type := 32, pos := "law.go:121", after := _, guard := some (2, false) } : Oper)) (v := ?_) rfl (by kernel_rfl) (by kernel_rfl) (by kernel_rfl) (fun _ _ _ h => h) (Or.inl ⟨by rfl, ?_⟩) (by assumption) ?_
              rotate_left
              · intro w hSw; (try dsimp only at hSw); go_simp; first | done | with_reducible rfl
              try simp only [Act.put, List.setIfInBounds_toArray, List.set_cons_zero, List.set_cons_succ]
              refine wpAnyH_take (i := 4) (oi := ({ dst := some 112, op := Op.binOp BinOp.neq 32 (Operand.tmp 111) (Operand.const (Value.int IntKind.i64 0)) 32, type := 4, pos := "law.go:121", after := _, guard := some (2, false) } : Oper)) (v := ?_) rfl (by kernel_rfl) (by kernel_rfl) (by kernel_rfl) (fun _ _ _ h => h) (Or.inl ⟨by rfl, ?_⟩) (by assumption) ?_
              rotate_left
              · intro w hSw; (try dsimp only at hSw); go_simp; first | done | with_reducible rfl
              try simp only [Act.put, List.setIfInBounds_toArray, List.set_cons_zero, List.set_cons_succ]
              refine wpAnyH_take (i := 5) (oi := ({ dst := some 113, op := Op.pick (Operand.tmp 110) (Operand.const (Value.bool true)) (Operand.tmp 112), type := 4, pos := "law.go:121", after := _, guard := none } : Oper)) (v := ?_) rfl (by kernel_rfl) (by kernel_rfl) (by kernel_rfl) (fun _ _ _ h => h) (Or.inl ⟨by rfl, ?_⟩) (by assumption) ?_
              rotate_left
              · intro w hSw; (try dsimp only at hSw); go_simp; first | done | with_reducible rfl
              try simp only [Act.put, List.setIfInBounds_toArray, List.set_cons_zero, List.set_cons_succ]
              refine wpAnyH_take (i := 6) (oi := ({ dst := some 114, op := Op.move (Operand.tmp 113), type := 4, pos := "law.go:121", after := _, guard := none } : Oper)) (v := ?_) rfl (by kernel_rfl) (by kernel_rfl) (by kernel_rfl) (fun _ _ _ h => h) (Or.inl ⟨by rfl, ?_⟩) (by assumption) ?_
              rotate_left
              · intro w hSw; (try dsimp only at hSw); go_simp; first | done | with_reducible rfl
              try simp only [Act.put, List.setIfInBounds_toArray, List.set_cons_zero, List.set_cons_succ]
              refine wpAnyH_take (i := 7) (oi := ({ dst := some 115, op := Op.move (Operand.tmp 15), type := 22, pos := "law.go:121", after := _, guard := some (6, false) } : Oper)) (v := ?_) rfl (by kernel_rfl) (by kernel_rfl) (by kernel_rfl) (fun _ _ _ h => h) (Or.inl ⟨by rfl, ?_⟩) (by assumption) ?_
              rotate_left
              · intro w hSw; (try dsimp only at hSw); go_simp; first | done | with_reducible rfl
              try simp only [Act.put, List.setIfInBounds_toArray, List.set_cons_zero, List.set_cons_succ]
              refine wpAnyH_take (i := 8) (oi := ({ dst := some 116, op := Op.move (Operand.tmp 16), type := 22, pos := "law.go:121", after := _, guard := some (6, false) } : Oper)) (v := ?_) rfl (by kernel_rfl) (by kernel_rfl) (by kernel_rfl) (fun _ _ _ h => h) (Or.inl ⟨by rfl, ?_⟩) (by assumption) ?_
              rotate_left
              · intro w hSw; (try dsimp only at hSw); go_simp; first | done | with_reducible rfl
              try simp only [Act.put, List.setIfInBounds_toArray, List.set_cons_zero, List.set_cons_succ]
              refine wpAnyH_take (i := 10) (oi := ({ dst := some 118, op := Op.load 24 (Operand.tmp 6), type := 24, pos := "law.go:121", after := _, guard := some (6, false) } : Oper)) (v := ?_) rfl (by kernel_rfl) (by kernel_rfl) (by kernel_rfl) (fun _ _ _ h => h) (Or.inl ⟨by rfl, ?_⟩) (by assumption) ?_
              rotate_left
              · intro w hSw; (try dsimp only at hSw); go_simp; first | done | with_reducible rfl
              try simp only [Act.put, List.setIfInBounds_toArray, List.set_cons_zero, List.set_cons_succ]
              refine wpAnyH_take (i := 11) (oi := ({ dst := some 119, op := Op.load 24 (Operand.tmp 7), type := 24, pos := "law.go:121", after := _, guard := some (6, false) } : Oper)) (v := ?_) rfl (by kernel_rfl) (by kernel_rfl) (by kernel_rfl) (fun _ _ _ h => h) (Or.inl ⟨by rfl, ?_⟩) (by assumption) ?_
              rotate_left
              · intro w hSw; (try dsimp only at hSw); go_simp; first | done | with_reducible rfl
              try simp only [Act.put, List.setIfInBounds_toArray, List.set_cons_zero, List.set_cons_succ]
              refine wpAnyH_ready (rs := [9]) (by kernel_rfl) (by simp) ?_
              refine AllReadyH.cons (o := ({ dst := some 117, op := Op.call { callee := Callee.value (Operand.func 15), args := #[Operand.tmp 115, Operand.tmp 116], argTypes := #[22, 22] }, type := 4, pos := "law.go:121", after := _, guard := some (6, false) } : Oper)) rfl (fun K hK => ?_) AllReadyH.nil
              go_simp
              refine (sameB_no (Sl.drew HP19.out) (Sl.drew HU19.out) HNE.out).mono ?_
              rintro e w12 ⟨rfl, hb⟩
              replace hb : Below w10.heap.size w10 w12 := ⟨hb.os, hb.tape, hb.output, hb.size, hb.block⟩
              have HB20 := Lib.hid (below_next HB19.out hb HB19.out.size)
              have HK0_20 := Lib.hid (HK0_19.out.kept hb)
              have HK1_20 := Lib.hid (HK1_19.out.kept hb)
              have HK2_20 := Lib.hid (HK2_19.out.kept hb)
              have HK3_20 := Lib.hid (HK3_19.out.kept hb)
              have HM0_20 := Lib.hid (HM0_19.out.below hb)
              have HM1_20 := Lib.hid (HM1_19.out.below hb)
              have HM2_20 := Lib.hid (HM2_19.out.below hb)
              have HM3_20 := Lib.hid (HM3_19.out.below hb)
              clear hb HT
              have HT := Lib.hid (show _ ∧ _ ∧ _ ∧ _ ∧ _ ∧ _ ∧ _ ∧ _ from ⟨HK2_20.out.at_ (i := 0) rfl, HK2_20.out.at_ (i := 1) rfl, HK2_20.out.at_ (i := 2) rfl, HK2_20.out.at_ (i := 3) rfl, HK3_20.out.at_ (i := 0) rfl, HK3_20.out.at_ (i := 1) rfl, HK3_20.out.at_ (i := 2) rfl, HK3_20.out.at_ (i := 3) rfl⟩)
              go_wp2_with fail
              refine hK.out _ _ (HT.out) (fun hHeld => ?_)
              clear hK K
              try simp only [Act.put, List.setIfInBounds_toArray, List.set_cons_zero, List.set_cons_succ]
              refine wpAnyH_ready (rs := [12]) (by kernel_rfl) (by simp) ?_
              refine AllReadyH.cons (o := ({ dst := some 120, op := Op.call { callee := Callee.value (Operand.func 33), args := #[Operand.tmp 118, Operand.tmp 119], argTypes := #[24, 24] }, type := 4, pos := "law.go:121", after := _, guard := some (6, false) } : Oper)) rfl (fun K hK => ?_) AllReadyH.nil
              go_simp
              refine (sameEn_no x y A2 A3 c2 c3 _ _ _ HM2_20.out HM3_20.out HNK.out).mono ?_
              rintro e w13 ⟨rfl, hb⟩
              have HB21 := Lib.hid (below_next HB20.out hb HB20.out.size)
              have HK0_21 := Lib.hid (HK0_20.out.kept hb)
              have HK1_21 := Lib.hid (HK1_20.out.kept hb)
              have HK2_21 := Lib.hid (HK2_20.out.kept hb)
              have HK3_21 := Lib.hid (HK3_20.out.kept hb)
              have HM0_21 := Lib.hid (HM0_20.out.below hb)
              have HM1_21 := Lib.hid (HM1_20.out.below hb)
              have HM2_21 := Lib.hid (HM2_20.out.below hb)
              have HM3_21 := Lib.hid (HM3_20.out.below hb)
              clear hb HT
              have HT := Lib.hid (show _ ∧ _ ∧ _ ∧ _ ∧ _ ∧ _ ∧ _ ∧ _ from ⟨HK2_21.out.at_ (i := 0) rfl, HK2_21.out.at_ (i := 1) rfl, HK2_21.out.at_ (i := 2) rfl, HK2_21.out.at_ (i := 3) rfl, HK3_21.out.at_ (i := 0) rfl, HK3_21.out.at_ (i := 1) rfl, HK3_21.out.at_ (i := 2) rfl, HK3_21.out.at_ (i := 3) rfl⟩)
              go_wp2_with fail
              refine hK.out _ _ (HT.out) (fun hHeld => ?_)
              clear hK K
              try simp only [Act.put, List.setIfInBounds_toArray, List.set_cons_zero, List.set_cons_succ]
              refine wpAnyH_take (i := 13) (oi := ({ dst := some 121, op := Op.binOp BinOp.eql 4 (Operand.tmp 117) (Operand.tmp 120) 4, type := 4, pos := "law.go:121", after := _, guard := some (6, false) } : Oper)) (v := ?_) rfl (by kernel_rfl) (by kernel_rfl) (by kernel_rfl) (fun _ _ _ h => h) (Or.inl ⟨by rfl, ?_⟩) (by assumption) ?_
              rotate_left
              · intro w hSw; (try dsimp only at hSw); go_simp; first | done | with_reducible rfl
              try simp only [Act.put, List.setIfInBounds_toArray, List.set_cons_zero, List.set_cons_succ]
              refine wpAnyH_take (i := 14) (oi := ({ dst := some 122, op := Op.pick (Operand.tmp 114) (Operand.const (Value.bool true)) (Operand.tmp 121), type := 4, pos := "law.go:121", after := _, guard := none } : Oper)) (v := ?_) rfl (by kernel_rfl) (by kernel_rfl) (by kernel_rfl) (fun _ _ _ h => h) (Or.inl ⟨by rfl, ?_⟩) (by assumption) ?_
              rotate_left
              · intro w hSw; (try dsimp only at hSw); go_simp; first | done | with_reducible rfl
              try simp only [Act.put, List.setIfInBounds_toArray, List.set_cons_zero, List.set_cons_succ]
              refine wpAnyH_take (i := 15) (oi := ({ dst := some 8, op := Op.assign (Operand.tmp 122), type := 4, pos := "law.go:121", after := _, guard := none } : Oper)) (v := ?_) rfl (by kernel_rfl) (by kernel_rfl) (by kernel_rfl) (fun _ _ _ h => h) (Or.inl ⟨by rfl, ?_⟩) (by assumption) ?_
              rotate_left
              · intro w hSw; (try dsimp only at hSw); go_simp; first | done | with_reducible rfl
              try simp only [Act.put, List.setIfInBounds_toArray, List.set_cons_zero, List.set_cons_succ]
              refine wpAnyH_done (by kernel_rfl) ?_ _
              clear HT HNK HNE
              go_wp2_with fail
              go_ret
              exact ⟨rfl, HB21.out⟩
          · skip
            rw [he]
            clear he
            go_wp2_with fail
            refine (readEntryX_any A15 n15 c15 _ _ HP16.out (by have h1 := HP16.out.len; have h2 := HLN.out; omega)).mono ?_
            rintro e w9 ⟨hb, ⟨m5, I0, i0, hd, rfl, hr⟩ | ⟨hd, rfl⟩⟩
            rotate_left
            · rw [HD.out] at hd; cases hd
            rw [HD.out] at hd
            injection hd with hd
            subst hd
            have HB17 := Lib.hid (below_next HB16.out hb HB16.out.size)
            have HK0_17 := Lib.hid (HK0_16.out.kept hb)
            have HK1_17 := Lib.hid (HK1_16.out.kept hb)
            have HK2_17 := Lib.hid (HK2_16.out.kept hb)
            have HK3_17 := Lib.hid (HK3_16.out.kept hb)
            have HM0_17 := Lib.hid (HM0_16.out.below hb)
            have HM1_17 := Lib.hid (HM1_16.out.below hb)
            have HM2_17 := Lib.hid (HM2_16.out.below hb)
            have HM3_17 := Lib.hid (HM3_16.out.below hb)
            have HP17 := Lib.hid (HP16.out.below hb)
            have HR17 := Lib.hid (hr)
            clear hb hr
            have hal := (Below.refl w9.heap.size w9).alloc (Nat.le_refl _) (.cells #[.int .i64 x.c, .int .i64 x.s, .int .i64 x.t, .slice I0 x.dig.length i0] 24)
            have HB18 := Lib.hid (below_next HB17.out hal HB17.out.size)
            have HK0_18 := Lib.hid (HK0_17.out.kept hal)
            have HK1_18 := Lib.hid (HK1_17.out.kept hal)
            have HK2_18 := Lib.hid (HK2_17.out.kept hal)
            have HK3_18 := Lib.hid (HK3_17.out.kept hal)
            have HM0_18 := Lib.hid (HM0_17.out.below hal)
            have HM1_18 := Lib.hid (HM1_17.out.below hal)
            have HM2_18 := Lib.hid (HM2_17.out.below hal)
            have HM3_18 := Lib.hid (HM3_17.out.below hal)
            have HP18 := Lib.hid (HP17.out.below hal)
            have HR18 := Lib.hid (HR17.out.below hal)
            clear hal
            have k0 := HK2_18.out.at_ (i := 0) rfl
            have k1 := HK2_18.out.at_ (i := 1) rfl
            have k2 := HK2_18.out.at_ (i := 2) rfl
            have k3 := HK2_18.out.at_ (i := 3) rfl
            go_wp2_with fail
            clear k0 k1 k2 k3
            refine (sameEntry_self x I0 A2 i0 c2 _ _ _ HR18.out HM2_18.out).mono ?_
            rintro e w10 ⟨rfl, hb⟩
            have HB19 := Lib.hid (below_next HB18.out hb HB18.out.size)
            have HK0_19 := Lib.hid (HK0_18.out.kept hb)
            have HK1_19 := Lib.hid (HK1_18.out.kept hb)
            have HK2_19 := Lib.hid (HK2_18.out.kept hb)
            have HK3_19 := Lib.hid (HK3_18.out.kept hb)
            have HM0_19 := Lib.hid (HM0_18.out.below hb)
            have HM1_19 := Lib.hid (HM1_18.out.below hb)
            have HM2_19 := Lib.hid (HM2_18.out.below hb)
            have HM3_19 := Lib.hid (HM3_18.out.below hb)
            have HP19 := Lib.hid (HP18.out.below hb)
            clear hb
            go_upto_region 19 with fail
            have HT := Lib.hid (show _ ∧ _ ∧ _ ∧ _ ∧ _ ∧ _ ∧ _ ∧ _ from ⟨HK2_19.out.at_ (i := 0) rfl, HK2_19.out.at_ (i := 1) rfl, HK2_19.out.at_ (i := 2) rfl, HK2_19.out.at_ (i := 3) rfl, HK3_19.out.at_ (i := 0) rfl, HK3_19.out.at_ (i := 1) rfl, HK3_19.out.at_ (i := 2) rfl, HK3_19.out.at_ (i := 3) rfl⟩)
            refine wp_region_held_drew (S := fun w' => w'.cell? ⟨w.heap.size + 1 + 1, 0, none⟩ = some (.int .i64 x.c) ∧ w'.cell? ⟨w.heap.size + 1 + 1, 1, none⟩ = some (.int .i64 x.s) ∧ w'.cell? ⟨w.heap.size + 1 + 1, 2, none⟩ = some (.int .i64 x.t) ∧ w'.cell? ⟨w.heap.size + 1 + 1, 3, none⟩ = some (.slice A2 x.dig.length c2) ∧ w'.cell? ⟨w.heap.size + 1 + 1 + 1, 0, none⟩ = some (.int .i64 y.c) ∧ w'.cell? ⟨w.heap.size + 1 + 1 + 1, 1, none⟩ = some (.int .i64 y.s) ∧ w'.cell? ⟨w.heap.size + 1 + 1 + 1, 2, none⟩ = some (.int .i64 y.t) ∧ w'.cell? ⟨w.heap.size + 1 + 1 + 1, 3, none⟩ = some (.slice A3 y.dig.length c3)) (by kernel_rfl) (HT.out) (fun hHeld => ?_)
            refine wpAnyH_take (i := 0) (oi := ({ dst := some 108, op := Op.move (Operand.tmp 10), type := 32, pos := "law.go:121", after := _, guard := none } : Oper)) (v := ?_) rfl (by kernel_rfl) (by kernel_rfl) (by kernel_rfl) (fun _ _ _ h => h) (Or.inl ⟨by rfl, ?_⟩) (by assumption) ?_
            rotate_left
            · intro w hSw; (try dsimp only at hSw); go_simp; first | done | with_reducible rfl
            try simp only [Act.put, List.setIfInBounds_toArray, List.set_cons_zero, List.set_cons_succ]
            refine wpAnyH_take (i := 1) (oi := ({ dst := some 109, op := Op.binOp BinOp.neq 32 (Operand.tmp 108) (Operand.const (Value.int IntKind.i64 0)) 32, type := 4, pos := "law.go:121", after := _, guard := none } : Oper)) (v := ?_) rfl (by kernel_rfl) (by kernel_rfl) (by kernel_rfl) (fun _ _ _ h => h) (Or.inl ⟨by rfl, ?_⟩) (by assumption) ?_
            rotate_left
            · intro w hSw; (try dsimp only at hSw); go_simp; first | done | with_reducible rfl
            try simp only [Act.put, List.setIfInBounds_toArray, List.set_cons_zero, List.set_cons_succ]
            refine wpAnyH_take (i := 2) (oi := ({ dst := some 110, op := Op.move (Operand.tmp 109), type := 4, pos := "law.go:121", after := _, guard := none } : Oper)) (v := ?_) rfl (by kernel_rfl) (by kernel_rfl) (by kernel_rfl) (fun _ _ _ h => h) (Or.inl ⟨by rfl, ?_⟩) (by assumption) ?_
            rotate_left
            · intro w hSw; (try dsimp only at hSw); go_simp; first | done | with_reducible rfl
            try simp only [Act.put, List.setIfInBounds_toArray, List.set_cons_zero, List.set_cons_succ]
            refine wpAnyH_take (i := 3) (oi := ({ dst := some 111, op := Op.move (Operand.tmp 12), type := 32, pos := "law.go:121", after := _, guard := some (2, false) } : Oper)) (v := ?_) rfl (by kernel_rfl) (by kernel_rfl) (by kernel_rfl) (fun _ _ _ h => h) (Or.inl ⟨by rfl, ?_⟩) (by assumption) ?_
            rotate_left
            · intro w hSw; (try dsimp only at hSw); go_simp; first | done | with_reducible rfl
            try simp only [Act.put, List.setIfInBounds_toArray, List.set_cons_zero, List.set_cons_succ]
            refine wpAnyH_take (i := 4) (oi := ({ dst := some 112, op := Op.binOp BinOp.neq 32 (Operand.tmp 111) (Operand.const (Value.int IntKind.i64 0)) 32, type := 4, pos := "law.go:121", after := _, guard := some (2, false) } : Oper)) (v := ?_) rfl (by kernel_rfl) (by kernel_rfl) (by kernel_rfl) (fun _ _ _ h => h) (Or.inl ⟨by rfl, ?_⟩) (by assumption) ?_
            rotate_left
            · intro w hSw; (try dsimp only at hSw); go_simp; first | done | with_reducible rfl
            try simp only [Act.put, List.setIfInBounds_toArray, List.set_cons_zero, List.set_cons_succ]
            refine wpAnyH_take (i := 5) (oi := ({ dst := some 113, op := Op.pick (Operand.tmp 110) (Operand.const (Value.bool true)) (Operand.tmp 112), type := 4, pos := "law.go:121", after := _, guard := none } : Oper)) (v := ?_) rfl (by kernel_rfl) (by kernel_rfl) (by kernel_rfl) (fun _ _ _ h => h) (Or.inl ⟨by rfl, ?_⟩) (by assumption) ?_
            rotate_left
            · intro w hSw; (try dsimp only at hSw); go_simp; first | done | with_reducible rfl
            try simp only [Act.put, List.setIfInBounds_toArray, List.set_cons_zero, List.set_cons_succ]
            refine wpAnyH_take (i := 6) (oi := ({ dst := some 114, op := Op.move (Operand.tmp 113), type := 4, pos := "law.go:121", after := _, guard := none } : Oper)) (v := ?_) rfl (by kernel_rfl) (by kernel_rfl) (by kernel_rfl) (fun _ _ _ h => h) (Or.inl ⟨by rfl, ?_⟩) (by assumption) ?_
            rotate_left
            · intro w hSw; (try dsimp only at hSw); go_simp; first | done | with_reducible rfl
            try simp only [Act.put, List.setIfInBounds_toArray, List.set_cons_zero, List.set_cons_succ]
            refine wpAnyH_take (i := 7) (oi := ({ dst := some 115, op := Op.move (Operand.tmp 15), type := 22, pos := "law.go:121", after := _, guard := some (6, false) } : Oper)) (v := undef) rfl (by kernel_rfl) (by kernel_rfl) (by kernel_rfl) (fun _ _ _ h => h) (Or.inr ⟨by rfl, rfl⟩) (by assumption) ?_
            try simp only [Act.put, List.setIfInBounds_toArray, List.set_cons_zero, List.set_cons_succ]
            refine wpAnyH_take (i := 8) (oi := ({ dst := some 116, op := Op.move (Operand.tmp 16), type := 22, pos := "law.go:121", after := _, guard := some (6, false) } : Oper)) (v := undef) rfl (by kernel_rfl) (by kernel_rfl) (by kernel_rfl) (fun _ _ _ h => h) (Or.inr ⟨by rfl, rfl⟩) (by assumption) ?_
            try simp only [Act.put, List.setIfInBounds_toArray, List.set_cons_zero, List.set_cons_succ]
            refine wpAnyH_take (i := 9) (oi := ({ dst := some 117, op := Op.call { callee := Callee.value (Operand.func 15), args := #[Operand.tmp 115, Operand.tmp 116], argTypes := #[22, 22] }, type := 4, pos := "law.go:121", after := _, guard := some (6, false) } : Oper)) (v := undef) rfl (by kernel_rfl) (by kernel_rfl) (by kernel_rfl) (fun _ _ _ h => h) (Or.inr ⟨by rfl, rfl⟩) (by assumption) ?_
            try simp only [Act.put, List.setIfInBounds_toArray, List.set_cons_zero, List.set_cons_succ]
            refine wpAnyH_take (i := 10) (oi := ({ dst := some 118, op := Op.load 24 (Operand.tmp 6), type := 24, pos := "law.go:121", after := _, guard := some (6, false) } : Oper)) (v := undef) rfl (by kernel_rfl) (by kernel_rfl) (by kernel_rfl) (fun _ _ _ h => h) (Or.inr ⟨by rfl, rfl⟩) (by assumption) ?_
            try simp only [Act.put, List.setIfInBounds_toArray, List.set_cons_zero, List.set_cons_succ]
            refine wpAnyH_take (i := 11) (oi := ({ dst := some 119, op := Op.load 24 (Operand.tmp 7), type := 24, pos := "law.go:121", after := _, guard := some (6, false) } : Oper)) (v := undef) rfl (by kernel_rfl) (by kernel_rfl) (by kernel_rfl) (fun _ _ _ h => h) (Or.inr ⟨by rfl, rfl⟩) (by assumption) ?_
            try simp only [Act.put, List.setIfInBounds_toArray, List.set_cons_zero, List.set_cons_succ]
            refine wpAnyH_take (i := 12) (oi := ({ dst := some 120, op := Op.call { callee := Callee.value (Operand.func 33), args := #[Operand.tmp 118, Operand.tmp 119], argTypes := #[24, 24] }, type := 4, pos := "law.go:121", after := _, guard := some (6, false) } : Oper)) (v := undef) rfl (by kernel_rfl) (by kernel_rfl) (by kernel_rfl) (fun _ _ _ h => h) (Or.inr ⟨by rfl, rfl⟩) (by assumption) ?_
            try simp only [Act.put, List.setIfInBounds_toArray, List.set_cons_zero, List.set_cons_succ]
            refine wpAnyH_take (i := 13) (oi := ({ dst := some 121, op := Op.binOp BinOp.eql 4 (Operand.tmp 117) (Operand.tmp 120) 4, type := 4, pos := "law.go:121", after := _, guard := some (6, false) } : Oper)) (v := undef) rfl (by kernel_rfl) (by kernel_rfl) (by kernel_rfl) (fun _ _ _ h => h) (Or.inr ⟨by rfl, rfl⟩) (by assumption) ?_
            try simp only [Act.put, List.setIfInBounds_toArray, List.set_cons_zero, List.set_cons_succ]
            refine wpAnyH_take (i := 14) (oi := ({ dst := some 122, op := Op.pick (Operand.tmp 114) (Operand.const (Value.bool true)) (Operand.tmp 121), type := 4, pos := "law.go:121", after := _, guard := none } : Oper)) (v := ?_) rfl (by kernel_rfl) (by kernel_rfl) (by kernel_rfl) (fun _ _ _ h => h) (Or.inl ⟨by rfl, ?_⟩) (by assumption) ?_
            rotate_left
            · intro w hSw; (try dsimp only at hSw); go_simp; first | done | with_reducible rfl
            try simp only [Act.put, List.setIfInBounds_toArray, List.set_cons_zero, List.set_cons_succ]
            refine wpAnyH_take (i := 15) (oi := ({ dst := some 8, op := Op.assign (Operand.tmp 122), type := 4, pos := "law.go:121", after := _, guard := none } : Oper)) (v := ?_) rfl (by kernel_rfl) (by kernel_rfl) (by kernel_rfl) (fun _ _ _ h => h) (Or.inl ⟨by rfl, ?_⟩) (by assumption) ?_
            rotate_left
            · intro w hSw; (try dsimp only at hSw); go_simp; first | done | with_reducible rfl
            try simp only [Act.put, List.setIfInBounds_toArray, List.set_cons_zero, List.set_cons_succ]
            refine wpAnyH_done (by kernel_rfl) ?_ _
            have hb := below_drew (Below.refl w10.heap.size w10)
            have HB20 := Lib.hid (below_next HB19.out hb HB19.out.size)
            have HK0_20 := Lib.hid (HK0_19.out.kept hb)
            have HK1_20 := Lib.hid (HK1_19.out.kept hb)
            have HK2_20 := Lib.hid (HK2_19.out.kept hb)
            have HK3_20 := Lib.hid (HK3_19.out.kept hb)
            have HM0_20 := Lib.hid (HM0_19.out.below hb)
            have HM1_20 := Lib.hid (HM1_19.out.below hb)
            have HM2_20 := Lib.hid (HM2_19.out.below hb)
            have HM3_20 := Lib.hid (HM3_19.out.below hb)
            have HP20 := Lib.hid (HP19.out.below hb)
            clear hb
            clear HT
            go_wp2_with fail
            go_ret
            exact ⟨rfl, HB20.out⟩
        · skip
          rw [he]
          clear he
          go_upto_region 19 with fail
          have HT := Lib.hid (show _ ∧ _ ∧ _ ∧ _ ∧ _ ∧ _ ∧ _ ∧ _ from ⟨HK2_16.out.at_ (i := 0) rfl, HK2_16.out.at_ (i := 1) rfl, HK2_16.out.at_ (i := 2) rfl, HK2_16.out.at_ (i := 3) rfl, HK3_16.out.at_ (i := 0) rfl, HK3_16.out.at_ (i := 1) rfl, HK3_16.out.at_ (i := 2) rfl, HK3_16.out.at_ (i := 3) rfl⟩)
          refine wp_region_held_drew (S := fun w' => w'.cell? ⟨w.heap.size + 1 + 1, 0, none⟩ = some (.int .i64 x.c) ∧ w'.cell? ⟨w.heap.size + 1 + 1, 1, none⟩ = some (.int .i64 x.s) ∧ w'.cell? ⟨w.heap.size + 1 + 1, 2, none⟩ = some (.int .i64 x.t) ∧ w'.cell? ⟨w.heap.size + 1 + 1, 3, none⟩ = some (.slice A2 x.dig.length c2) ∧ w'.cell? ⟨w.heap.size + 1 + 1 + 1, 0, none⟩ = some (.int .i64 y.c) ∧ w'.cell? ⟨w.heap.size + 1 + 1 + 1, 1, none⟩ = some (.int .i64 y.s) ∧ w'.cell? ⟨w.heap.size + 1 + 1 + 1, 2, none⟩ = some (.int .i64 y.t) ∧ w'.cell? ⟨w.heap.size + 1 + 1 + 1, 3, none⟩ = some (.slice A3 y.dig.length c3)) (by kernel_rfl) (HT.out) (fun hHeld => ?_)
          refine wpAnyH_take (i := 0) (oi := ({ dst := some 108, op := Op.move (Operand.tmp 10), type := 32, pos := "law.go:121", after := _, guard := none } : Oper)) (v := ?_) rfl (by kernel_rfl) (by kernel_rfl) (by kernel_rfl) (fun _ _ _ h => h) (Or.inl ⟨by rfl, ?_⟩) (by assumption) ?_
          rotate_left
          · intro w hSw; (try dsimp only at hSw); go_simp; first | done | with_reducible rfl
          try simp only [Act.put, List.setIfInBounds_toArray, List.set_cons_zero, List.set_cons_succ]
          refine wpAnyH_take (i := 1) (oi := ({ dst := some 109, op := Op.binOp BinOp.neq 32 (Operand.tmp 108) (Operand.const (Value.int IntKind.i64 0)) 32, type := 4, pos := "law.go:121", after := _, guard := none } : Oper)) (v := ?_) rfl (by kernel_rfl) (by kernel_rfl) (by kernel_rfl) (fun _ _ _ h => h) (Or.inl ⟨by rfl, ?_⟩) (by assumption) ?_
          rotate_left
          · intro w hSw; (try dsimp only at hSw); go_simp; first | done | with_reducible rfl
          try simp only [Act.put, List.setIfInBounds_toArray, List.set_cons_zero, List.set_cons_succ]
          refine wpAnyH_take (i := 2) (oi := ({ dst := some 110, op := Op.move (Operand.tmp 109), type := 4, pos := "law.go:121", after := _, guard := none } : Oper)) (v := ?_) rfl (by kernel_rfl) (by kernel_rfl) (by kernel_rfl) (fun _ _ _ h => h) (Or.inl ⟨by rfl, ?_⟩) (by assumption) ?_
          rotate_left
          · intro w hSw; (try dsimp only at hSw); go_simp; first | done | with_reducible rfl
          try simp only [Act.put, List.setIfInBounds_toArray, List.set_cons_zero, List.set_cons_succ]
          refine wpAnyH_take (i := 3) (oi := ({ dst := some 111, op := Op.move (Operand.tmp 12), type := 32, pos := "law.go:121", after := _, guard := some (2, false) } : Oper)) (v := undef) rfl (by kernel_rfl) (by kernel_rfl) (by kernel_rfl) (fun _ _ _ h => h) (Or.inr ⟨by rfl, rfl⟩) (by assumption) ?_
          try simp only [Act.put, List.setIfInBounds_toArray, List.set_cons_zero, List.set_cons_succ]
          refine wpAnyH_take (i := 4) (oi := ({ dst := some 112, op := Op.binOp BinOp.neq 32 (Operand.tmp 111) (Operand.const (Value.int IntKind.i64 0)) 32, type := 4, pos := "law.go:121", after := _, guard := some (2, false) } : Oper)) (v := undef) rfl (by kernel_rfl) (by kernel_rfl) (by kernel_rfl) (fun _ _ _ h => h) (Or.inr ⟨by rfl, rfl⟩) (by assumption) ?_
          try simp only [Act.put, List.setIfInBounds_toArray, List.set_cons_zero, List.set_cons_succ]
          refine wpAnyH_take (i := 5) (oi := ({ dst := some 113, op := Op.pick (Operand.tmp 110) (Operand.const (Value.bool true)) (Operand.tmp 112), type := 4, pos := "law.go:121", after := _, guard := none } : Oper)) (v := ?_) rfl (by kernel_rfl) (by kernel_rfl) (by kernel_rfl) (fun _ _ _ h => h) (Or.inl ⟨by rfl, ?_⟩) (by assumption) ?_
          rotate_left
          · intro w hSw; (try dsimp only at hSw); go_simp; first | done | with_reducible rfl
          try simp only [Act.put, List.setIfInBounds_toArray, List.set_cons_zero, List.set_cons_succ]
          refine wpAnyH_take (i := 6) (oi := ({ dst := some 114, op := Op.move (Operand.tmp 113), type := 4, pos := "law.go:121", after := _, guard := none } : Oper)) (v := ?_) rfl (by kernel_rfl) (by kernel_rfl) (by kernel_rfl) (fun _ _ _ h => h) (Or.inl ⟨by rfl, ?_⟩) (by assumption) ?_
          rotate_left
          · intro w hSw; (try dsimp only at hSw); go_simp; first | done | with_reducible rfl
          try simp only [Act.put, List.setIfInBounds_toArray, List.set_cons_zero, List.set_cons_succ]
          refine wpAnyH_take (i := 7) (oi := ({ dst := some 115, op := Op.move (Operand.tmp 15), type := 22, pos := "law.go:121", after := _, guard := some (6, false) } : Oper)) (v := undef) rfl (by kernel_rfl) (by kernel_rfl) (by kernel_rfl) (fun _ _ _ h => h) (Or.inr ⟨by rfl, rfl⟩) (by assumption) ?_
          try simp only [Act.put, List.setIfInBounds_toArray, List.set_cons_zero, List.set_cons_succ]
          refine wpAnyH_take (i := 8) (oi := ({ dst := some 116, op := Op.move (Operand.tmp 16), type := 22, pos := "law.go:121", after := _, guard := some (6, false) } : Oper)) (v := undef) rfl (by kernel_rfl) (by kernel_rfl) (by kernel_rfl) (fun _ _ _ h => h) (Or.inr ⟨by rfl, rfl⟩) (by assumption) ?_
          try simp only [Act.put, List.setIfInBounds_toArray, List.set_cons_zero, List.set_cons_succ]
          refine wpAnyH_take (i := 9) (oi := ({ dst := some 117, op := Op.call { callee := Callee.value (Operand.func 15), args := #[Operand.tmp 115, Operand.tmp 116], argTypes := #[22, 22] }, type := 4, pos := "law.go:121", after := _, guard := some (6, false) } : Oper)) (v := undef) rfl (by kernel_rfl) (by kernel_rfl) (by kernel_rfl) (fun _ _ _ h => h) (Or.inr ⟨by rfl, rfl⟩) (by assumption) ?_
          try simp only [Act.put, List.setIfInBounds_toArray, List.set_cons_zero, List.set_cons_succ]
          refine wpAnyH_take (i := 10) (oi := ({ dst := some 118, op := Op.load 24 (Operand.tmp 6), type := 24, pos := "law.go:121", after := _, guard := some (6, false) } : Oper)) (v := undef) rfl (by kernel_rfl) (by kernel_rfl) (by kernel_rfl) (fun _ _ _ h => h) (Or.inr ⟨by rfl, rfl⟩) (by assumption) ?_
          try simp only [Act.put, List.setIfInBounds_toArray, List.set_cons_zero, List.set_cons_succ]
          refine wpAnyH_take (i := 11) (oi := ({ dst := some 119, op := Op.load 24 (Operand.tmp 7), type := 24, pos := "law.go:121", after := _, guard := some (6, false) } : Oper)) (v := undef) rfl (by kernel_rfl) (by kernel_rfl) (by kernel_rfl) (fun _ _ _ h => h) (Or.inr ⟨by rfl, rfl⟩) (by assumption) ?_
          try simp only [Act.put, List.setIfInBounds_toArray, List.set_cons_zero, List.set_cons_succ]
          refine wpAnyH_take (i := 12) (oi := ({ dst := some 120, op := Op.call { callee := Callee.value (Operand.func 33), args := #[Operand.tmp 118, Operand.tmp 119], argTypes := #[24, 24] }, type := 4, pos := "law.go:121", after := _, guard := some (6, false) } : Oper)) (v := undef) rfl (by kernel_rfl) (by kernel_rfl) (by kernel_rfl) (fun _ _ _ h => h) (Or.inr ⟨by rfl, rfl⟩) (by assumption) ?_
          try simp only [Act.put, List.setIfInBounds_toArray, List.set_cons_zero, List.set_cons_succ]
          refine wpAnyH_take (i := 13) (oi := ({ dst := some 121, op := Op.binOp BinOp.eql 4 (Operand.tmp 117) (Operand.tmp 120) 4, type := 4, pos := "law.go:121", after := _, guard := some (6, false) } : Oper)) (v := undef) rfl (by kernel_rfl) (by kernel_rfl) (by kernel_rfl) (fun _ _ _ h => h) (Or.inr ⟨by rfl, rfl⟩) (by assumption) ?_
          try simp only [Act.put, List.setIfInBounds_toArray, List.set_cons_zero, List.set_cons_succ]
          refine wpAnyH_take (i := 14) (oi := ({ dst := some 122, op := Op.pick (Operand.tmp 114) (Operand.const (Value.bool true)) (Operand.tmp 121), type := 4, pos := "law.go:121", after := _, guard := none } : Oper)) (v := ?_) rfl (by kernel_rfl) (by kernel_rfl) (by kernel_rfl) (fun _ _ _ h => h) (Or.inl ⟨by rfl, ?_⟩) (by assumption) ?_
          rotate_left
          · intro w hSw; (try dsimp only at hSw); go_simp; first | done | with_reducible rfl
          try simp only [Act.put, List.setIfInBounds_toArray, List.set_cons_zero, List.set_cons_succ]
          refine wpAnyH_take (i := 15) (oi := ({ dst := some 8, op := Op.assign (Operand.tmp 122), type := 4, pos := "law.go:121", after := _, guard := none } : Oper)) (v := ?_) rfl (by kernel_rfl) (by kernel_rfl) (by kernel_rfl) (fun _ _ _ h => h) (Or.inl ⟨by rfl, ?_⟩) (by assumption) ?_
          rotate_left
          · intro w hSw; (try dsimp only at hSw); go_simp; first | done | with_reducible rfl
          try simp only [Act.put, List.setIfInBounds_toArray, List.set_cons_zero, List.set_cons_succ]
          refine wpAnyH_done (by kernel_rfl) ?_ _
          have hb := below_drew (Below.refl w17.heap.size w17)
          have HB17 := Lib.hid (below_next HB16.out hb HB16.out.size)
          have HK0_17 := Lib.hid (HK0_16.out.kept hb)
          have HK1_17 := Lib.hid (HK1_16.out.kept hb)
          have HK2_17 := Lib.hid (HK2_16.out.kept hb)
          have HK3_17 := Lib.hid (HK3_16.out.kept hb)
          have HM0_17 := Lib.hid (HM0_16.out.below hb)
          have HM1_17 := Lib.hid (HM1_16.out.below hb)
          have HM2_17 := Lib.hid (HM2_16.out.below hb)
          have HM3_17 := Lib.hid (HM3_16.out.below hb)
          clear hb
          clear HT
          go_wp2_with fail
          go_ret
          exact ⟨rfl, HB17.out⟩
    · skip
      have hkb : (((ke : Nat) : Int) == 0) = false := by rcases hke with rfl | rfl <;> rfl
      rw [he]
      clear he
      go_wp2_with fail
      refine (readLetterX_any A5 n5 c5 _ _ HO7.out (by have h1 := HO7.out.len; have h2 := HLN.out; omega)).mono ?_
      rintro e w9 ⟨hb, ⟨m5, I0, i0, I1, i1, hd, rfl, hr⟩ | ⟨hd, rfl⟩⟩
      rotate_left
      · rw [HD.out] at hd; cases hd
      rw [HD.out] at hd
      injection hd with hd
      subst hd
      have HB8 := Lib.hid (below_next HB7.out hb HB7.out.size)
      have HK0_8 := Lib.hid (HK0_7.out.kept hb)
      have HK1_8 := Lib.hid (HK1_7.out.kept hb)
      have HK2_8 := Lib.hid (HK2_7.out.kept hb)
      have HK3_8 := Lib.hid (HK3_7.out.kept hb)
      have HM0_8 := Lib.hid (HM0_7.out.below hb)
      have HM1_8 := Lib.hid (HM1_7.out.below hb)
      have HM2_8 := Lib.hid (HM2_7.out.below hb)
      have HM3_8 := Lib.hid (HM3_7.out.below hb)
      have HO8 := Lib.hid (HO7.out.below hb)
      have HR8 := Lib.hid (hr)
      clear hb hr
      have hal := (Below.refl w9.heap.size w9).alloc (Nat.le_refl _) (.cells #[.int .i64 l.f1, .int .i64 l.f2, .int .i64 l.r, .slice I0 l.body.length i0, .slice I1 l.tags.length i1] 46)
      have HB9 := Lib.hid (below_next HB8.out hal HB8.out.size)
      have HK0_9 := Lib.hid (HK0_8.out.kept hal)
      have HK1_9 := Lib.hid (HK1_8.out.kept hal)
      have HK2_9 := Lib.hid (HK2_8.out.kept hal)
      have HK3_9 := Lib.hid (HK3_8.out.kept hal)
      have HM0_9 := Lib.hid (HM0_8.out.below hal)
      have HM1_9 := Lib.hid (HM1_8.out.below hal)
      have HM2_9 := Lib.hid (HM2_8.out.below hal)
      have HM3_9 := Lib.hid (HM3_8.out.below hal)
      have HO9 := Lib.hid (HO8.out.below hal)
      have HR9 := Lib.hid (HR8.out.below hal)
      clear hal
      have k0 := HK0_9.out.at_ (i := 0) rfl
      have k1 := HK0_9.out.at_ (i := 1) rfl
      have k2 := HK0_9.out.at_ (i := 2) rfl
      have k3 := HK0_9.out.at_ (i := 3) rfl
      have k4 := HK0_9.out.at_ (i := 4) rfl
      go_wp2_with fail
      clear k0 k1 k2 k3 k4
      refine (sameLetter_self' l I0 I1 A0 B0 i0 i1 c0 d0 _ _ _ HR9.out HM0_9.out).mono ?_
      rintro e w10 ⟨rfl, hb⟩
      have HB10 := Lib.hid (below_next HB9.out hb HB9.out.size)
      have HK0_10 := Lib.hid (HK0_9.out.kept hb)
      have HK1_10 := Lib.hid (HK1_9.out.kept hb)
      have HK2_10 := Lib.hid (HK2_9.out.kept hb)
      have HK3_10 := Lib.hid (HK3_9.out.kept hb)
      have HM0_10 := Lib.hid (HM0_9.out.below hb)
      have HM1_10 := Lib.hid (HM1_9.out.below hb)
      have HM2_10 := Lib.hid (HM2_9.out.below hb)
      have HM3_10 := Lib.hid (HM3_9.out.below hb)
      have HO10 := Lib.hid (HO9.out.below hb)
      clear hb
      go_upto_region 11 with fail
      have HT := Lib.hid (show _ ∧ _ ∧ _ ∧ _ ∧ _ ∧ _ ∧ _ ∧ _ ∧ _ ∧ _ from ⟨HK0_10.out.at_ (i := 0) rfl, HK0_10.out.at_ (i := 1) rfl, HK0_10.out.at_ (i := 2) rfl, HK0_10.out.at_ (i := 3) rfl, HK0_10.out.at_ (i := 4) rfl, HK1_10.out.at_ (i := 0) rfl, HK1_10.out.at_ (i := 1) rfl, HK1_10.out.at_ (i := 2) rfl, HK1_10.out.at_ (i := 3) rfl, HK1_10.out.at_ (i := 4) rfl⟩)
      refine wp_region_held_drew (S := fun w' => w'.cell? ⟨w.heap.size, 0, none⟩ = some (.int .i64 l.f1) ∧ w'.cell? ⟨w.heap.size, 1, none⟩ = some (.int .i64 l.f2) ∧ w'.cell? ⟨w.heap.size, 2, none⟩ = some (.int .i64 l.r) ∧ w'.cell? ⟨w.heap.size, 3, none⟩ = some (.slice A0 l.body.length c0) ∧ w'.cell? ⟨w.heap.size, 4, none⟩ = some (.slice B0 l.tags.length d0) ∧ w'.cell? ⟨w.heap.size + 1, 0, none⟩ = some (.int .i64 k.f1) ∧ w'.cell? ⟨w.heap.size + 1, 1, none⟩ = some (.int .i64 k.f2) ∧ w'.cell? ⟨w.heap.size + 1, 2, none⟩ = some (.int .i64 k.r) ∧ w'.cell? ⟨w.heap.size + 1, 3, none⟩ = some (.slice A1 k.body.length c1) ∧ w'.cell? ⟨w.heap.size + 1, 4, none⟩ = some (.slice B1 k.tags.length d1)) (by kernel_rfl) (HT.out) (fun hHeld => ?_)
      refine wpAnyH_take (i := 0) (oi := ({ dst := some 66, op := Op.move (Operand.tmp 10), type := 32, pos := "law.go:110", after := _, guard := none } : Oper)) (v := ?_) rfl (by kernel_rfl) (by kernel_rfl) (by kernel_rfl) (fun _ _ _ h => h) (Or.inl ⟨by rfl, ?_⟩) (by assumption) ?_
      rotate_left
      · intro w hSw; (try dsimp only at hSw); go_simp; first | done | with_reducible rfl
      try simp only [Act.put, List.setIfInBounds_toArray, List.set_cons_zero, List.set_cons_succ]
      refine wpAnyH_take (i := 1) (oi := ({ dst := some 67, op := Op.binOp BinOp.eql 32 (Operand.tmp 66) (Operand.const (Value.int IntKind.i64 0)) 32, type := 4, pos := "law.go:110", after := _, guard := none } : Oper)) (v := ?_) rfl (by kernel_rfl) (by kernel_rfl) (by kernel_rfl) (fun _ _ _ h => h) (Or.inl ⟨by rfl, ?_⟩) (by assumption) ?_
      rotate_left
      · intro w hSw; (try dsimp only at hSw); go_simp; first | done | with_reducible rfl
      try simp only [Act.put, List.setIfInBounds_toArray, List.set_cons_zero, List.set_cons_succ]
      refine wpAnyH_take (i := 2) (oi := ({ dst := some 68, op := Op.move (Operand.tmp 67), type := 4, pos := "law.go:110", after := _, guard := none } : Oper)) (v := ?_) rfl (by kernel_rfl) (by kernel_rfl) (by kernel_rfl) (fun _ _ _ h => h) (Or.inl ⟨by rfl, ?_⟩) (by assumption) ?_
      rotate_left
      · intro w hSw; (try dsimp only at hSw); go_simp; first | done | with_reducible rfl
      try simp only [Act.put, List.setIfInBounds_toArray, List.set_cons_zero, List.set_cons_succ]
      refine wpAnyH_take (i := 3) (oi := ({ dst := some 69, op := Op.move (Operand.tmp 12), type := 32, pos := "law.go:110", after := _, guard := some (2, true) } : Oper)) (v := ?_) rfl (by kernel_rfl) (by kernel_rfl) (by kernel_rfl) (fun _ _ _ h => h) (Or.inl ⟨by rfl, ?_⟩) (by assumption) ?_
      rotate_left
      · intro w hSw; (try dsimp only at hSw); go_simp; first | done | with_reducible rfl
      try simp only [Act.put, List.setIfInBounds_toArray, List.set_cons_zero, List.set_cons_succ]
      refine wpAnyH_take (i := 4) (oi := ({ dst := some 70, op := Op.binOp BinOp.eql 32 (Operand.tmp 69) (Operand.const (Value.int IntKind.i64 0)) 32, type := 4, pos := "law.go:110", after := _, guard := some (2, true) } : Oper)) (v := ?_) rfl (by kernel_rfl) (by kernel_rfl) (by kernel_rfl) (fun _ _ _ h => h) (Or.inl ⟨by rfl, ?_⟩) (by assumption) ?_
      rotate_left
      · intro w hSw; (try dsimp only at hSw); go_simp; first | done | with_reducible rfl
      try simp only [Act.put, List.setIfInBounds_toArray, List.set_cons_zero, List.set_cons_succ]
      refine wpAnyH_take (i := 5) (oi := ({ dst := some 71, op := Op.pick (Operand.tmp 68) (Operand.tmp 70) (Operand.const (Value.bool false)), type := 4, pos := "law.go:110", after := _, guard := none } : Oper)) (v := ?_) rfl (by kernel_rfl) (by kernel_rfl) (by kernel_rfl) (fun _ _ _ h => h) (Or.inl ⟨by rfl, ?_⟩) (by assumption) ?_
      rotate_left
      · intro w hSw; (try dsimp only at hSw); go_simp; first | done | with_reducible rfl
      try simp only [Act.put, List.setIfInBounds_toArray, List.set_cons_zero, List.set_cons_succ]
      refine wpAnyH_take (i := 6) (oi := ({ dst := some 72, op := Op.move (Operand.tmp 71), type := 4, pos := "law.go:110", after := _, guard := none } : Oper)) (v := ?_) rfl (by kernel_rfl) (by kernel_rfl) (by kernel_rfl) (fun _ _ _ h => h) (Or.inl ⟨by rfl, ?_⟩) (by assumption) ?_
      rotate_left
      · intro w hSw; (try dsimp only at hSw); go_simp; first | done | with_reducible rfl
      try simp only [Act.put, List.setIfInBounds_toArray, List.set_cons_zero, List.set_cons_succ]
      refine wpAnyH_take (i := 7) (oi := ({ dst := some 73, op := Op.move (Operand.tmp 9), type := 22, pos := "law.go:110", after := _, guard := some (6, true) } : Oper)) (v := undef) rfl (by kernel_rfl) (by kernel_rfl) (by kernel_rfl) (fun _ _ _ h => h) (Or.inr ⟨by rfl, rfl⟩) (by assumption) ?_
      try simp only [Act.put, List.setIfInBounds_toArray, List.set_cons_zero, List.set_cons_succ]
      refine wpAnyH_take (i := 8) (oi := ({ dst := some 74, op := Op.move (Operand.tmp 11), type := 22, pos := "law.go:110", after := _, guard := some (6, true) } : Oper)) (v := undef) rfl (by kernel_rfl) (by kernel_rfl) (by kernel_rfl) (fun _ _ _ h => h) (Or.inr ⟨by rfl, rfl⟩) (by assumption) ?_
      try simp only [Act.put, List.setIfInBounds_toArray, List.set_cons_zero, List.set_cons_succ]
      refine wpAnyH_take (i := 9) (oi := ({ dst := some 75, op := Op.call { callee := Callee.value (Operand.func 15), args := #[Operand.tmp 73, Operand.tmp 74], argTypes := #[22, 22] }, type := 4, pos := "law.go:110", after := _, guard := some (6, true) } : Oper)) (v := undef) rfl (by kernel_rfl) (by kernel_rfl) (by kernel_rfl) (fun _ _ _ h => h) (Or.inr ⟨by rfl, rfl⟩) (by assumption) ?_
      try simp only [Act.put, List.setIfInBounds_toArray, List.set_cons_zero, List.set_cons_succ]
      refine wpAnyH_take (i := 10) (oi := ({ dst := some 76, op := Op.load 46 (Operand.tmp 4), type := 46, pos := "law.go:110", after := _, guard := some (6, true) } : Oper)) (v := undef) rfl (by kernel_rfl) (by kernel_rfl) (by kernel_rfl) (fun _ _ _ h => h) (Or.inr ⟨by rfl, rfl⟩) (by assumption) ?_
      try simp only [Act.put, List.setIfInBounds_toArray, List.set_cons_zero, List.set_cons_succ]
      refine wpAnyH_take (i := 11) (oi := ({ dst := some 77, op := Op.load 46 (Operand.tmp 5), type := 46, pos := "law.go:110", after := _, guard := some (6, true) } : Oper)) (v := undef) rfl (by kernel_rfl) (by kernel_rfl) (by kernel_rfl) (fun _ _ _ h => h) (Or.inr ⟨by rfl, rfl⟩) (by assumption) ?_
      try simp only [Act.put, List.setIfInBounds_toArray, List.set_cons_zero, List.set_cons_succ]
      refine wpAnyH_take (i := 12) (oi := ({ dst := some 78, op := Op.call { callee := Callee.value (Operand.func 32), args := #[Operand.tmp 76, Operand.tmp 77], argTypes := #[46, 46] }, type := 4, pos := "law.go:110", after := _, guard := some (6, true) } : Oper)) (v := undef) rfl (by kernel_rfl) (by kernel_rfl) (by kernel_rfl) (fun _ _ _ h => h) (Or.inr ⟨by rfl, rfl⟩) (by assumption) ?_
      try simp only [Act.put, List.setIfInBounds_toArray, List.set_cons_zero, List.set_cons_succ]
      refine wpAnyH_take (i := 13) (oi := ({ dst := some 79, op := Op.binOp BinOp.neq 4 (Operand.tmp 75) (Operand.tmp 78) 4, type := 4, pos := "law.go:110", after := _, guard := some (6, true) } : Oper)) (v := undef) rfl (by kernel_rfl) (by kernel_rfl) (by kernel_rfl) (fun _ _ _ h => h) (Or.inr ⟨by rfl, rfl⟩) (by assumption) ?_
      try simp only [Act.put, List.setIfInBounds_toArray, List.set_cons_zero, List.set_cons_succ]
      refine wpAnyH_take (i := 14) (oi := ({ dst := some 80, op := Op.pick (Operand.tmp 72) (Operand.tmp 79) (Operand.const (Value.bool false)), type := 4, pos := "law.go:110", after := _, guard := none } : Oper)) (v := ?_) rfl (by kernel_rfl) (by kernel_rfl) (by kernel_rfl) (fun _ _ _ h => h) (Or.inl ⟨by rfl, ?_⟩) (by assumption) ?_
      rotate_left
      · intro w hSw; (try dsimp only at hSw); go_simp; first | done | with_reducible rfl
      try simp only [Act.put, List.setIfInBounds_toArray, List.set_cons_zero, List.set_cons_succ]
      refine wpAnyH_done (by kernel_rfl) ?_ _
      have hb := below_drew (Below.refl w10.heap.size w10)
      have HB11 := Lib.hid (below_next HB10.out hb HB10.out.size)
      have HK0_11 := Lib.hid (HK0_10.out.kept hb)
      have HK1_11 := Lib.hid (HK1_10.out.kept hb)
      have HK2_11 := Lib.hid (HK2_10.out.kept hb)
      have HK3_11 := Lib.hid (HK3_10.out.kept hb)
      have HM0_11 := Lib.hid (HM0_10.out.below hb)
      have HM1_11 := Lib.hid (HM1_10.out.below hb)
      have HM2_11 := Lib.hid (HM2_10.out.below hb)
      have HM3_11 := Lib.hid (HM3_10.out.below hb)
      have HO11 := Lib.hid (HO10.out.below hb)
      clear hb
      clear HT hkb
      have k0 := HK2_11.out.at_ (i := 0) rfl
      have k1 := HK2_11.out.at_ (i := 1) rfl
      have k2 := HK2_11.out.at_ (i := 2) rfl
      have k3 := HK2_11.out.at_ (i := 3) rfl
      go_wp2_with fail
      clear k0 k1 k2 k3
      try clear HD HLN HOK HPK
      try clear hke
      refine (copyEntry_any x A2 c2 _ _ HM2_11.out G2.out).mono ?_
      rintro e w14 ⟨hb, E0, f0, rfl, hr⟩
      have HB12 := Lib.hid (below_next HB11.out hb HB11.out.size)
      have HK0_12 := Lib.hid (HK0_11.out.kept hb)
      have HK1_12 := Lib.hid (HK1_11.out.kept hb)
      have HK2_12 := Lib.hid (HK2_11.out.kept hb)
      have HK3_12 := Lib.hid (HK3_11.out.kept hb)
      have HM0_12 := Lib.hid (HM0_11.out.below hb)
      have HM1_12 := Lib.hid (HM1_11.out.below hb)
      have HM2_12 := Lib.hid (HM2_11.out.below hb)
      have HM3_12 := Lib.hid (HM3_11.out.below hb)
      have HR12 := Lib.hid (hr)
      clear hb hr
      go_wp2_with fail
      refine (packEntryX_any x E0 f0 _ HR12.out.all).mono ?_
      rintro e w15 ⟨hb, A15, n15, c15, rfl, ho⟩
      have HB13 := Lib.hid (below_next HB12.out hb HB12.out.size)
      have HK0_13 := Lib.hid (HK0_12.out.kept hb)
      have HK1_13 := Lib.hid (HK1_12.out.kept hb)
      have HK2_13 := Lib.hid (HK2_12.out.kept hb)
      have HK3_13 := Lib.hid (HK3_12.out.kept hb)
      have HM0_13 := Lib.hid (HM0_12.out.below hb)
      have HM1_13 := Lib.hid (HM1_12.out.below hb)
      have HM2_13 := Lib.hid (HM2_12.out.below hb)
      have HM3_13 := Lib.hid (HM3_12.out.below hb)
      have HP13 := Lib.hid (Sl.own ho)
      clear hb ho
      have k0 := HK3_13.out.at_ (i := 0) rfl
      have k1 := HK3_13.out.at_ (i := 1) rfl
      have k2 := HK3_13.out.at_ (i := 2) rfl
      have k3 := HK3_13.out.at_ (i := 3) rfl
      go_wp2_with fail
      clear k0 k1 k2 k3
      refine (copyEntry_any y A3 c3 _ _ HM3_13.out G3.out).mono ?_
      rintro e w16 ⟨hb, F0, j0, rfl, hr⟩
      have HB14 := Lib.hid (below_next HB13.out hb HB13.out.size)
      have HK0_14 := Lib.hid (HK0_13.out.kept hb)
      have HK1_14 := Lib.hid (HK1_13.out.kept hb)
      have HK2_14 := Lib.hid (HK2_13.out.kept hb)
      have HK3_14 := Lib.hid (HK3_13.out.kept hb)
      have HM0_14 := Lib.hid (HM0_13.out.below hb)
      have HM1_14 := Lib.hid (HM1_13.out.below hb)
      have HM2_14 := Lib.hid (HM2_13.out.below hb)
      have HM3_14 := Lib.hid (HM3_13.out.below hb)
      have HP14 := Lib.hid (HP13.out.below hb)
      have HR14 := Lib.hid (hr)
      clear hb hr
      go_wp2_with fail
      refine (packEntryX_any y F0 j0 _ HR14.out.all).mono ?_
      rintro e w17 ⟨hb, A17, n17, c17, rfl, ho⟩
      have HB15 := Lib.hid (below_next HB14.out hb HB14.out.size)
      have HK0_15 := Lib.hid (HK0_14.out.kept hb)
      have HK1_15 := Lib.hid (HK1_14.out.kept hb)
      have HK2_15 := Lib.hid (HK2_14.out.kept hb)
      have HK3_15 := Lib.hid (HK3_14.out.kept hb)
      have HM0_15 := Lib.hid (HM0_14.out.below hb)
      have HM1_15 := Lib.hid (HM1_14.out.below hb)
      have HM2_15 := Lib.hid (HM2_14.out.below hb)
      have HM3_15 := Lib.hid (HM3_14.out.below hb)
      have HP15 := Lib.hid (HP14.out.below hb)
      have HU15 := Lib.hid (Sl.own ho)
      clear hb ho
      rcases en_cases x with ⟨a, he, hok, hp⟩ | he
      · skip
        have HD := Lib.hid (decen_pack hok hp)
        have HLN := Lib.hid (show a.length ≤ 4294967296 by rw [← hp]; exact en_len hok)
        have HOK := Lib.hid hok
        have HPK := Lib.hid hp
        have hoa : Sl w17 A15 n15 c15 a := by have := HP15.out; rw [he] at this; exact this
        rw [he]
        clear he hok hp
        have HP15 := Lib.hid (hoa)
        clear hoa
        rcases en_cases y with ⟨b, he, hok, hp⟩ | he
        · skip
          have hob : Sl w17 A17 n17 c17 b := by have := HU15.out; rw [he] at this; exact this
          rw [he]
          have HU15 := Lib.hid (hob)
          by_cases hlk : x = y
          · skip
            have HNK := Lib.hid hlk
            obtain rfl : b = a := by have h1 := HPK.out; rw [hlk, hp] at h1; exact h1
            clear he hok hp hob hlk
            go_wp2_with fail
            refine (readEntryX_any A15 n15 c15 _ _ HP15.out (by have h1 := HP15.out.len; have h2 := HLN.out; omega)).mono ?_
            rintro e w9 ⟨hb, ⟨m5, I0, i0, hd, rfl, hr⟩ | ⟨hd, rfl⟩⟩
            rotate_left
            · rw [HD.out] at hd; cases hd
            rw [HD.out] at hd
            injection hd with hd
            subst hd
            have HB16 := Lib.hid (below_next HB15.out hb HB15.out.size)
            have HK0_16 := Lib.hid (HK0_15.out.kept hb)
            have HK1_16 := Lib.hid (HK1_15.out.kept hb)
            have HK2_16 := Lib.hid (HK2_15.out.kept hb)
            have HK3_16 := Lib.hid (HK3_15.out.kept hb)
            have HM0_16 := Lib.hid (HM0_15.out.below hb)
            have HM1_16 := Lib.hid (HM1_15.out.below hb)
            have HM2_16 := Lib.hid (HM2_15.out.below hb)
            have HM3_16 := Lib.hid (HM3_15.out.below hb)
            have HP16 := Lib.hid (HP15.out.below hb)
            have HU16 := Lib.hid (HU15.out.below hb)
            have HR16 := Lib.hid (hr)
            clear hb hr
            have hal := (Below.refl w9.heap.size w9).alloc (Nat.le_refl _) (.cells #[.int .i64 x.c, .int .i64 x.s, .int .i64 x.t, .slice I0 x.dig.length i0] 24)
            have HB17 := Lib.hid (below_next HB16.out hal HB16.out.size)
            have HK0_17 := Lib.hid (HK0_16.out.kept hal)
            have HK1_17 := Lib.hid (HK1_16.out.kept hal)
            have HK2_17 := Lib.hid (HK2_16.out.kept hal)
            have HK3_17 := Lib.hid (HK3_16.out.kept hal)
            have HM0_17 := Lib.hid (HM0_16.out.below hal)
            have HM1_17 := Lib.hid (HM1_16.out.below hal)
            have HM2_17 := Lib.hid (HM2_16.out.below hal)
            have HM3_17 := Lib.hid (HM3_16.out.below hal)
            have HP17 := Lib.hid (HP16.out.below hal)
            have HU17 := Lib.hid (HU16.out.below hal)
            have HR17 := Lib.hid (HR16.out.below hal)
            clear hal
            have k0 := HK2_17.out.at_ (i := 0) rfl
            have k1 := HK2_17.out.at_ (i := 1) rfl
            have k2 := HK2_17.out.at_ (i := 2) rfl
            have k3 := HK2_17.out.at_ (i := 3) rfl
            go_wp2_with fail
            clear k0 k1 k2 k3
            refine (sameEntry_self x I0 A2 i0 c2 _ _ _ HR17.out HM2_17.out).mono ?_
            rintro e w10 ⟨rfl, hb⟩
            have HB18 := Lib.hid (below_next HB17.out hb HB17.out.size)
            have HK0_18 := Lib.hid (HK0_17.out.kept hb)
            have HK1_18 := Lib.hid (HK1_17.out.kept hb)
            have HK2_18 := Lib.hid (HK2_17.out.kept hb)
            have HK3_18 := Lib.hid (HK3_17.out.kept hb)
            have HM0_18 := Lib.hid (HM0_17.out.below hb)
            have HM1_18 := Lib.hid (HM1_17.out.below hb)
            have HM2_18 := Lib.hid (HM2_17.out.below hb)
            have HM3_18 := Lib.hid (HM3_17.out.below hb)
            have HP18 := Lib.hid (HP17.out.below hb)
            have HU18 := Lib.hid (HU17.out.below hb)
            clear hb
            go_upto_region 19 with fail
            have HT := Lib.hid (show _ ∧ _ ∧ _ ∧ _ ∧ _ ∧ _ ∧ _ ∧ _ from ⟨HK2_18.out.at_ (i := 0) rfl, HK2_18.out.at_ (i := 1) rfl, HK2_18.out.at_ (i := 2) rfl, HK2_18.out.at_ (i := 3) rfl, HK3_18.out.at_ (i := 0) rfl, HK3_18.out.at_ (i := 1) rfl, HK3_18.out.at_ (i := 2) rfl, HK3_18.out.at_ (i := 3) rfl⟩)
            refine wp_region_held_drew (S := fun w' => w'.cell? ⟨w.heap.size + 1 + 1, 0, none⟩ = some (.int .i64 x.c) ∧ w'.cell? ⟨w.heap.size + 1 + 1, 1, none⟩ = some (.int .i64 x.s) ∧ w'.cell? ⟨w.heap.size + 1 + 1, 2, none⟩ = some (.int .i64 x.t) ∧ w'.cell? ⟨w.heap.size + 1 + 1, 3, none⟩ = some (.slice A2 x.dig.length c2) ∧ w'.cell? ⟨w.heap.size + 1 + 1 + 1, 0, none⟩ = some (.int .i64 y.c) ∧ w'.cell? ⟨w.heap.size + 1 + 1 + 1, 1, none⟩ = some (.int .i64 y.s) ∧ w'.cell? ⟨w.heap.size + 1 + 1 + 1, 2, none⟩ = some (.int .i64 y.t) ∧ w'.cell? ⟨w.heap.size + 1 + 1 + 1, 3, none⟩ = some (.slice A3 y.dig.length c3)) (by kernel_rfl) (HT.out) (fun hHeld => ?_)
            refine wpAnyH_take (i := 0) (oi := ({ dst := some 108, op := Op.move (Operand.tmp 10), type := 32, pos := "law.go:121", after := _, guard := none } : Oper)) (v := ?_) rfl (by kernel_rfl) (by kernel_rfl) (by kernel_rfl) (fun _ _ _ h => h) (Or.inl ⟨by rfl, ?_⟩) (by assumption) ?_
            rotate_left
            · intro w hSw; (try dsimp only at hSw); go_simp; first | done | with_reducible rfl
            try simp only [Act.put, List.setIfInBounds_toArray, List.set_cons_zero, List.set_cons_succ]
            refine wpAnyH_take (i := 1) (oi := ({ dst := some 109, op := Op.binOp BinOp.neq 32 (Operand.tmp 108) (Operand.const (Value.int IntKind.i64 0)) 32, type := 4, pos := "law.go:121", after := _, guard := none } : Oper)) (v := ?_) rfl (by kernel_rfl) (by kernel_rfl) (by kernel_rfl) (fun _ _ _ h => h) (Or.inl ⟨by rfl, ?_⟩) (by assumption) ?_
            rotate_left
            · intro w hSw; (try dsimp only at hSw); go_simp; first | done | with_reducible rfl
            try simp only [Act.put, List.setIfInBounds_toArray, List.set_cons_zero, List.set_cons_succ]
            refine wpAnyH_take (i := 2) (oi := ({ dst := some 110, op := Op.move (Operand.tmp 109), type := 4, pos := "law.go:121", after := _, guard := none } : Oper)) (v := ?_) rfl (by kernel_rfl) (by kernel_rfl) (by kernel_rfl) (fun _ _ _ h => h) (Or.inl ⟨by rfl, ?_⟩) (by assumption) ?_
            rotate_left
            · intro w hSw; (try dsimp only at hSw); go_simp; first | done | with_reducible rfl
            try simp only [Act.put, List.setIfInBounds_toArray, List.set_cons_zero, List.set_cons_succ]
            refine wpAnyH_take (i := 3) (oi := ({ dst := some 111, op := Op.move (Operand.tmp 12), type := 32, pos := "law.go:121", after := _, guard := some (2, false) } : Oper)) (v := ?_) rfl (by kernel_rfl) (by kernel_rfl) (by kernel_rfl) (fun _ _ _ h => h) (Or.inl ⟨by rfl, ?_⟩) (by assumption) ?_
            rotate_left
            · intro w hSw; (try dsimp only at hSw); go_simp; first | done | with_reducible rfl
            try simp only [Act.put, List.setIfInBounds_toArray, List.set_cons_zero, List.set_cons_succ]
            refine wpAnyH_take (i := 4) (oi := ({ dst := some 112, op := Op.binOp BinOp.neq 32 (Operand.tmp 111) (Operand.const (Value.int IntKind.i64 0)) 32, type := 4, pos := "law.go:121", after := _, guard := some (2, false) } : Oper)) (v := ?_) rfl (by kernel_rfl) (by kernel_rfl) (by kernel_rfl) (fun _ _ _ h => h) (Or.inl ⟨by rfl, ?_⟩) (by assumption) ?_
            rotate_left
            · intro w hSw; (try dsimp only at hSw); go_simp; first | done | with_reducible rfl
            try simp only [Act.put, List.setIfInBounds_toArray, List.set_cons_zero, List.set_cons_succ]
            refine wpAnyH_take (i := 5) (oi := ({ dst := some 113, op := Op.pick (Operand.tmp 110) (Operand.const (Value.bool true)) (Operand.tmp 112), type := 4, pos := "law.go:121", after := _, guard := none } : Oper)) (v := ?_) rfl (by kernel_rfl) (by kernel_rfl) (by kernel_rfl) (fun _ _ _ h => h) (Or.inl ⟨by rfl, ?_⟩) (by assumption) ?_
            rotate_left
            · intro w hSw; (try dsimp only at hSw); go_simp; first | done | with_reducible rfl
            try simp only [Act.put, List.setIfInBounds_toArray, List.set_cons_zero, List.set_cons_succ]
            refine wpAnyH_take (i := 6) (oi := ({ dst := some 114, op := Op.move (Operand.tmp 113), type := 4, pos := "law.go:121", after := _, guard := none } : Oper)) (v := ?_) rfl (by kernel_rfl) (by kernel_rfl) (by kernel_rfl) (fun _ _ _ h => h) (Or.inl ⟨by rfl, ?_⟩) (by assumption) ?_
            rotate_left
            · intro w hSw; (try dsimp only at hSw); go_simp; first | done | with_reducible rfl
            try simp only [Act.put, List.setIfInBounds_toArray, List.set_cons_zero, List.set_cons_succ]
            refine wpAnyH_take (i := 7) (oi := ({ dst := some 115, op := Op.move (Operand.tmp 15), type := 22, pos := "law.go:121", after := _, guard := some (6, false) } : Oper)) (v := ?_) rfl (by kernel_rfl) (by kernel_rfl) (by kernel_rfl) (fun _ _ _ h => h) (Or.inl ⟨by rfl, ?_⟩) (by assumption) ?_
            rotate_left
            · intro w hSw; (try dsimp only at hSw); go_simp; first | done | with_reducible rfl
            try simp only [Act.put, List.setIfInBounds_toArray, List.set_cons_zero, List.set_cons_succ]
            refine wpAnyH_take (i := 8) (oi := ({ dst := some 116, op := Op.move (Operand.tmp 16), type := 22, pos := "law.go:121", after := _, guard := some (6, false) } : Oper)) (v := ?_) rfl (by kernel_rfl) (by kernel_rfl) (by kernel_rfl) (fun _ _ _ h => h) (Or.inl ⟨by rfl, ?_⟩) (by assumption) ?_
            rotate_left
            · intro w hSw; (try dsimp only at hSw); go_simp; first | done | with_reducible rfl
            try simp only [Act.put, List.setIfInBounds_toArray, List.set_cons_zero, List.set_cons_succ]
            refine wpAnyH_take (i := 10) (oi := ({ dst := some 118, op := Op.load 24 (Operand.tmp 6), type := 24, pos := "law.go:121", after := _, guard := some (6, false) } : Oper)) (v := ?_) rfl (by kernel_rfl) (by kernel_rfl) (by kernel_rfl) (fun _ _ _ h => h) (Or.inl ⟨by rfl, ?_⟩) (by assumption) ?_
            rotate_left
            · intro w hSw; (try dsimp only at hSw); go_simp; first | done | with_reducible rfl
            try simp only [Act.put, List.setIfInBounds_toArray, List.set_cons_zero, List.set_cons_succ]
            refine wpAnyH_take (i := 11) (oi := ({ dst := some 119, op := Op.load 24 (Operand.tmp 7), type := 24, pos := "law.go:121", after := _, guard := some (6, false) } : Oper)) (v := ?_) rfl (by kernel_rfl) (by kernel_rfl) (by kernel_rfl) (fun _ _ _ h => h) (Or.inl ⟨by rfl, ?_⟩) (by assumption) ?_
            rotate_left
            · intro w hSw; (try dsimp only at hSw); go_simp; first | done | with_reducible rfl
            try simp only [Act.put, List.setIfInBounds_toArray, List.set_cons_zero, List.set_cons_succ]
            refine wpAnyH_ready (rs := [9]) (by kernel_rfl) (by simp) ?_
            refine AllReadyH.cons (o := ({ dst := some 117, op := Op.call { callee := Callee.value (Operand.func 15), args := #[Operand.tmp 115, Operand.tmp 116], argTypes := #[22, 22] }, type := 4, pos := "law.go:121", after := _, guard := some (6, false) } : Oper)) rfl (fun K hK => ?_) AllReadyH.nil
            go_simp
            refine (sameB_two (Sl.drew HP18.out) (Sl.drew HU18.out)).mono ?_
            rintro e w12 ⟨rfl, hb⟩
            replace hb : Below w10.heap.size w10 w12 := ⟨hb.os, hb.tape, hb.output, hb.size, hb.block⟩
            have HB19 := Lib.hid (below_next HB18.out hb HB18.out.size)
            have HK0_19 := Lib.hid (HK0_18.out.kept hb)
            have HK1_19 := Lib.hid (HK1_18.out.kept hb)
            have HK2_19 := Lib.hid (HK2_18.out.kept hb)
            have HK3_19 := Lib.hid (HK3_18.out.kept hb)
            have HM0_19 := Lib.hid (HM0_18.out.below hb)
            have HM1_19 := Lib.hid (HM1_18.out.below hb)
            have HM2_19 := Lib.hid (HM2_18.out.below hb)
            have HM3_19 := Lib.hid (HM3_18.out.below hb)
            clear hb HT
            have HT := Lib.hid (show _ ∧ _ ∧ _ ∧ _ ∧ _ ∧ _ ∧ _ ∧ _ from ⟨HK2_19.out.at_ (i := 0) rfl, HK2_19.out.at_ (i := 1) rfl, HK2_19.out.at_ (i := 2) rfl, HK2_19.out.at_ (i := 3) rfl, HK3_19.out.at_ (i := 0) rfl, HK3_19.out.at_ (i := 1) rfl, HK3_19.out.at_ (i := 2) rfl, HK3_19.out.at_ (i := 3) rfl⟩)
            go_wp2_with fail
            refine hK.out _ _ (HT.out) (fun hHeld => ?_)
            clear hK K
            try simp only [Act.put, List.setIfInBounds_toArray, List.set_cons_zero, List.set_cons_succ]
            refine wpAnyH_ready (rs := [12]) (by kernel_rfl) (by simp) ?_
            refine AllReadyH.cons (o := ({ dst := some 120, op := Op.call { callee := Callee.value (Operand.func 33), args := #[Operand.tmp 118, Operand.tmp 119], argTypes := #[24, 24] }, type := 4, pos := "law.go:121", after := _, guard := some (6, false) } : Oper)) rfl (fun K hK => ?_) AllReadyH.nil
            go_simp
            refine (sameEn_yes x y A2 A3 c2 c3 _ _ _ HM2_19.out HM3_19.out HNK.out).mono ?_
            rintro e w13 ⟨rfl, hb⟩
            have HB20 := Lib.hid (below_next HB19.out hb HB19.out.size)
            have HK0_20 := Lib.hid (HK0_19.out.kept hb)
            have HK1_20 := Lib.hid (HK1_19.out.kept hb)
            have HK2_20 := Lib.hid (HK2_19.out.kept hb)
            have HK3_20 := Lib.hid (HK3_19.out.kept hb)
            have HM0_20 := Lib.hid (HM0_19.out.below hb)
            have HM1_20 := Lib.hid (HM1_19.out.below hb)
            have HM2_20 := Lib.hid (HM2_19.out.below hb)
            have HM3_20 := Lib.hid (HM3_19.out.below hb)
            clear hb HT
            have HT := Lib.hid (show _ ∧ _ ∧ _ ∧ _ ∧ _ ∧ _ ∧ _ ∧ _ from ⟨HK2_20.out.at_ (i := 0) rfl, HK2_20.out.at_ (i := 1) rfl, HK2_20.out.at_ (i := 2) rfl, HK2_20.out.at_ (i := 3) rfl, HK3_20.out.at_ (i := 0) rfl, HK3_20.out.at_ (i := 1) rfl, HK3_20.out.at_ (i := 2) rfl, HK3_20.out.at_ (i := 3) rfl⟩)
            go_wp2_with fail
            refine hK.out _ _ (HT.out) (fun hHeld => ?_)
            clear hK K
            try simp only [Act.put, List.setIfInBounds_toArray, List.set_cons_zero, List.set_cons_succ]
            refine wpAnyH_take (i := 13) (oi := ({ dst := some 121, op := Op.binOp BinOp.eql 4 (Operand.tmp 117) (Operand.tmp 120) 4, type := 4, pos := "law.go:121", after := _, guard := some (6, false) } : Oper)) (v := ?_) rfl (by kernel_rfl) (by kernel_rfl) (by kernel_rfl) (fun _ _ _ h => h) (Or.inl ⟨by rfl, ?_⟩) (by assumption) ?_
            rotate_left
            · intro w hSw; (try dsimp only at hSw); go_simp; first | done | with_reducible rfl
            try simp only [Act.put, List.setIfInBounds_toArray, List.set_cons_zero, List.set_cons_succ]
            refine wpAnyH_take (i := 14) (oi := ({ dst := some 122, op := Op.pick (Operand.tmp 114) (Operand.const (Value.bool true)) (Operand.tmp 121), type := 4, pos := "law.go:121", after := _, guard := none } : Oper)) (v := ?_) rfl (by kernel_rfl) (by kernel_rfl) (by kernel_rfl) (fun _ _ _ h => h) (Or.inl ⟨by rfl, ?_⟩) (by assumption) ?_
            rotate_left
            · intro w hSw; (try dsimp only at hSw); go_simp; first | done | with_reducible rfl
            try simp only [Act.put, List.setIfInBounds_toArray, List.set_cons_zero, List.set_cons_succ]
            refine wpAnyH_take (i := 15) (oi := ({ dst := some 8, op := Op.assign (Operand.tmp 122), type := 4, pos := "law.go:121", after := _, guard := none } : Oper)) (v := ?_) rfl (by kernel_rfl) (by kernel_rfl) (by kernel_rfl) (fun _ _ _ h => h) (Or.inl ⟨by rfl, ?_⟩) (by assumption) ?_
            rotate_left
            · intro w hSw; (try dsimp only at hSw); go_simp; first | done | with_reducible rfl
            try simp only [Act.put, List.setIfInBounds_toArray, List.set_cons_zero, List.set_cons_succ]
            refine wpAnyH_done (by kernel_rfl) ?_ _
            clear HT HNK
            go_wp2_with fail
            go_ret
            exact ⟨rfl, HB20.out⟩
          · skip
            have HNK := Lib.hid hlk
            have HNE := Lib.hid (show a ≠ b by rintro rfl; exact hlk (en_inj HOK.out hok (HPK.out.trans hp.symm)))
            clear he hok hp hob hlk
            go_wp2_with fail
            refine (readEntryX_any A15 n15 c15 _ _ HP15.out (by have h1 := HP15.out.len; have h2 := HLN.out; omega)).mono ?_
            rintro e w9 ⟨hb, ⟨m5, I0, i0, hd, rfl, hr⟩ | ⟨hd, rfl⟩⟩
            rotate_left
            · rw [HD.out] at hd; cases hd
            rw [HD.out] at hd
            injection hd with hd
            subst hd
            have HB16 := Lib.hid (below_next HB15.out hb HB15.out.size)
            have HK0_16 := Lib.hid (HK0_15.out.kept hb)
            have HK1_16 := Lib.hid (HK1_15.out.kept hb)
            have HK2_16 := Lib.hid (HK2_15.out.kept hb)
            have HK3_16 := Lib.hid (HK3_15.out.kept hb)
            have HM0_16 := Lib.hid (HM0_15.out.below hb)
            have HM1_16 := Lib.hid (HM1_15.out.below hb)
            have HM2_16 := Lib.hid (HM2_15.out.below hb)
            have HM3_16 := Lib.hid (HM3_15.out.below hb)
            have HP16 := Lib.hid (HP15.out.below hb)
            have HU16 := Lib.hid (HU15.out.below hb)
            have HR16 := Lib.hid (hr)
            clear hb hr
            have hal := (Below.refl w9.heap.size w9).alloc (Nat.le_refl _) (.cells #[.int .i64 x.c, .int .i64 x.s, .int .i64 x.t, .slice I0 x.dig.length i0] 24)
            have HB17 := Lib.hid (below_next HB16.out hal HB16.out.size)
            have HK0_17 := Lib.hid (HK0_16.out.kept hal)
            have HK1_17 := Lib.hid (HK1_16.out.kept hal)
            have HK2_17 := Lib.hid (HK2_16.out.kept hal)
            have HK3_17 := Lib.hid (HK3_16.out.kept hal)
            have HM0_17 := Lib.hid (HM0_16.out.below hal)
            have HM1_17 := Lib.hid (HM1_16.out.below hal)
            have HM2_17 := Lib.hid (HM2_16.out.below hal)
            have HM3_17 := Lib.hid (HM3_16.out.below hal)
            have HP17 := Lib.hid (HP16.out.below hal)
            have HU17 := Lib.hid (HU16.out.below hal)
            have HR17 := Lib.hid (HR16.out.below hal)
            clear hal
            have k0 := HK2_17.out.at_ (i := 0) rfl
            have k1 := HK2_17.out.at_ (i := 1) rfl
            have k2 := HK2_17.out.at_ (i := 2) rfl
            have k3 := HK2_17.out.at_ (i := 3) rfl
            go_wp2_with fail
            clear k0 k1 k2 k3
            refine (sameEntry_self x I0 A2 i0 c2 _ _ _ HR17.out HM2_17.out).mono ?_
            rintro e w10 ⟨rfl, hb⟩
            have HB18 := Lib.hid (below_next HB17.out hb HB17.out.size)
            have HK0_18 := Lib.hid (HK0_17.out.kept hb)
            have HK1_18 := Lib.hid (HK1_17.out.kept hb)
            have HK2_18 := Lib.hid (HK2_17.out.kept hb)
            have HK3_18 := Lib.hid (HK3_17.out.kept hb)
            have HM0_18 := Lib.hid (HM0_17.out.below hb)
            have HM1_18 := Lib.hid (HM1_17.out.below hb)
            have HM2_18 := Lib.hid (HM2_17.out.below hb)
            have HM3_18 := Lib.hid (HM3_17.out.below hb)
            have HP18 := Lib.hid (HP17.out.below hb)
            have HU18 := Lib.hid (HU17.out.below hb)
            clear hb
            go_upto_region 19 with fail
            have HT := Lib.hid (show _ ∧ _ ∧ _ ∧ _ ∧ _ ∧ _ ∧ _ ∧ _ from ⟨HK2_18.out.at_ (i := 0) rfl, HK2_18.out.at_ (i := 1) rfl, HK2_18.out.at_ (i := 2) rfl, HK2_18.out.at_ (i := 3) rfl, HK3_18.out.at_ (i := 0) rfl, HK3_18.out.at_ (i := 1) rfl, HK3_18.out.at_ (i := 2) rfl, HK3_18.out.at_ (i := 3) rfl⟩)
            refine wp_region_held_drew (S := fun w' => w'.cell? ⟨w.heap.size + 1 + 1, 0, none⟩ = some (.int .i64 x.c) ∧ w'.cell? ⟨w.heap.size + 1 + 1, 1, none⟩ = some (.int .i64 x.s) ∧ w'.cell? ⟨w.heap.size + 1 + 1, 2, none⟩ = some (.int .i64 x.t) ∧ w'.cell? ⟨w.heap.size + 1 + 1, 3, none⟩ = some (.slice A2 x.dig.length c2) ∧ w'.cell? ⟨w.heap.size + 1 + 1 + 1, 0, none⟩ = some (.int .i64 y.c) ∧ w'.cell? ⟨w.heap.size + 1 + 1 + 1, 1, none⟩ = some (.int .i64 y.s) ∧ w'.cell? ⟨w.heap.size + 1 + 1 + 1, 2, none⟩ = some (.int .i64 y.t) ∧ w'.cell? ⟨w.heap.size + 1 + 1 + 1, 3, none⟩ = some (.slice A3 y.dig.length c3)) (by kernel_rfl) (HT.out) (fun hHeld => ?_)
            refine wpAnyH_take (i := 0) (oi := ({ dst := some 108, op := Op.move (Operand.tmp 10), type := 32, pos := "law.go:121", after := _, guard := none } : Oper)) (v := ?_) rfl (by kernel_rfl) (by kernel_rfl) (by kernel_rfl) (fun _ _ _ h => h) (Or.inl ⟨by rfl, ?_⟩) (by assumption) ?_
            rotate_left
            · intro w hSw; (try dsimp only at hSw); go_simp; first | done | with_reducible rfl
            try simp only [Act.put, List.setIfInBounds_toArray, List.set_cons_zero, List.set_cons_succ]
            refine wpAnyH_take (i := 1) (oi := ({ dst := some 109, op := Op.binOp BinOp.neq 32 (Operand.tmp 108) (Operand.const (Value.int IntKind.i64 0)) 32, type := 4, pos := "law.go:121", after := _, guard := none } : Oper)) (v := ?_) rfl (by kernel_rfl) (by kernel_rfl) (by kernel_rfl) (fun _ _ _ h => h) (Or.inl ⟨by rfl, ?_⟩) (by assumption) ?_
            rotate_left
            · intro w hSw; (try dsimp only at hSw); go_simp; first | done | with_reducible rfl
            try simp only [Act.put, List.setIfInBounds_toArray, List.set_cons_zero, List.set_cons_succ]
            refine wpAnyH_take (i := 2) (oi := ({ dst := some 110, op := Op.move (Operand.tmp 109), type := 4, pos := "law.go:121", after := _, guard := none } : Oper)) (v := ?_) rfl (by kernel_rfl) (by kernel_rfl) (by kernel_rfl) (fun _ _ _ h => h) (Or.inl ⟨by rfl, ?_⟩) (by assumption) ?_
            rotate_left
            · intro w hSw; (try dsimp only at hSw); go_simp; first | done | with_reducible rfl
            try simp only [Act.put, List.setIfInBounds_toArray, List.set_cons_zero, List.set_cons_succ]
            refine wpAnyH_take (i := 3) (oi := ({ dst := some 111, op := Op.move (Operand.tmp 12), type := 32, pos := "law.go:121", after := _, guard := some (2, false) } : Oper)) (v := ?_) rfl (by kernel_rfl) (by kernel_rfl) (by kernel_rfl) (fun _ _ _ h => h) (Or.inl ⟨by rfl, ?_⟩) (by assumption) ?_
            rotate_left
            · intro w hSw; (try dsimp only at hSw); go_simp; first | done | with_reducible rfl
            try simp only [Act.put, List.setIfInBounds_toArray, List.set_cons_zero, List.set_cons_succ]
            refine wpAnyH_take (i := 4) (oi := ({ dst := some 112, op := Op.binOp BinOp.neq 32 (Operand.tmp 111) (Operand.const (Value.int IntKind.i64 0)) 32, type := 4, pos := "law.go:121", after := _, guard := some (2, false) } : Oper)) (v := ?_) rfl (by kernel_rfl) (by kernel_rfl) (by kernel_rfl) (fun _ _ _ h => h) (Or.inl ⟨by rfl, ?_⟩) (by assumption) ?_
            rotate_left
            · intro w hSw; (try dsimp only at hSw); go_simp; first | done | with_reducible rfl
            try simp only [Act.put, List.setIfInBounds_toArray, List.set_cons_zero, List.set_cons_succ]
            refine wpAnyH_take (i := 5) (oi := ({ dst := some 113, op := Op.pick (Operand.tmp 110) (Operand.const (Value.bool true)) (Operand.tmp 112), type := 4, pos := "law.go:121", after := _, guard := none } : Oper)) (v := ?_) rfl (by kernel_rfl) (by kernel_rfl) (by kernel_rfl) (fun _ _ _ h => h) (Or.inl ⟨by rfl, ?_⟩) (by assumption) ?_
            rotate_left
            · intro w hSw; (try dsimp only at hSw); go_simp; first | done | with_reducible rfl
            try simp only [Act.put, List.setIfInBounds_toArray, List.set_cons_zero, List.set_cons_succ]
            refine wpAnyH_take (i := 6) (oi := ({ dst := some 114, op := Op.move (Operand.tmp 113), type := 4, pos := "law.go:121", after := _, guard := none } : Oper)) (v := ?_) rfl (by kernel_rfl) (by kernel_rfl) (by kernel_rfl) (fun _ _ _ h => h) (Or.inl ⟨by rfl, ?_⟩) (by assumption) ?_
            rotate_left
            · intro w hSw; (try dsimp only at hSw); go_simp; first | done | with_reducible rfl
            try simp only [Act.put, List.setIfInBounds_toArray, List.set_cons_zero, List.set_cons_succ]
            refine wpAnyH_take (i := 7) (oi := ({ dst := some 115, op := Op.move (Operand.tmp 15), type := 22, pos := "law.go:121", after := _, guard := some (6, false) } : Oper)) (v := ?_) rfl (by kernel_rfl) (by kernel_rfl) (by kernel_rfl) (fun _ _ _ h => h) (Or.inl ⟨by rfl, ?_⟩) (by assumption) ?_
            rotate_left
            · intro w hSw; (try dsimp only at hSw); go_simp; first | done | with_reducible rfl
            try simp only [Act.put, List.setIfInBounds_toArray, List.set_cons_zero, List.set_cons_succ]
            refine wpAnyH_take (i := 8) (oi := ({ dst := some 116, op := Op.move (Operand.tmp 16), type := 22, pos := "law.go:121", after := _, guard := some (6, false) } : Oper)) (v := ?_) rfl (by kernel_rfl) (by kernel_rfl) (by kernel_rfl) (fun _ _ _ h => h) (Or.inl ⟨by rfl, ?_⟩) (by assumption) ?_
            rotate_left
            · intro w hSw; (try dsimp only at hSw); go_simp; first | done | with_reducible rfl
            try simp only [Act.put, List.setIfInBounds_toArray, List.set_cons_zero, List.set_cons_succ]
            refine wpAnyH_take (i := 10) (oi := ({ dst := some 118, op := Op.load 24 (Operand.tmp 6), type := 24, pos := "law.go:121", after := _, guard := some (6, false) } : Oper)) (v := ?_) rfl (by kernel_rfl) (by kernel_rfl) (by kernel_rfl) (fun _ _ _ h => h) (Or.inl ⟨by rfl, ?_⟩) (by assumption) ?_
            rotate_left
            · intro w hSw; (try dsimp only at hSw); go_simp; first | done | with_reducible rfl
            try simp only [Act.put, List.setIfInBounds_toArray, List.set_cons_zero, List.set_cons_succ]
            refine wpAnyH_take (i := 11) (oi := ({ dst := some 119, op := Op.load 24 (Operand.tmp 7), type := 24, pos := "law.go:121", after := _, guard := some (6, false) } : Oper)) (v := ?_) rfl (by kernel_rfl) (by kernel_rfl) (by kernel_rfl) (fun _ _ _ h => h) (Or.inl ⟨by rfl, ?_⟩) (by assumption) ?_
            rotate_left
            · intro w hSw; (try dsimp only at hSw); go_simp; first | done | with_reducible rfl
            try simp only [Act.put, List.setIfInBounds_toArray, List.set_cons_zero, List.set_cons_succ]
            refine wpAnyH_ready (rs := [9]) (by kernel_rfl) (by simp) ?_
            refine AllReadyH.cons (o := ({ dst := some 117, op := Op.call { callee := Callee.value (Operand.func 15), args := #[Operand.tmp 115, Operand.tmp 116], argTypes := #[22, 22] }, type := 4, pos := "law.go:121", after := _, guard := some (6, false) } : Oper)) rfl (fun K hK => ?_) AllReadyH.nil
            go_simp
            refine (sameB_no (Sl.drew HP18.out) (Sl.drew HU18.out) HNE.out).mono ?_
            rintro e w12 ⟨rfl, hb⟩
            replace hb : Below w10.heap.size w10 w12 := ⟨hb.os, hb.tape, hb.output, hb.size, hb.block⟩
            have HB19 := Lib.hid (below_next HB18.out hb HB18.out.size)
            have HK0_19 := Lib.hid (HK0_18.out.kept hb)
            have HK1_19 := Lib.hid (HK1_18.out.kept hb)
            have HK2_19 := Lib.hid (HK2_18.out.kept hb)
            have HK3_19 := Lib.hid (HK3_18.out.kept hb)
            have HM0_19 := Lib.hid (HM0_18.out.below hb)
            have HM1_19 := Lib.hid (HM1_18.out.below hb)
            have HM2_19 := Lib.hid (HM2_18.out.below hb)
            have HM3_19 := Lib.hid (HM3_18.out.below hb)
            clear hb HT
            have HT := Lib.hid (show _ ∧ _ ∧ _ ∧ _ ∧ _ ∧ _ ∧ _ ∧ _ from ⟨HK2_19.out.at_ (i := 0) rfl, HK2_19.out.at_ (i := 1) rfl, HK2_19.out.at_ (i := 2) rfl, HK2_19.out.at_ (i := 3) rfl, HK3_19.out.at_ (i := 0) rfl, HK3_19.out.at_ (i := 1) rfl, HK3_19.out.at_ (i := 2) rfl, HK3_19.out.at_ (i := 3) rfl⟩)
            go_wp2_with fail
            refine hK.out _ _ (HT.out) (fun hHeld => ?_)
            clear hK K
            try simp only [Act.put, List.setIfInBounds_toArray, List.set_cons_zero, List.set_cons_succ]
            refine wpAnyH_ready (rs := [12]) (by kernel_rfl) (by simp) ?_
            refine AllReadyH.cons (o := ({ dst := some 120, op := Op.call { callee := Callee.value (Operand.func 33), args := #[Operand.tmp 118, Operand.tmp 119], argTypes := #[24, 24] }, type := 4, pos := "law.go:121", after := _, guard := some (6, false) } : Oper)) rfl (fun K hK => ?_) AllReadyH.nil
            go_simp
            refine (sameEn_no x y A2 A3 c2 c3 _ _ _ HM2_19.out HM3_19.out HNK.out).mono ?_
            rintro e w13 ⟨rfl, hb⟩
            have HB20 := Lib.hid (below_next HB19.out hb HB19.out.size)
            have HK0_20 := Lib.hid (HK0_19.out.kept hb)
            have HK1_20 := Lib.hid (HK1_19.out.kept hb)
            have HK2_20 := Lib.hid (HK2_19.out.kept hb)
            have HK3_20 := Lib.hid (HK3_19.out.kept hb)
            have HM0_20 := Lib.hid (HM0_19.out.below hb)
            have HM1_20 := Lib.hid (HM1_19.out.below hb)
            have HM2_20 := Lib.hid (HM2_19.out.below hb)
            have HM3_20 := Lib.hid (HM3_19.out.below hb)
            clear hb HT
            have HT := Lib.hid (show _ ∧ _ ∧ _ ∧ _ ∧ _ ∧ _ ∧ _ ∧ _ from ⟨HK2_20.out.at_ (i := 0) rfl, HK2_20.out.at_ (i := 1) rfl, HK2_20.out.at_ (i := 2) rfl, HK2_20.out.at_ (i := 3) rfl, HK3_20.out.at_ (i := 0) rfl, HK3_20.out.at_ (i := 1) rfl, HK3_20.out.at_ (i := 2) rfl, HK3_20.out.at_ (i := 3) rfl⟩)
            go_wp2_with fail
            refine hK.out _ _ (HT.out) (fun hHeld => ?_)
            clear hK K
            try simp only [Act.put, List.setIfInBounds_toArray, List.set_cons_zero, List.set_cons_succ]
            refine wpAnyH_take (i := 13) (oi := ({ dst := some 121, op := Op.binOp BinOp.eql 4 (Operand.tmp 117) (Operand.tmp 120) 4, type := 4, pos := "law.go:121", after := _, guard := some (6, false) } : Oper)) (v := ?_) rfl (by kernel_rfl) (by kernel_rfl) (by kernel_rfl) (fun _ _ _ h => h) (Or.inl ⟨by rfl, ?_⟩) (by assumption) ?_
            rotate_left
            · intro w hSw; (try dsimp only at hSw); go_simp; first | done | with_reducible rfl
            try simp only [Act.put, List.setIfInBounds_toArray, List.set_cons_zero, List.set_cons_succ]
            refine wpAnyH_take (i := 14) (oi := ({ dst := some 122, op := Op.pick (Operand.tmp 114) (Operand.const (Value.bool true)) (Operand.tmp 121), type := 4, pos := "law.go:121", after := _, guard := none } : Oper)) (v := ?_) rfl (by kernel_rfl) (by kernel_rfl) (by kernel_rfl) (fun _ _ _ h => h) (Or.inl ⟨by rfl, ?_⟩) (by assumption) ?_
            rotate_left
            · intro w hSw; (try dsimp only at hSw); go_simp; first | done | with_reducible rfl
            try simp only [Act.put, List.setIfInBounds_toArray, List.set_cons_zero, List.set_cons_succ]
            refine wpAnyH_take (i := 15) (oi := ({ dst := some 8, op := Op.assign (Operand.tmp 122), type := 4, pos := "law.go:121", after := _, guard := none } : Oper)) (v := ?_) rfl (by kernel_rfl) (by kernel_rfl) (by kernel_rfl) (fun _ _ _ h => h) (Or.inl ⟨by rfl, ?_⟩) (by assumption) ?_
            rotate_left
            · intro w hSw; (try dsimp only at hSw); go_simp; first | done | with_reducible rfl
            try simp only [Act.put, List.setIfInBounds_toArray, List.set_cons_zero, List.set_cons_succ]
            refine wpAnyH_done (by kernel_rfl) ?_ _
            clear HT HNK HNE
            go_wp2_with fail
            go_ret
            exact ⟨rfl, HB20.out⟩
        · skip
          rw [he]
          clear he
          go_wp2_with fail
          refine (readEntryX_any A15 n15 c15 _ _ HP15.out (by have h1 := HP15.out.len; have h2 := HLN.out; omega)).mono ?_
          rintro e w9 ⟨hb, ⟨m5, I0, i0, hd, rfl, hr⟩ | ⟨hd, rfl⟩⟩
          rotate_left
          · rw [HD.out] at hd; cases hd
          rw [HD.out] at hd
          injection hd with hd
          subst hd
          have HB16 := Lib.hid (below_next HB15.out hb HB15.out.size)
          have HK0_16 := Lib.hid (HK0_15.out.kept hb)
          have HK1_16 := Lib.hid (HK1_15.out.kept hb)
          have HK2_16 := Lib.hid (HK2_15.out.kept hb)
          have HK3_16 := Lib.hid (HK3_15.out.kept hb)
          have HM0_16 := Lib.hid (HM0_15.out.below hb)
          have HM1_16 := Lib.hid (HM1_15.out.below hb)
          have HM2_16 := Lib.hid (HM2_15.out.below hb)
          have HM3_16 := Lib.hid (HM3_15.out.below hb)
          have HP16 := Lib.hid (HP15.out.below hb)
          have HR16 := Lib.hid (hr)
          clear hb hr
          have hal := (Below.refl w9.heap.size w9).alloc (Nat.le_refl _) (.cells #[.int .i64 x.c, .int .i64 x.s, .int .i64 x.t, .slice I0 x.dig.length i0] 24)
          have HB17 := Lib.hid (below_next HB16.out hal HB16.out.size)
          have HK0_17 := Lib.hid (HK0_16.out.kept hal)
          have HK1_17 := Lib.hid (HK1_16.out.kept hal)
          have HK2_17 := Lib.hid (HK2_16.out.kept hal)
          have HK3_17 := Lib.hid (HK3_16.out.kept hal)
          have HM0_17 := Lib.hid (HM0_16.out.below hal)
          have HM1_17 := Lib.hid (HM1_16.out.below hal)
          have HM2_17 := Lib.hid (HM2_16.out.below hal)
          have HM3_17 := Lib.hid (HM3_16.out.below hal)
          have HP17 := Lib.hid (HP16.out.below hal)
          have HR17 := Lib.hid (HR16.out.below hal)
          clear hal
          have k0 := HK2_17.out.at_ (i := 0) rfl
          have k1 := HK2_17.out.at_ (i := 1) rfl
          have k2 := HK2_17.out.at_ (i := 2) rfl
          have k3 := HK2_17.out.at_ (i := 3) rfl
          go_wp2_with fail
          clear k0 k1 k2 k3
          refine (sameEntry_self x I0 A2 i0 c2 _ _ _ HR17.out HM2_17.out).mono ?_
          rintro e w10 ⟨rfl, hb⟩
          have HB18 := Lib.hid (below_next HB17.out hb HB17.out.size)
          have HK0_18 := Lib.hid (HK0_17.out.kept hb)
          have HK1_18 := Lib.hid (HK1_17.out.kept hb)
          have HK2_18 := Lib.hid (HK2_17.out.kept hb)
          have HK3_18 := Lib.hid (HK3_17.out.kept hb)
          have HM0_18 := Lib.hid (HM0_17.out.below hb)
          have HM1_18 := Lib.hid (HM1_17.out.below hb)
          have HM2_18 := Lib.hid (HM2_17.out.below hb)
          have HM3_18 := Lib.hid (HM3_17.out.below hb)
          have HP18 := Lib.hid (HP17.out.below hb)
          clear hb
          go_upto_region 19 with fail
          have HT := Lib.hid (show _ ∧ _ ∧ _ ∧ _ ∧ _ ∧ _ ∧ _ ∧ _ from ⟨HK2_18.out.at_ (i := 0) rfl, HK2_18.out.at_ (i := 1) rfl, HK2_18.out.at_ (i := 2) rfl, HK2_18.out.at_ (i := 3) rfl, HK3_18.out.at_ (i := 0) rfl, HK3_18.out.at_ (i := 1) rfl, HK3_18.out.at_ (i := 2) rfl, HK3_18.out.at_ (i := 3) rfl⟩)
          refine wp_region_held_drew (S := fun w' => w'.cell? ⟨w.heap.size + 1 + 1, 0, none⟩ = some (.int .i64 x.c) ∧ w'.cell? ⟨w.heap.size + 1 + 1, 1, none⟩ = some (.int .i64 x.s) ∧ w'.cell? ⟨w.heap.size + 1 + 1, 2, none⟩ = some (.int .i64 x.t) ∧ w'.cell? ⟨w.heap.size + 1 + 1, 3, none⟩ = some (.slice A2 x.dig.length c2) ∧ w'.cell? ⟨w.heap.size + 1 + 1 + 1, 0, none⟩ = some (.int .i64 y.c) ∧ w'.cell? ⟨w.heap.size + 1 + 1 + 1, 1, none⟩ = some (.int .i64 y.s) ∧ w'.cell? ⟨w.heap.size + 1 + 1 + 1, 2, none⟩ = some (.int .i64 y.t) ∧ w'.cell? ⟨w.heap.size + 1 + 1 + 1, 3, none⟩ = some (.slice A3 y.dig.length c3)) (by kernel_rfl) (HT.out) (fun hHeld => ?_)
          refine wpAnyH_take (i := 0) (oi := ({ dst := some 108, op := Op.move (Operand.tmp 10), type := 32, pos := "law.go:121", after := _, guard := none } : Oper)) (v := ?_) rfl (by kernel_rfl) (by kernel_rfl) (by kernel_rfl) (fun _ _ _ h => h) (Or.inl ⟨by rfl, ?_⟩) (by assumption) ?_
          rotate_left
          · intro w hSw; (try dsimp only at hSw); go_simp; first | done | with_reducible rfl
          try simp only [Act.put, List.setIfInBounds_toArray, List.set_cons_zero, List.set_cons_succ]
          refine wpAnyH_take (i := 1) (oi := ({ dst := some 109, op := Op.binOp BinOp.neq 32 (Operand.tmp 108) (Operand.const (Value.int IntKind.i64 0)) 32, type := 4, pos := "law.go:121", after := _, guard := none } : Oper)) (v := ?_) rfl (by kernel_rfl) (by kernel_rfl) (by kernel_rfl) (fun _ _ _ h => h) (Or.inl ⟨by rfl, ?_⟩) (by assumption) ?_
          rotate_left
          · intro w hSw; (try dsimp only at hSw); go_simp; first | done | with_reducible rfl
          try simp only [Act.put, List.setIfInBounds_toArray, List.set_cons_zero, List.set_cons_succ]
          refine wpAnyH_take (i := 2) (oi := ({ dst := some 110, op := Op.move (Operand.tmp 109), type := 4, pos := "law.go:121", after := _, guard := none } : Oper)) (v := ?_) rfl (by kernel_rfl) (by kernel_rfl) (by kernel_rfl) (fun _ _ _ h => h) (Or.inl ⟨by rfl, ?_⟩) (by assumption) ?_
          rotate_left
          · intro w hSw; (try dsimp only at hSw); go_simp; first | done | with_reducible rfl
          try simp only [Act.put, List.setIfInBounds_toArray, List.set_cons_zero, List.set_cons_succ]
          refine wpAnyH_take (i := 3) (oi := ({ dst := some 111, op := Op.move (Operand.tmp 12), type := 32, pos := "law.go:121", after := _, guard := some (2, false) } : Oper)) (v := ?_) rfl (by kernel_rfl) (by kernel_rfl) (by kernel_rfl) (fun _ _ _ h => h) (Or.inl ⟨by rfl, ?_⟩) (by assumption) ?_
          rotate_left
          · intro w hSw; (try dsimp only at hSw); go_simp; first | done | with_reducible rfl
          try simp only [Act.put, List.setIfInBounds_toArray, List.set_cons_zero, List.set_cons_succ]
          refine wpAnyH_take (i := 4) (oi := ({ dst := some 112, op := Op.binOp BinOp.neq 32 (Operand.tmp 111) (Operand.const (Value.int IntKind.i64 0)) 32, type := 4, pos := "law.go:121", after := _, guard := some (2, false) } : Oper)) (v := ?_) rfl (by kernel_rfl) (by kernel_rfl) (by kernel_rfl) (fun _ _ _ h => h) (Or.inl ⟨by rfl, ?_⟩) (by assumption) ?_
          rotate_left
          · intro w hSw; (try dsimp only at hSw); go_simp; first | done | with_reducible rfl
          try simp only [Act.put, List.setIfInBounds_toArray, List.set_cons_zero, List.set_cons_succ]
          refine wpAnyH_take (i := 5) (oi := ({ dst := some 113, op := Op.pick (Operand.tmp 110) (Operand.const (Value.bool true)) (Operand.tmp 112), type := 4, pos := "law.go:121", after := _, guard := none } : Oper)) (v := ?_) rfl (by kernel_rfl) (by kernel_rfl) (by kernel_rfl) (fun _ _ _ h => h) (Or.inl ⟨by rfl, ?_⟩) (by assumption) ?_
          rotate_left
          · intro w hSw; (try dsimp only at hSw); go_simp; first | done | with_reducible rfl
          try simp only [Act.put, List.setIfInBounds_toArray, List.set_cons_zero, List.set_cons_succ]
          refine wpAnyH_take (i := 6) (oi := ({ dst := some 114, op := Op.move (Operand.tmp 113), type := 4, pos := "law.go:121", after := _, guard := none } : Oper)) (v := ?_) rfl (by kernel_rfl) (by kernel_rfl) (by kernel_rfl) (fun _ _ _ h => h) (Or.inl ⟨by rfl, ?_⟩) (by assumption) ?_
          rotate_left
          · intro w hSw; (try dsimp only at hSw); go_simp; first | done | with_reducible rfl
          try simp only [Act.put, List.setIfInBounds_toArray, List.set_cons_zero, List.set_cons_succ]
          refine wpAnyH_take (i := 7) (oi := ({ dst := some 115, op := Op.move (Operand.tmp 15), type := 22, pos := "law.go:121", after := _, guard := some (6, false) } : Oper)) (v := undef) rfl (by kernel_rfl) (by kernel_rfl) (by kernel_rfl) (fun _ _ _ h => h) (Or.inr ⟨by rfl, rfl⟩) (by assumption) ?_
          try simp only [Act.put, List.setIfInBounds_toArray, List.set_cons_zero, List.set_cons_succ]
          refine wpAnyH_take (i := 8) (oi := ({ dst := some 116, op := Op.move (Operand.tmp 16), type := 22, pos := "law.go:121", after := _, guard := some (6, false) } : Oper)) (v := undef) rfl (by kernel_rfl) (by kernel_rfl) (by kernel_rfl) (fun _ _ _ h => h) (Or.inr ⟨by rfl, rfl⟩) (by assumption) ?_
          try simp only [Act.put, List.setIfInBounds_toArray, List.set_cons_zero, List.set_cons_succ]
          refine wpAnyH_take (i := 9) (oi := ({ dst := some 117, op := Op.call { callee := Callee.value (Operand.func 15), args := #[Operand.tmp 115, Operand.tmp 116], argTypes := #[22, 22] }, type := 4, pos := "law.go:121", after := _, guard := some (6, false) } : Oper)) (v := undef) rfl (by kernel_rfl) (by kernel_rfl) (by kernel_rfl) (fun _ _ _ h => h) (Or.inr ⟨by rfl, rfl⟩) (by assumption) ?_
          try simp only [Act.put, List.setIfInBounds_toArray, List.set_cons_zero, List.set_cons_succ]
          refine wpAnyH_take (i := 10) (oi := ({ dst := some 118, op := Op.load 24 (Operand.tmp 6), type := 24, pos := "law.go:121", after := _, guard := some (6, false) } : Oper)) (v := undef) rfl (by kernel_rfl) (by kernel_rfl) (by kernel_rfl) (fun _ _ _ h => h) (Or.inr ⟨by rfl, rfl⟩) (by assumption) ?_
          try simp only [Act.put, List.setIfInBounds_toArray, List.set_cons_zero, List.set_cons_succ]
          refine wpAnyH_take (i := 11) (oi := ({ dst := some 119, op := Op.load 24 (Operand.tmp 7), type := 24, pos := "law.go:121", after := _, guard := some (6, false) } : Oper)) (v := undef) rfl (by kernel_rfl) (by kernel_rfl) (by kernel_rfl) (fun _ _ _ h => h) (Or.inr ⟨by rfl, rfl⟩) (by assumption) ?_
          try simp only [Act.put, List.setIfInBounds_toArray, List.set_cons_zero, List.set_cons_succ]
          refine wpAnyH_take (i := 12) (oi := ({ dst := some 120, op := Op.call { callee := Callee.value (Operand.func 33), args := #[Operand.tmp 118, Operand.tmp 119], argTypes := #[24, 24] }, type := 4, pos := "law.go:121", after := _, guard := some (6, false) } : Oper)) (v := undef) rfl (by kernel_rfl) (by kernel_rfl) (by kernel_rfl) (fun _ _ _ h => h) (Or.inr ⟨by rfl, rfl⟩) (by assumption) ?_
          try simp only [Act.put, List.setIfInBounds_toArray, List.set_cons_zero, List.set_cons_succ]
          refine wpAnyH_take (i := 13) (oi := ({ dst := some 121, op := Op.binOp BinOp.eql 4 (Operand.tmp 117) (Operand.tmp 120) 4, type := 4, pos := "law.go:121", after := _, guard := some (6, false) } : Oper)) (v := undef) rfl (by kernel_rfl) (by kernel_rfl) (by kernel_rfl) (fun _ _ _ h => h) (Or.inr ⟨by rfl, rfl⟩) (by assumption) ?_
          try simp only [Act.put, List.setIfInBounds_toArray, List.set_cons_zero, List.set_cons_succ]
          refine wpAnyH_take (i := 14) (oi := ({ dst := some 122, op := Op.pick (Operand.tmp 114) (Operand.const (Value.bool true)) (Operand.tmp 121), type := 4, pos := "law.go:121", after := _, guard := none } : Oper)) (v := ?_) rfl (by kernel_rfl) (by kernel_rfl) (by kernel_rfl) (fun _ _ _ h => h) (Or.inl ⟨by rfl, ?_⟩) (by assumption) ?_
          rotate_left
          · intro w hSw; (try dsimp only at hSw); go_simp; first | done | with_reducible rfl
          try simp only [Act.put, List.setIfInBounds_toArray, List.set_cons_zero, List.set_cons_succ]
          refine wpAnyH_take (i := 15) (oi := ({ dst := some 8, op := Op.assign (Operand.tmp 122), type := 4, pos := "law.go:121", after := _, guard := none } : Oper)) (v := ?_) rfl (by kernel_rfl) (by kernel_rfl) (by kernel_rfl) (fun _ _ _ h => h) (Or.inl ⟨by rfl, ?_⟩) (by assumption) ?_
          rotate_left
          · intro w hSw; (try dsimp only at hSw); go_simp; first | done | with_reducible rfl
          try simp only [Act.put, List.setIfInBounds_toArray, List.set_cons_zero, List.set_cons_succ]
          refine wpAnyH_done (by kernel_rfl) ?_ _
          have hb := below_drew (Below.refl w10.heap.size w10)
          have HB19 := Lib.hid (below_next HB18.out hb HB18.out.size)
          have HK0_19 := Lib.hid (HK0_18.out.kept hb)
          have HK1_19 := Lib.hid (HK1_18.out.kept hb)
          have HK2_19 := Lib.hid (HK2_18.out.kept hb)
          have HK3_19 := Lib.hid (HK3_18.out.kept hb)
          have HM0_19 := Lib.hid (HM0_18.out.below hb)
          have HM1_19 := Lib.hid (HM1_18.out.below hb)
          have HM2_19 := Lib.hid (HM2_18.out.below hb)
          have HM3_19 := Lib.hid (HM3_18.out.below hb)
          have HP19 := Lib.hid (HP18.out.below hb)
          clear hb
          clear HT
          go_wp2_with fail
          go_ret
          exact ⟨rfl, HB19.out⟩
      · skip
        rw [he]
        clear he
        go_upto_region 19 with fail
        have HT := Lib.hid (show _ ∧ _ ∧ _ ∧ _ ∧ _ ∧ _ ∧ _ ∧ _ from ⟨HK2_15.out.at_ (i := 0) rfl, HK2_15.out.at_ (i := 1) rfl, HK2_15.out.at_ (i := 2) rfl, HK2_15.out.at_ (i := 3) rfl, HK3_15.out.at_ (i := 0) rfl, HK3_15.out.at_ (i := 1) rfl, HK3_15.out.at_ (i := 2) rfl, HK3_15.out.at_ (i := 3) rfl⟩)
        refine wp_region_held_drew (S := fun w' => w'.cell? ⟨w.heap.size + 1 + 1, 0, none⟩ = some (.int .i64 x.c) ∧ w'.cell? ⟨w.heap.size + 1 + 1, 1, none⟩ = some (.int .i64 x.s) ∧ w'.cell? ⟨w.heap.size + 1 + 1, 2, none⟩ = some (.int .i64 x.t) ∧ w'.cell? ⟨w.heap.size + 1 + 1, 3, none⟩ = some (.slice A2 x.dig.length c2) ∧ w'.cell? ⟨w.heap.size + 1 + 1 + 1, 0, none⟩ = some (.int .i64 y.c) ∧ w'.cell? ⟨w.heap.size + 1 + 1 + 1, 1, none⟩ = some (.int .i64 y.s) ∧ w'.cell? ⟨w.heap.size + 1 + 1 + 1, 2, none⟩ = some (.int .i64 y.t) ∧ w'.cell? ⟨w.heap.size + 1 + 1 + 1, 3, none⟩ = some (.slice A3 y.dig.length c3)) (by kernel_rfl) (HT.out) (fun hHeld => ?_)
        refine wpAnyH_take (i := 0) (oi := ({ dst := some 108, op := Op.move (Operand.tmp 10), type := 32, pos := "law.go:121", after := _, guard := none } : Oper)) (v := ?_) rfl (by kernel_rfl) (by kernel_rfl) (by kernel_rfl) (fun _ _ _ h => h) (Or.inl ⟨by rfl, ?_⟩) (by assumption) ?_
        rotate_left
        · intro w hSw; (try dsimp only at hSw); go_simp; first | done | with_reducible rfl
        try simp only [Act.put, List.setIfInBounds_toArray, List.set_cons_zero, List.set_cons_succ]
        refine wpAnyH_take (i := 1) (oi := ({ dst := some 109, op := Op.binOp BinOp.neq 32 (Operand.tmp 108) (Operand.const (Value.int IntKind.i64 0)) 32, type := 4, pos := "law.go:121", after := _, guard := none } : Oper)) (v := ?_) rfl (by kernel_rfl) (by kernel_rfl) (by kernel_rfl) (fun _ _ _ h => h) (Or.inl ⟨by rfl, ?_⟩) (by assumption) ?_
        rotate_left
        · intro w hSw; (try dsimp only at hSw); go_simp; first | done | with_reducible rfl
        try simp only [Act.put, List.setIfInBounds_toArray, List.set_cons_zero, List.set_cons_succ]
        refine wpAnyH_take (i := 2) (oi := ({ dst := some 110, op := Op.move (Operand.tmp 109), type := 4, pos := "law.go:121", after := _, guard := none } : Oper)) (v := ?_) rfl (by kernel_rfl) (by kernel_rfl) (by kernel_rfl) (fun _ _ _ h => h) (Or.inl ⟨by rfl, ?_⟩) (by assumption) ?_
        rotate_left
        · intro w hSw; (try dsimp only at hSw); go_simp; first | done | with_reducible rfl
        try simp only [Act.put, List.setIfInBounds_toArray, List.set_cons_zero, List.set_cons_succ]
        refine wpAnyH_take (i := 3) (oi := ({ dst := some 111, op := Op.move (Operand.tmp 12), type := 32, pos := "law.go:121", after := _, guard := some (2, false) } : Oper)) (v := undef) rfl (by kernel_rfl) (by kernel_rfl) (by kernel_rfl) (fun _ _ _ h => h) (Or.inr ⟨by rfl, rfl⟩) (by assumption) ?_
        try simp only [Act.put, List.setIfInBounds_toArray, List.set_cons_zero, List.set_cons_succ]
        refine wpAnyH_take (i := 4) (oi := ({ dst := some 112, op := Op.binOp BinOp.neq 32 (Operand.tmp 111) (Operand.const (Value.int IntKind.i64 0)) 32, type := 4, pos := "law.go:121", after := _, guard := some (2, false) } : Oper)) (v := undef) rfl (by kernel_rfl) (by kernel_rfl) (by kernel_rfl) (fun _ _ _ h => h) (Or.inr ⟨by rfl, rfl⟩) (by assumption) ?_
        try simp only [Act.put, List.setIfInBounds_toArray, List.set_cons_zero, List.set_cons_succ]
        refine wpAnyH_take (i := 5) (oi := ({ dst := some 113, op := Op.pick (Operand.tmp 110) (Operand.const (Value.bool true)) (Operand.tmp 112), type := 4, pos := "law.go:121", after := _, guard := none } : Oper)) (v := ?_) rfl (by kernel_rfl) (by kernel_rfl) (by kernel_rfl) (fun _ _ _ h => h) (Or.inl ⟨by rfl, ?_⟩) (by assumption) ?_
        rotate_left
        · intro w hSw; (try dsimp only at hSw); go_simp; first | done | with_reducible rfl
        try simp only [Act.put, List.setIfInBounds_toArray, List.set_cons_zero, List.set_cons_succ]
        refine wpAnyH_take (i := 6) (oi := ({ dst := some 114, op := Op.move (Operand.tmp 113), type := 4, pos := "law.go:121", after := _, guard := none } : Oper)) (v := ?_) rfl (by kernel_rfl) (by kernel_rfl) (by kernel_rfl) (fun _ _ _ h => h) (Or.inl ⟨by rfl, ?_⟩) (by assumption) ?_
        rotate_left
        · intro w hSw; (try dsimp only at hSw); go_simp; first | done | with_reducible rfl
        try simp only [Act.put, List.setIfInBounds_toArray, List.set_cons_zero, List.set_cons_succ]
        refine wpAnyH_take (i := 7) (oi := ({ dst := some 115, op := Op.move (Operand.tmp 15), type := 22, pos := "law.go:121", after := _, guard := some (6, false) } : Oper)) (v := undef) rfl (by kernel_rfl) (by kernel_rfl) (by kernel_rfl) (fun _ _ _ h => h) (Or.inr ⟨by rfl, rfl⟩) (by assumption) ?_
        try simp only [Act.put, List.setIfInBounds_toArray, List.set_cons_zero, List.set_cons_succ]
        refine wpAnyH_take (i := 8) (oi := ({ dst := some 116, op := Op.move (Operand.tmp 16), type := 22, pos := "law.go:121", after := _, guard := some (6, false) } : Oper)) (v := undef) rfl (by kernel_rfl) (by kernel_rfl) (by kernel_rfl) (fun _ _ _ h => h) (Or.inr ⟨by rfl, rfl⟩) (by assumption) ?_
        try simp only [Act.put, List.setIfInBounds_toArray, List.set_cons_zero, List.set_cons_succ]
        refine wpAnyH_take (i := 9) (oi := ({ dst := some 117, op := Op.call { callee := Callee.value (Operand.func 15), args := #[Operand.tmp 115, Operand.tmp 116], argTypes := #[22, 22] }, type := 4, pos := "law.go:121", after := _, guard := some (6, false) } : Oper)) (v := undef) rfl (by kernel_rfl) (by kernel_rfl) (by kernel_rfl) (fun _ _ _ h => h) (Or.inr ⟨by rfl, rfl⟩) (by assumption) ?_
        try simp only [Act.put, List.setIfInBounds_toArray, List.set_cons_zero, List.set_cons_succ]
        refine wpAnyH_take (i := 10) (oi := ({ dst := some 118, op := Op.load 24 (Operand.tmp 6), type := 24, pos := "law.go:121", after := _, guard := some (6, false) } : Oper)) (v := undef) rfl (by kernel_rfl) (by kernel_rfl) (by kernel_rfl) (fun _ _ _ h => h) (Or.inr ⟨by rfl, rfl⟩) (by assumption) ?_
        try simp only [Act.put, List.setIfInBounds_toArray, List.set_cons_zero, List.set_cons_succ]
        refine wpAnyH_take (i := 11) (oi := ({ dst := some 119, op := Op.load 24 (Operand.tmp 7), type := 24, pos := "law.go:121", after := _, guard := some (6, false) } : Oper)) (v := undef) rfl (by kernel_rfl) (by kernel_rfl) (by kernel_rfl) (fun _ _ _ h => h) (Or.inr ⟨by rfl, rfl⟩) (by assumption) ?_
        try simp only [Act.put, List.setIfInBounds_toArray, List.set_cons_zero, List.set_cons_succ]
        refine wpAnyH_take (i := 12) (oi := ({ dst := some 120, op := Op.call { callee := Callee.value (Operand.func 33), args := #[Operand.tmp 118, Operand.tmp 119], argTypes := #[24, 24] }, type := 4, pos := "law.go:121", after := _, guard := some (6, false) } : Oper)) (v := undef) rfl (by kernel_rfl) (by kernel_rfl) (by kernel_rfl) (fun _ _ _ h => h) (Or.inr ⟨by rfl, rfl⟩) (by assumption) ?_
        try simp only [Act.put, List.setIfInBounds_toArray, List.set_cons_zero, List.set_cons_succ]
        refine wpAnyH_take (i := 13) (oi := ({ dst := some 121, op := Op.binOp BinOp.eql 4 (Operand.tmp 117) (Operand.tmp 120) 4, type := 4, pos := "law.go:121", after := _, guard := some (6, false) } : Oper)) (v := undef) rfl (by kernel_rfl) (by kernel_rfl) (by kernel_rfl) (fun _ _ _ h => h) (Or.inr ⟨by rfl, rfl⟩) (by assumption) ?_
        try simp only [Act.put, List.setIfInBounds_toArray, List.set_cons_zero, List.set_cons_succ]
        refine wpAnyH_take (i := 14) (oi := ({ dst := some 122, op := Op.pick (Operand.tmp 114) (Operand.const (Value.bool true)) (Operand.tmp 121), type := 4, pos := "law.go:121", after := _, guard := none } : Oper)) (v := ?_) rfl (by kernel_rfl) (by kernel_rfl) (by kernel_rfl) (fun _ _ _ h => h) (Or.inl ⟨by rfl, ?_⟩) (by assumption) ?_
        rotate_left
        · intro w hSw; (try dsimp only at hSw); go_simp; first | done | with_reducible rfl
        try simp only [Act.put, List.setIfInBounds_toArray, List.set_cons_zero, List.set_cons_succ]
        refine wpAnyH_take (i := 15) (oi := ({ dst := some 8, op := Op.assign (Operand.tmp 122), type := 4, pos := "law.go:121", after := _, guard := none } : Oper)) (v := ?_) rfl (by kernel_rfl) (by kernel_rfl) (by kernel_rfl) (fun _ _ _ h => h) (Or.inl ⟨by rfl, ?_⟩) (by assumption) ?_
        rotate_left
        · intro w hSw; (try dsimp only at hSw); go_simp; first | done | with_reducible rfl
        try simp only [Act.put, List.setIfInBounds_toArray, List.set_cons_zero, List.set_cons_succ]
        refine wpAnyH_done (by kernel_rfl) ?_ _
        have hb := below_drew (Below.refl w17.heap.size w17)
        have HB16 := Lib.hid (below_next HB15.out hb HB15.out.size)
        have HK0_16 := Lib.hid (HK0_15.out.kept hb)
        have HK1_16 := Lib.hid (HK1_15.out.kept hb)
        have HK2_16 := Lib.hid (HK2_15.out.kept hb)
        have HK3_16 := Lib.hid (HK3_15.out.kept hb)
        have HM0_16 := Lib.hid (HM0_15.out.below hb)
        have HM1_16 := Lib.hid (HM1_15.out.below hb)
        have HM2_16 := Lib.hid (HM2_15.out.below hb)
        have HM3_16 := Lib.hid (HM3_15.out.below hb)
        clear hb
        clear HT
        go_wp2_with fail
        go_ret
        exact ⟨rfl, HB16.out⟩
  · skip
    have hkb : (((ke : Nat) : Int) == 0) = false := by rcases hke with rfl | rfl <;> rfl
    rw [he]
    clear he
    go_upto_region 11 with fail
    have HT := Lib.hid (show _ ∧ _ ∧ _ ∧ _ ∧ _ ∧ _ ∧ _ ∧ _ ∧ _ ∧ _ from ⟨HK0_7.out.at_ (i := 0) rfl, HK0_7.out.at_ (i := 1) rfl, HK0_7.out.at_ (i := 2) rfl, HK0_7.out.at_ (i := 3) rfl, HK0_7.out.at_ (i := 4) rfl, HK1_7.out.at_ (i := 0) rfl, HK1_7.out.at_ (i := 1) rfl, HK1_7.out.at_ (i := 2) rfl, HK1_7.out.at_ (i := 3) rfl, HK1_7.out.at_ (i := 4) rfl⟩)
    refine wp_region_held_drew (S := fun w' => w'.cell? ⟨w.heap.size, 0, none⟩ = some (.int .i64 l.f1) ∧ w'.cell? ⟨w.heap.size, 1, none⟩ = some (.int .i64 l.f2) ∧ w'.cell? ⟨w.heap.size, 2, none⟩ = some (.int .i64 l.r) ∧ w'.cell? ⟨w.heap.size, 3, none⟩ = some (.slice A0 l.body.length c0) ∧ w'.cell? ⟨w.heap.size, 4, none⟩ = some (.slice B0 l.tags.length d0) ∧ w'.cell? ⟨w.heap.size + 1, 0, none⟩ = some (.int .i64 k.f1) ∧ w'.cell? ⟨w.heap.size + 1, 1, none⟩ = some (.int .i64 k.f2) ∧ w'.cell? ⟨w.heap.size + 1, 2, none⟩ = some (.int .i64 k.r) ∧ w'.cell? ⟨w.heap.size + 1, 3, none⟩ = some (.slice A1 k.body.length c1) ∧ w'.cell? ⟨w.heap.size + 1, 4, none⟩ = some (.slice B1 k.tags.length d1)) (by kernel_rfl) (HT.out) (fun hHeld => ?_)
    refine wpAnyH_take (i := 0) (oi := ({ dst := some 66, op := Op.move (Operand.tmp 10), type := 32, pos := "law.go:110", after := _, guard := none } : Oper)) (v := ?_) rfl (by kernel_rfl) (by kernel_rfl) (by kernel_rfl) (fun _ _ _ h => h) (Or.inl ⟨by rfl, ?_⟩) (by assumption) ?_
    rotate_left
    · intro w hSw; (try dsimp only at hSw); go_simp; first | done | with_reducible rfl
    try simp only [Act.put, List.setIfInBounds_toArray, List.set_cons_zero, List.set_cons_succ]
    refine wpAnyH_take (i := 1) (oi := ({ dst := some 67, op := Op.binOp BinOp.eql 32 (Operand.tmp 66) (Operand.const (Value.int IntKind.i64 0)) 32, type := 4, pos := "law.go:110", after := _, guard := none } : Oper)) (v := ?_) rfl (by kernel_rfl) (by kernel_rfl) (by kernel_rfl) (fun _ _ _ h => h) (Or.inl ⟨by rfl, ?_⟩) (by assumption) ?_
    rotate_left
    · intro w hSw; (try dsimp only at hSw); go_simp; first | done | with_reducible rfl
    try simp only [Act.put, List.setIfInBounds_toArray, List.set_cons_zero, List.set_cons_succ]
    refine wpAnyH_take (i := 2) (oi := ({ dst := some 68, op := Op.move (Operand.tmp 67), type := 4, pos := "law.go:110", after := _, guard := none } : Oper)) (v := ?_) rfl (by kernel_rfl) (by kernel_rfl) (by kernel_rfl) (fun _ _ _ h => h) (Or.inl ⟨by rfl, ?_⟩) (by assumption) ?_
    rotate_left
    · intro w hSw; (try dsimp only at hSw); go_simp; first | done | with_reducible rfl
    try simp only [Act.put, List.setIfInBounds_toArray, List.set_cons_zero, List.set_cons_succ]
    refine wpAnyH_take (i := 3) (oi := ({ dst := some 69, op := Op.move (Operand.tmp 12), type := 32, pos := "law.go:110", after := _, guard := some (2, true) } : Oper)) (v := undef) rfl (by kernel_rfl) (by kernel_rfl) (by kernel_rfl) (fun _ _ _ h => h) (Or.inr ⟨by rfl, rfl⟩) (by assumption) ?_
    try simp only [Act.put, List.setIfInBounds_toArray, List.set_cons_zero, List.set_cons_succ]
    refine wpAnyH_take (i := 4) (oi := ({ dst := some 70, op := Op.binOp BinOp.eql 32 (Operand.tmp 69) (Operand.const (Value.int IntKind.i64 0)) 32, type := 4, pos := "law.go:110", after := _, guard := some (2, true) } : Oper)) (v := undef) rfl (by kernel_rfl) (by kernel_rfl) (by kernel_rfl) (fun _ _ _ h => h) (Or.inr ⟨by rfl, rfl⟩) (by assumption) ?_
    try simp only [Act.put, List.setIfInBounds_toArray, List.set_cons_zero, List.set_cons_succ]
    refine wpAnyH_take (i := 5) (oi := ({ dst := some 71, op := Op.pick (Operand.tmp 68) (Operand.tmp 70) (Operand.const (Value.bool false)), type := 4, pos := "law.go:110", after := _, guard := none } : Oper)) (v := ?_) rfl (by kernel_rfl) (by kernel_rfl) (by kernel_rfl) (fun _ _ _ h => h) (Or.inl ⟨by rfl, ?_⟩) (by assumption) ?_
    rotate_left
    · intro w hSw; (try dsimp only at hSw); go_simp; first | done | with_reducible rfl
    try simp only [Act.put, List.setIfInBounds_toArray, List.set_cons_zero, List.set_cons_succ]
    refine wpAnyH_take (i := 6) (oi := ({ dst := some 72, op := Op.move (Operand.tmp 71), type := 4, pos := "law.go:110", after := _, guard := none } : Oper)) (v := ?_) rfl (by kernel_rfl) (by kernel_rfl) (by kernel_rfl) (fun _ _ _ h => h) (Or.inl ⟨by rfl, ?_⟩) (by assumption) ?_
    rotate_left
    · intro w hSw; (try dsimp only at hSw); go_simp; first | done | with_reducible rfl
    try simp only [Act.put, List.setIfInBounds_toArray, List.set_cons_zero, List.set_cons_succ]
    refine wpAnyH_take (i := 7) (oi := ({ dst := some 73, op := Op.move (Operand.tmp 9), type := 22, pos := "law.go:110", after := _, guard := some (6, true) } : Oper)) (v := undef) rfl (by kernel_rfl) (by kernel_rfl) (by kernel_rfl) (fun _ _ _ h => h) (Or.inr ⟨by rfl, rfl⟩) (by assumption) ?_
    try simp only [Act.put, List.setIfInBounds_toArray, List.set_cons_zero, List.set_cons_succ]
    refine wpAnyH_take (i := 8) (oi := ({ dst := some 74, op := Op.move (Operand.tmp 11), type := 22, pos := "law.go:110", after := _, guard := some (6, true) } : Oper)) (v := undef) rfl (by kernel_rfl) (by kernel_rfl) (by kernel_rfl) (fun _ _ _ h => h) (Or.inr ⟨by rfl, rfl⟩) (by assumption) ?_
    try simp only [Act.put, List.setIfInBounds_toArray, List.set_cons_zero, List.set_cons_succ]
    refine wpAnyH_take (i := 9) (oi := ({ dst := some 75, op := Op.call { callee := Callee.value (Operand.func 15), args := #[Operand.tmp 73, Operand.tmp 74], argTypes := #[22, 22] }, type := 4, pos := "law.go:110", after := _, guard := some (6, true) } : Oper)) (v := undef) rfl (by kernel_rfl) (by kernel_rfl) (by kernel_rfl) (fun _ _ _ h => h) (Or.inr ⟨by rfl, rfl⟩) (by assumption) ?_
    try simp only [Act.put, List.setIfInBounds_toArray, List.set_cons_zero, List.set_cons_succ]
    refine wpAnyH_take (i := 10) (oi := ({ dst := some 76, op := Op.load 46 (Operand.tmp 4), type := 46, pos := "law.go:110", after := _, guard := some (6, true) } : Oper)) (v := undef) rfl (by kernel_rfl) (by kernel_rfl) (by kernel_rfl) (fun _ _ _ h => h) (Or.inr ⟨by rfl, rfl⟩) (by assumption) ?_
    try simp only [Act.put, List.setIfInBounds_toArray, List.set_cons_zero, List.set_cons_succ]
    refine wpAnyH_take (i := 11) (oi := ({ dst := some 77, op := Op.load 46 (Operand.tmp 5), type := 46, pos := "law.go:110", after := _, guard := some (6, true) } : Oper)) (v := undef) rfl (by kernel_rfl) (by kernel_rfl) (by kernel_rfl) (fun _ _ _ h => h) (Or.inr ⟨by rfl, rfl⟩) (by assumption) ?_
    try simp only [Act.put, List.setIfInBounds_toArray, List.set_cons_zero, List.set_cons_succ]
    refine wpAnyH_take (i := 12) (oi := ({ dst := some 78, op := Op.call { callee := Callee.value (Operand.func 32), args := #[Operand.tmp 76, Operand.tmp 77], argTypes := #[46, 46] }, type := 4, pos := "law.go:110", after := _, guard := some (6, true) } : Oper)) (v := undef) rfl (by kernel_rfl) (by kernel_rfl) (by kernel_rfl) (fun _ _ _ h => h) (Or.inr ⟨by rfl, rfl⟩) (by assumption) ?_
    try simp only [Act.put, List.setIfInBounds_toArray, List.set_cons_zero, List.set_cons_succ]
    refine wpAnyH_take (i := 13) (oi := ({ dst := some 79, op := Op.binOp BinOp.neq 4 (Operand.tmp 75) (Operand.tmp 78) 4, type := 4, pos := "law.go:110", after := _, guard := some (6, true) } : Oper)) (v := undef) rfl (by kernel_rfl) (by kernel_rfl) (by kernel_rfl) (fun _ _ _ h => h) (Or.inr ⟨by rfl, rfl⟩) (by assumption) ?_
    try simp only [Act.put, List.setIfInBounds_toArray, List.set_cons_zero, List.set_cons_succ]
    refine wpAnyH_take (i := 14) (oi := ({ dst := some 80, op := Op.pick (Operand.tmp 72) (Operand.tmp 79) (Operand.const (Value.bool false)), type := 4, pos := "law.go:110", after := _, guard := none } : Oper)) (v := ?_) rfl (by kernel_rfl) (by kernel_rfl) (by kernel_rfl) (fun _ _ _ h => h) (Or.inl ⟨by rfl, ?_⟩) (by assumption) ?_
    rotate_left
    · intro w hSw; (try dsimp only at hSw); go_simp; first | done | with_reducible rfl
    try simp only [Act.put, List.setIfInBounds_toArray, List.set_cons_zero, List.set_cons_succ]
    refine wpAnyH_done (by kernel_rfl) ?_ _
    have hb := below_drew (Below.refl w7.heap.size w7)
    have HB8 := Lib.hid (below_next HB7.out hb HB7.out.size)
    have HK0_8 := Lib.hid (HK0_7.out.kept hb)
    have HK1_8 := Lib.hid (HK1_7.out.kept hb)
    have HK2_8 := Lib.hid (HK2_7.out.kept hb)
    have HK3_8 := Lib.hid (HK3_7.out.kept hb)
    have HM0_8 := Lib.hid (HM0_7.out.below hb)
    have HM1_8 := Lib.hid (HM1_7.out.below hb)
    have HM2_8 := Lib.hid (HM2_7.out.below hb)
    have HM3_8 := Lib.hid (HM3_7.out.below hb)
    clear hb
    clear hkb HT
    have k0 := HK2_8.out.at_ (i := 0) rfl
    have k1 := HK2_8.out.at_ (i := 1) rfl
    have k2 := HK2_8.out.at_ (i := 2) rfl
    have k3 := HK2_8.out.at_ (i := 3) rfl
    go_wp2_with fail
    clear k0 k1 k2 k3
    try clear HD HLN HOK HPK
    try clear hke
    refine (copyEntry_any x A2 c2 _ _ HM2_8.out G2.out).mono ?_
    rintro e w14 ⟨hb, E0, f0, rfl, hr⟩
    have HB9 := Lib.hid (below_next HB8.out hb HB8.out.size)
    have HK0_9 := Lib.hid (HK0_8.out.kept hb)
    have HK1_9 := Lib.hid (HK1_8.out.kept hb)
    have HK2_9 := Lib.hid (HK2_8.out.kept hb)
    have HK3_9 := Lib.hid (HK3_8.out.kept hb)
    have HM0_9 := Lib.hid (HM0_8.out.below hb)
    have HM1_9 := Lib.hid (HM1_8.out.below hb)
    have HM2_9 := Lib.hid (HM2_8.out.below hb)
    have HM3_9 := Lib.hid (HM3_8.out.below hb)
    have HR9 := Lib.hid (hr)
    clear hb hr
    go_wp2_with fail
    refine (packEntryX_any x E0 f0 _ HR9.out.all).mono ?_
    rintro e w15 ⟨hb, A15, n15, c15, rfl, ho⟩
    have HB10 := Lib.hid (below_next HB9.out hb HB9.out.size)
    have HK0_10 := Lib.hid (HK0_9.out.kept hb)
    have HK1_10 := Lib.hid (HK1_9.out.kept hb)
    have HK2_10 := Lib.hid (HK2_9.out.kept hb)
    have HK3_10 := Lib.hid (HK3_9.out.kept hb)
    have HM0_10 := Lib.hid (HM0_9.out.below hb)
    have HM1_10 := Lib.hid (HM1_9.out.below hb)
    have HM2_10 := Lib.hid (HM2_9.out.below hb)
    have HM3_10 := Lib.hid (HM3_9.out.below hb)
    have HP10 := Lib.hid (Sl.own ho)
    clear hb ho
    have k0 := HK3_10.out.at_ (i := 0) rfl
    have k1 := HK3_10.out.at_ (i := 1) rfl
    have k2 := HK3_10.out.at_ (i := 2) rfl
    have k3 := HK3_10.out.at_ (i := 3) rfl
    go_wp2_with fail
    clear k0 k1 k2 k3
    refine (copyEntry_any y A3 c3 _ _ HM3_10.out G3.out).mono ?_
    rintro e w16 ⟨hb, F0, j0, rfl, hr⟩
    have HB11 := Lib.hid (below_next HB10.out hb HB10.out.size)
    have HK0_11 := Lib.hid (HK0_10.out.kept hb)
    have HK1_11 := Lib.hid (HK1_10.out.kept hb)
    have HK2_11 := Lib.hid (HK2_10.out.kept hb)
    have HK3_11 := Lib.hid (HK3_10.out.kept hb)
    have HM0_11 := Lib.hid (HM0_10.out.below hb)
    have HM1_11 := Lib.hid (HM1_10.out.below hb)
    have HM2_11 := Lib.hid (HM2_10.out.below hb)
    have HM3_11 := Lib.hid (HM3_10.out.below hb)
    have HP11 := Lib.hid (HP10.out.below hb)
    have HR11 := Lib.hid (hr)
    clear hb hr
    go_wp2_with fail
    refine (packEntryX_any y F0 j0 _ HR11.out.all).mono ?_
    rintro e w17 ⟨hb, A17, n17, c17, rfl, ho⟩
    have HB12 := Lib.hid (below_next HB11.out hb HB11.out.size)
    have HK0_12 := Lib.hid (HK0_11.out.kept hb)
    have HK1_12 := Lib.hid (HK1_11.out.kept hb)
    have HK2_12 := Lib.hid (HK2_11.out.kept hb)
    have HK3_12 := Lib.hid (HK3_11.out.kept hb)
    have HM0_12 := Lib.hid (HM0_11.out.below hb)
    have HM1_12 := Lib.hid (HM1_11.out.below hb)
    have HM2_12 := Lib.hid (HM2_11.out.below hb)
    have HM3_12 := Lib.hid (HM3_11.out.below hb)
    have HP12 := Lib.hid (HP11.out.below hb)
    have HU12 := Lib.hid (Sl.own ho)
    clear hb ho
    rcases en_cases x with ⟨a, he, hok, hp⟩ | he
    · skip
      have HD := Lib.hid (decen_pack hok hp)
      have HLN := Lib.hid (show a.length ≤ 4294967296 by rw [← hp]; exact en_len hok)
      have HOK := Lib.hid hok
      have HPK := Lib.hid hp
      have hoa : Sl w17 A15 n15 c15 a := by have := HP12.out; rw [he] at this; exact this
      rw [he]
      clear he hok hp
      have HP12 := Lib.hid (hoa)
      clear hoa
      rcases en_cases y with ⟨b, he, hok, hp⟩ | he
      · skip
        have hob : Sl w17 A17 n17 c17 b := by have := HU12.out; rw [he] at this; exact this
        rw [he]
        have HU12 := Lib.hid (hob)
        by_cases hlk : x = y
        · skip
          have HNK := Lib.hid hlk
          obtain rfl : b = a := by have h1 := HPK.out; rw [hlk, hp] at h1; exact h1
          clear he hok hp hob hlk
          go_wp2_with fail
          refine (readEntryX_any A15 n15 c15 _ _ HP12.out (by have h1 := HP12.out.len; have h2 := HLN.out; omega)).mono ?_
          rintro e w9 ⟨hb, ⟨m5, I0, i0, hd, rfl, hr⟩ | ⟨hd, rfl⟩⟩
          rotate_left
          · rw [HD.out] at hd; cases hd
          rw [HD.out] at hd
          injection hd with hd
          subst hd
          have HB13 := Lib.hid (below_next HB12.out hb HB12.out.size)
          have HK0_13 := Lib.hid (HK0_12.out.kept hb)
          have HK1_13 := Lib.hid (HK1_12.out.kept hb)
          have HK2_13 := Lib.hid (HK2_12.out.kept hb)
          have HK3_13 := Lib.hid (HK3_12.out.kept hb)
          have HM0_13 := Lib.hid (HM0_12.out.below hb)
          have HM1_13 := Lib.hid (HM1_12.out.below hb)
          have HM2_13 := Lib.hid (HM2_12.out.below hb)
          have HM3_13 := Lib.hid (HM3_12.out.below hb)
          have HP13 := Lib.hid (HP12.out.below hb)
          have HU13 := Lib.hid (HU12.out.below hb)
          have HR13 := Lib.hid (hr)
          clear hb hr
          have hal := (Below.refl w9.heap.size w9).alloc (Nat.le_refl _) (.cells #[.int .i64 x.c, .int .i64 x.s, .int .i64 x.t, .slice I0 x.dig.length i0] 24)
          have HB14 := Lib.hid (below_next HB13.out hal HB13.out.size)
          have HK0_14 := Lib.hid (HK0_13.out.kept hal)
          have HK1_14 := Lib.hid (HK1_13.out.kept hal)
          have HK2_14 := Lib.hid (HK2_13.out.kept hal)
          have HK3_14 := Lib.hid (HK3_13.out.kept hal)
          have HM0_14 := Lib.hid (HM0_13.out.below hal)
          have HM1_14 := Lib.hid (HM1_13.out.below hal)
          have HM2_14 := Lib.hid (HM2_13.out.below hal)
          have HM3_14 := Lib.hid (HM3_13.out.below hal)
          have HP14 := Lib.hid (HP13.out.below hal)
          have HU14 := Lib.hid (HU13.out.below hal)
          have HR14 := Lib.hid (HR13.out.below hal)
          clear hal
          have k0 := HK2_14.out.at_ (i := 0) rfl
          have k1 := HK2_14.out.at_ (i := 1) rfl
          have k2 := HK2_14.out.at_ (i := 2) rfl
          have k3 := HK2_14.out.at_ (i := 3) rfl
          go_wp2_with fail
          clear k0 k1 k2 k3
          refine (sameEntry_self x I0 A2 i0 c2 _ _ _ HR14.out HM2_14.out).mono ?_
          rintro e w10 ⟨rfl, hb⟩
          have HB15 := Lib.hid (below_next HB14.out hb HB14.out.size)
          have HK0_15 := Lib.hid (HK0_14.out.kept hb)
          have HK1_15 := Lib.hid (HK1_14.out.kept hb)
          have HK2_15 := Lib.hid (HK2_14.out.kept hb)
          have HK3_15 := Lib.hid (HK3_14.out.kept hb)
          have HM0_15 := Lib.hid (HM0_14.out.below hb)
          have HM1_15 := Lib.hid (HM1_14.out.below hb)
          have HM2_15 := Lib.hid (HM2_14.out.below hb)
          have HM3_15 := Lib.hid (HM3_14.out.below hb)
          have HP15 := Lib.hid (HP14.out.below hb)
          have HU15 := Lib.hid (HU14.out.below hb)
          clear hb
          go_upto_region 19 with fail
          have HT := Lib.hid (show _ ∧ _ ∧ _ ∧ _ ∧ _ ∧ _ ∧ _ ∧ _ from ⟨HK2_15.out.at_ (i := 0) rfl, HK2_15.out.at_ (i := 1) rfl, HK2_15.out.at_ (i := 2) rfl, HK2_15.out.at_ (i := 3) rfl, HK3_15.out.at_ (i := 0) rfl, HK3_15.out.at_ (i := 1) rfl, HK3_15.out.at_ (i := 2) rfl, HK3_15.out.at_ (i := 3) rfl⟩)
          refine wp_region_held_drew (S := fun w' => w'.cell? ⟨w.heap.size + 1 + 1, 0, none⟩ = some (.int .i64 x.c) ∧ w'.cell? ⟨w.heap.size + 1 + 1, 1, none⟩ = some (.int .i64 x.s) ∧ w'.cell? ⟨w.heap.size + 1 + 1, 2, none⟩ = some (.int .i64 x.t) ∧ w'.cell? ⟨w.heap.size + 1 + 1, 3, none⟩ = some (.slice A2 x.dig.length c2) ∧ w'.cell? ⟨w.heap.size + 1 + 1 + 1, 0, none⟩ = some (.int .i64 y.c) ∧ w'.cell? ⟨w.heap.size + 1 + 1 + 1, 1, none⟩ = some (.int .i64 y.s) ∧ w'.cell? ⟨w.heap.size + 1 + 1 + 1, 2, none⟩ = some (.int .i64 y.t) ∧ w'.cell? ⟨w.heap.size + 1 + 1 + 1, 3, none⟩ = some (.slice A3 y.dig.length c3)) (by kernel_rfl) (HT.out) (fun hHeld => ?_)
          refine wpAnyH_take (i := 0) (oi := ({ dst := some 108, op := Op.move (Operand.tmp 10), type := 32, pos := "law.go:121", after := _, guard := none } : Oper)) (v := ?_) rfl (by kernel_rfl) (by kernel_rfl) (by kernel_rfl) (fun _ _ _ h => h) (Or.inl ⟨by rfl, ?_⟩) (by assumption) ?_
          rotate_left
          · intro w hSw; (try dsimp only at hSw); go_simp; first | done | with_reducible rfl
          try simp only [Act.put, List.setIfInBounds_toArray, List.set_cons_zero, List.set_cons_succ]
          refine wpAnyH_take (i := 1) (oi := ({ dst := some 109, op := Op.binOp BinOp.neq 32 (Operand.tmp 108) (Operand.const (Value.int IntKind.i64 0)) 32, type := 4, pos := "law.go:121", after := _, guard := none } : Oper)) (v := ?_) rfl (by kernel_rfl) (by kernel_rfl) (by kernel_rfl) (fun _ _ _ h => h) (Or.inl ⟨by rfl, ?_⟩) (by assumption) ?_
          rotate_left
          · intro w hSw; (try dsimp only at hSw); go_simp; first | done | with_reducible rfl
          try simp only [Act.put, List.setIfInBounds_toArray, List.set_cons_zero, List.set_cons_succ]
          refine wpAnyH_take (i := 2) (oi := ({ dst := some 110, op := Op.move (Operand.tmp 109), type := 4, pos := "law.go:121", after := _, guard := none } : Oper)) (v := ?_) rfl (by kernel_rfl) (by kernel_rfl) (by kernel_rfl) (fun _ _ _ h => h) (Or.inl ⟨by rfl, ?_⟩) (by assumption) ?_
          rotate_left
          · intro w hSw; (try dsimp only at hSw); go_simp; first | done | with_reducible rfl
          try simp only [Act.put, List.setIfInBounds_toArray, List.set_cons_zero, List.set_cons_succ]
          refine wpAnyH_take (i := 3) (oi := ({ dst := some 111, op := Op.move (Operand.tmp 12), type := 32, pos := "law.go:121", after := _, guard := some (2, false) } : Oper)) (v := ?_) rfl (by kernel_rfl) (by kernel_rfl) (by kernel_rfl) (fun _ _ _ h => h) (Or.inl ⟨by rfl, ?_⟩) (by assumption) ?_
          rotate_left
          · intro w hSw; (try dsimp only at hSw); go_simp; first | done | with_reducible rfl
          try simp only [Act.put, List.setIfInBounds_toArray, List.set_cons_zero, List.set_cons_succ]
          refine wpAnyH_take (i := 4) (oi := ({ dst := some 112, op := Op.binOp BinOp.neq 32 (Operand.tmp 111) (Operand.const (Value.int IntKind.i64 0)) 32, type := 4, pos := "law.go:121", after := _, guard := some (2, false) } : Oper)) (v := ?_) rfl (by kernel_rfl) (by kernel_rfl) (by kernel_rfl) (fun _ _ _ h => h) (Or.inl ⟨by rfl, ?_⟩) (by assumption) ?_
          rotate_left
          · intro w hSw; (try dsimp only at hSw); go_simp; first | done | with_reducible rfl
          try simp only [Act.put, List.setIfInBounds_toArray, List.set_cons_zero, List.set_cons_succ]
          refine wpAnyH_take (i := 5) (oi := ({ dst := some 113, op := Op.pick (Operand.tmp 110) (Operand.const (Value.bool true)) (Operand.tmp 112), type := 4, pos := "law.go:121", after := _, guard := none } : Oper)) (v := ?_) rfl (by kernel_rfl) (by kernel_rfl) (by kernel_rfl) (fun _ _ _ h => h) (Or.inl ⟨by rfl, ?_⟩) (by assumption) ?_
          rotate_left
          · intro w hSw; (try dsimp only at hSw); go_simp; first | done | with_reducible rfl
          try simp only [Act.put, List.setIfInBounds_toArray, List.set_cons_zero, List.set_cons_succ]
          refine wpAnyH_take (i := 6) (oi := ({ dst := some 114, op := Op.move (Operand.tmp 113), type := 4, pos := "law.go:121", after := _, guard := none } : Oper)) (v := ?_) rfl (by kernel_rfl) (by kernel_rfl) (by kernel_rfl) (fun _ _ _ h => h) (Or.inl ⟨by rfl, ?_⟩) (by assumption) ?_
          rotate_left
          · intro w hSw; (try dsimp only at hSw); go_simp; first | done | with_reducible rfl
          try simp only [Act.put, List.setIfInBounds_toArray, List.set_cons_zero, List.set_cons_succ]
          refine wpAnyH_take (i := 7) (oi := ({ dst := some 115, op := Op.move (Operand.tmp 15), type := 22, pos := "law.go:121", after := _, guard := some (6, false) } : Oper)) (v := ?_) rfl (by kernel_rfl) (by kernel_rfl) (by kernel_rfl) (fun _ _ _ h => h) (Or.inl ⟨by rfl, ?_⟩) (by assumption) ?_
          rotate_left
          · intro w hSw; (try dsimp only at hSw); go_simp; first | done | with_reducible rfl
          try simp only [Act.put, List.setIfInBounds_toArray, List.set_cons_zero, List.set_cons_succ]
          refine wpAnyH_take (i := 8) (oi := ({ dst := some 116, op := Op.move (Operand.tmp 16), type := 22, pos := "law.go:121", after := _, guard := some (6, false) } : Oper)) (v := ?_) rfl (by kernel_rfl) (by kernel_rfl) (by kernel_rfl) (fun _ _ _ h => h) (Or.inl ⟨by rfl, ?_⟩) (by assumption) ?_
          rotate_left
          · intro w hSw; (try dsimp only at hSw); go_simp; first | done | with_reducible rfl
          try simp only [Act.put, List.setIfInBounds_toArray, List.set_cons_zero, List.set_cons_succ]
          refine wpAnyH_take (i := 10) (oi := ({ dst := some 118, op := Op.load 24 (Operand.tmp 6), type := 24, pos := "law.go:121", after := _, guard := some (6, false) } : Oper)) (v := ?_) rfl (by kernel_rfl) (by kernel_rfl) (by kernel_rfl) (fun _ _ _ h => h) (Or.inl ⟨by rfl, ?_⟩) (by assumption) ?_
          rotate_left
          · intro w hSw; (try dsimp only at hSw); go_simp; first | done | with_reducible rfl
          try simp only [Act.put, List.setIfInBounds_toArray, List.set_cons_zero, List.set_cons_succ]
          refine wpAnyH_take (i := 11) (oi := ({ dst := some 119, op := Op.load 24 (Operand.tmp 7), type := 24, pos := "law.go:121", after := _, guard := some (6, false) } : Oper)) (v := ?_) rfl (by kernel_rfl) (by kernel_rfl) (by kernel_rfl) (fun _ _ _ h => h) (Or.inl ⟨by rfl, ?_⟩) (by assumption) ?_
          rotate_left
          · intro w hSw; (try dsimp only at hSw); go_simp; first | done | with_reducible rfl
          try simp only [Act.put, List.setIfInBounds_toArray, List.set_cons_zero, List.set_cons_succ]
          refine wpAnyH_ready (rs := [9]) (by kernel_rfl) (by simp) ?_
          refine AllReadyH.cons (o := ({ dst := some 117, op := Op.call { callee := Callee.value (Operand.func 15), args := #[Operand.tmp 115, Operand.tmp 116], argTypes := #[22, 22] }, type := 4, pos := "law.go:121", after := _, guard := some (6, false) } : Oper)) rfl (fun K hK => ?_) AllReadyH.nil
          go_simp
          refine (sameB_two (Sl.drew HP15.out) (Sl.drew HU15.out)).mono ?_
          rintro e w12 ⟨rfl, hb⟩
          replace hb : Below w10.heap.size w10 w12 := ⟨hb.os, hb.tape, hb.output, hb.size, hb.block⟩
          have HB16 := Lib.hid (below_next HB15.out hb HB15.out.size)
          have HK0_16 := Lib.hid (HK0_15.out.kept hb)
          have HK1_16 := Lib.hid (HK1_15.out.kept hb)
          have HK2_16 := Lib.hid (HK2_15.out.kept hb)
          have HK3_16 := Lib.hid (HK3_15.out.kept hb)
          have HM0_16 := Lib.hid (HM0_15.out.below hb)
          have HM1_16 := Lib.hid (HM1_15.out.below hb)
          have HM2_16 := Lib.hid (HM2_15.out.below hb)
          have HM3_16 := Lib.hid (HM3_15.out.below hb)
          clear hb HT
          have HT := Lib.hid (show _ ∧ _ ∧ _ ∧ _ ∧ _ ∧ _ ∧ _ ∧ _ from ⟨HK2_16.out.at_ (i := 0) rfl, HK2_16.out.at_ (i := 1) rfl, HK2_16.out.at_ (i := 2) rfl, HK2_16.out.at_ (i := 3) rfl, HK3_16.out.at_ (i := 0) rfl, HK3_16.out.at_ (i := 1) rfl, HK3_16.out.at_ (i := 2) rfl, HK3_16.out.at_ (i := 3) rfl⟩)
          go_wp2_with fail
          refine hK.out _ _ (HT.out) (fun hHeld => ?_)
          clear hK K
          try simp only [Act.put, List.setIfInBounds_toArray, List.set_cons_zero, List.set_cons_succ]
          refine wpAnyH_ready (rs := [12]) (by kernel_rfl) (by simp) ?_
          refine AllReadyH.cons (o := ({ dst := some 120, op := Op.call { callee := Callee.value (Operand.func 33), args := #[Operand.tmp 118, Operand.tmp 119], argTypes := #[24, 24] }, type := 4, pos := "law.go:121", after := _, guard := some (6, false) } : Oper)) rfl (fun K hK => ?_) AllReadyH.nil
          go_simp
          refine (sameEn_yes x y A2 A3 c2 c3 _ _ _ HM2_16.out HM3_16.out HNK.out).mono ?_
          rintro e w13 ⟨rfl, hb⟩
          have HB17 := Lib.hid (below_next HB16.out hb HB16.out.size)
          have HK0_17 := Lib.hid (HK0_16.out.kept hb)
          have HK1_17 := Lib.hid (HK1_16.out.kept hb)
          have HK2_17 := Lib.hid (HK2_16.out.kept hb)
          have HK3_17 := Lib.hid (HK3_16.out.kept hb)
          have HM0_17 := Lib.hid (HM0_16.out.below hb)
          have HM1_17 := Lib.hid (HM1_16.out.below hb)
          have HM2_17 := Lib.hid (HM2_16.out.below hb)
          have HM3_17 := Lib.hid (HM3_16.out.below hb)
          clear hb HT
          have HT := Lib.hid (show _ ∧ _ ∧ _ ∧ _ ∧ _ ∧ _ ∧ _ ∧ _ from ⟨HK2_17.out.at_ (i := 0) rfl, HK2_17.out.at_ (i := 1) rfl, HK2_17.out.at_ (i := 2) rfl, HK2_17.out.at_ (i := 3) rfl, HK3_17.out.at_ (i := 0) rfl, HK3_17.out.at_ (i := 1) rfl, HK3_17.out.at_ (i := 2) rfl, HK3_17.out.at_ (i := 3) rfl⟩)
          go_wp2_with fail
          refine hK.out _ _ (HT.out) (fun hHeld => ?_)
          clear hK K
          try simp only [Act.put, List.setIfInBounds_toArray, List.set_cons_zero, List.set_cons_succ]
          refine wpAnyH_take (i := 13) (oi := ({ dst := some 121, op := Op.binOp BinOp.eql 4 (Operand.tmp 117) (Operand.tmp 120) 4, type := 4, pos := "law.go:121", after := _, guard := some (6, false) } : Oper)) (v := ?_) rfl (by kernel_rfl) (by kernel_rfl) (by kernel_rfl) (fun _ _ _ h => h) (Or.inl ⟨by rfl, ?_⟩) (by assumption) ?_
          rotate_left
          · intro w hSw; (try dsimp only at hSw); go_simp; first | done | with_reducible rfl
          try simp only [Act.put, List.setIfInBounds_toArray, List.set_cons_zero, List.set_cons_succ]
          refine wpAnyH_take (i := 14) (oi := ({ dst := some 122, op := Op.pick (Operand.tmp 114) (Operand.const (Value.bool true)) (Operand.tmp 121), type := 4, pos := "law.go:121", after := _, guard := none } : Oper)) (v := ?_) rfl (by kernel_rfl) (by kernel_rfl) (by kernel_rfl) (fun _ _ _ h => h) (Or.inl ⟨by rfl, ?_⟩) (by assumption) ?_
          rotate_left
          · intro w hSw; (try dsimp only at hSw); go_simp; first | done | with_reducible rfl
          try simp only [Act.put, List.setIfInBounds_toArray, List.set_cons_zero, List.set_cons_succ]
          refine wpAnyH_take (i := 15) (oi := ({ dst := some 8, op := Op.assign (Operand.tmp 122), type := 4, pos := "law.go:121", after := _, guard := none } : Oper)) (v := ?_) rfl (by kernel_rfl) (by kernel_rfl) (by kernel_rfl) (fun _ _ _ h => h) (Or.inl ⟨by rfl, ?_⟩) (by assumption) ?_
          rotate_left
          · intro w hSw; (try dsimp only at hSw); go_simp; first | done | with_reducible rfl
          try simp only [Act.put, List.setIfInBounds_toArray, List.set_cons_zero, List.set_cons_succ]
          refine wpAnyH_done (by kernel_rfl) ?_ _
          clear HT HNK
          go_wp2_with fail
          go_ret
          exact ⟨rfl, HB17.out⟩
        · skip
          have HNK := Lib.hid hlk
          have HNE := Lib.hid (show a ≠ b by rintro rfl; exact hlk (en_inj HOK.out hok (HPK.out.trans hp.symm)))
          clear he hok hp hob hlk
          go_wp2_with fail
          refine (readEntryX_any A15 n15 c15 _ _ HP12.out (by have h1 := HP12.out.len; have h2 := HLN.out; omega)).mono ?_
          rintro e w9 ⟨hb, ⟨m5, I0, i0, hd, rfl, hr⟩ | ⟨hd, rfl⟩⟩
          rotate_left
          · rw [HD.out] at hd; cases hd
          rw [HD.out] at hd
          injection hd with hd
          subst hd
          have HB13 := Lib.hid (below_next HB12.out hb HB12.out.size)
          have HK0_13 := Lib.hid (HK0_12.out.kept hb)
          have HK1_13 := Lib.hid (HK1_12.out.kept hb)
          have HK2_13 := Lib.hid (HK2_12.out.kept hb)
          have HK3_13 := Lib.hid (HK3_12.out.kept hb)
          have HM0_13 := Lib.hid (HM0_12.out.below hb)
          have HM1_13 := Lib.hid (HM1_12.out.below hb)
          have HM2_13 := Lib.hid (HM2_12.out.below hb)
          have HM3_13 := Lib.hid (HM3_12.out.below hb)
          have HP13 := Lib.hid (HP12.out.below hb)
          have HU13 := Lib.hid (HU12.out.below hb)
          have HR13 := Lib.hid (hr)
          clear hb hr
          have hal := (Below.refl w9.heap.size w9).alloc (Nat.le_refl _) (.cells #[.int .i64 x.c, .int .i64 x.s, .int .i64 x.t, .slice I0 x.dig.length i0] 24)
          have HB14 := Lib.hid (below_next HB13.out hal HB13.out.size)
          have HK0_14 := Lib.hid (HK0_13.out.kept hal)
          have HK1_14 := Lib.hid (HK1_13.out.kept hal)
          have HK2_14 := Lib.hid (HK2_13.out.kept hal)
          have HK3_14 := Lib.hid (HK3_13.out.kept hal)
          have HM0_14 := Lib.hid (HM0_13.out.below hal)
          have HM1_14 := Lib.hid (HM1_13.out.below hal)
          have HM2_14 := Lib.hid (HM2_13.out.below hal)
          have HM3_14 := Lib.hid (HM3_13.out.below hal)
          have HP14 := Lib.hid (HP13.out.below hal)
          have HU14 := Lib.hid (HU13.out.below hal)
          have HR14 := Lib.hid (HR13.out.below hal)
          clear hal
          have k0 := HK2_14.out.at_ (i := 0) rfl
          have k1 := HK2_14.out.at_ (i := 1) rfl
          have k2 := HK2_14.out.at_ (i := 2) rfl
          have k3 := HK2_14.out.at_ (i := 3) rfl
          go_wp2_with fail
          clear k0 k1 k2 k3
          refine (sameEntry_self x I0 A2 i0 c2 _ _ _ HR14.out HM2_14.out).mono ?_
          rintro e w10 ⟨rfl, hb⟩
          have HB15 := Lib.hid (below_next HB14.out hb HB14.out.size)
          have HK0_15 := Lib.hid (HK0_14.out.kept hb)
          have HK1_15 := Lib.hid (HK1_14.out.kept hb)
          have HK2_15 := Lib.hid (HK2_14.out.kept hb)
          have HK3_15 := Lib.hid (HK3_14.out.kept hb)
          have HM0_15 := Lib.hid (HM0_14.out.below hb)
          have HM1_15 := Lib.hid (HM1_14.out.below hb)
          have HM2_15 := Lib.hid (HM2_14.out.below hb)
          have HM3_15 := Lib.hid (HM3_14.out.below hb)
          have HP15 := Lib.hid (HP14.out.below hb)
          have HU15 := Lib.hid (HU14.out.below hb)
          clear hb
          go_upto_region 19 with fail
          have HT := Lib.hid (show _ ∧ _ ∧ _ ∧ _ ∧ _ ∧ _ ∧ _ ∧ _ from ⟨HK2_15.out.at_ (i := 0) rfl, HK2_15.out.at_ (i := 1) rfl, HK2_15.out.at_ (i := 2) rfl, HK2_15.out.at_ (i := 3) rfl, HK3_15.out.at_ (i := 0) rfl, HK3_15.out.at_ (i := 1) rfl, HK3_15.out.at_ (i := 2) rfl, HK3_15.out.at_ (i := 3) rfl⟩)
          refine wp_region_held_drew (S := fun w' => w'.cell? ⟨w.heap.size + 1 + 1, 0, none⟩ = some (.int .i64 x.c) ∧ w'.cell? ⟨w.heap.size + 1 + 1, 1, none⟩ = some (.int .i64 x.s) ∧ w'.cell? ⟨w.heap.size + 1 + 1, 2, none⟩ = some (.int .i64 x.t) ∧ w'.cell? ⟨w.heap.size + 1 + 1, 3, none⟩ = some (.slice A2 x.dig.length c2) ∧ w'.cell? ⟨w.heap.size + 1 + 1 + 1, 0, none⟩ = some (.int .i64 y.c) ∧ w'.cell? ⟨w.heap.size + 1 + 1 + 1, 1, none⟩ = some (.int .i64 y.s) ∧ w'.cell? ⟨w.heap.size + 1 + 1 + 1, 2, none⟩ = some (.int .i64 y.t) ∧ w'.cell? ⟨w.heap.size + 1 + 1 + 1, 3, none⟩ = some (.slice A3 y.dig.length c3)) (by kernel_rfl) (HT.out) (fun hHeld => ?_)
          refine wpAnyH_take (i := 0) (oi := ({ dst := some 108, op := Op.move (Operand.tmp 10), type := 32, pos := "law.go:121", after := _, guard := none } : Oper)) (v := ?_) rfl (by kernel_rfl) (by kernel_rfl) (by kernel_rfl) (fun _ _ _ h => h) (Or.inl ⟨by rfl, ?_⟩) (by assumption) ?_
          rotate_left
          · intro w hSw; (try dsimp only at hSw); go_simp; first | done | with_reducible rfl
          try simp only [Act.put, List.setIfInBounds_toArray, List.set_cons_zero, List.set_cons_succ]
          refine wpAnyH_take (i := 1) (oi := ({ dst := some 109, op := Op.binOp BinOp.neq 32 (Operand.tmp 108) (Operand.const (Value.int IntKind.i64 0)) 32, type := 4, pos := "law.go:121", after := _, guard := none } : Oper)) (v := ?_) rfl (by kernel_rfl) (by kernel_rfl) (by kernel_rfl) (fun _ _ _ h => h) (Or.inl ⟨by rfl, ?_⟩) (by assumption) ?_
          rotate_left
          · intro w hSw; (try dsimp only at hSw); go_simp; first | done | with_reducible rfl
          try simp only [Act.put, List.setIfInBounds_toArray, List.set_cons_zero, List.set_cons_succ]
          refine wpAnyH_take (i := 2) (oi := ({ dst := some 110, op := Op.move (Operand.tmp 109), type := 4, pos := "law.go:121", after := _, guard := none } : Oper)) (v := ?_) rfl (by kernel_rfl) (by kernel_rfl) (by kernel_rfl) (fun _ _ _ h => h) (Or.inl ⟨by rfl, ?_⟩) (by assumption) ?_
          rotate_left
          · intro w hSw; (try dsimp only at hSw); go_simp; first | done | with_reducible rfl
          try simp only [Act.put, List.setIfInBounds_toArray, List.set_cons_zero, List.set_cons_succ]
          refine wpAnyH_take (i := 3) (oi := ({ dst := some 111, op := Op.move (Operand.tmp 12), type := 32, pos := "law.go:121", after := _, guard := some (2, false) } : Oper)) (v := ?_) rfl (by kernel_rfl) (by kernel_rfl) (by kernel_rfl) (fun _ _ _ h => h) (Or.inl ⟨by rfl, ?_⟩) (by assumption) ?_
          rotate_left
          · intro w hSw; (try dsimp only at hSw); go_simp; first | done | with_reducible rfl
          try simp only [Act.put, List.setIfInBounds_toArray, List.set_cons_zero, List.set_cons_succ]
          refine wpAnyH_take (i := 4) (oi := ({ dst := some 112, op := Op.binOp BinOp.neq 32 (Operand.tmp 111) (Operand.const (Value.int IntKind.i64 0)) 32, type := 4, pos := "law.go:121", after := _, guard := some (2, false) } : Oper)) (v := ?_) rfl (by kernel_rfl) (by kernel_rfl) (by kernel_rfl) (fun _ _ _ h => h) (Or.inl ⟨by rfl, ?_⟩) (by assumption) ?_
          rotate_left
          · intro w hSw; (try dsimp only at hSw); go_simp; first | done | with_reducible rfl
          try simp only [Act.put, List.setIfInBounds_toArray, List.set_cons_zero, List.set_cons_succ]
          refine wpAnyH_take (i := 5) (oi := ({ dst := some 113, op := Op.pick (Operand.tmp 110) (Operand.const (Value.bool true)) (Operand.tmp 112), type := 4, pos := "law.go:121", after := _, guard := none } : Oper)) (v := ?_) rfl (by kernel_rfl) (by kernel_rfl) (by kernel_rfl) (fun _ _ _ h => h) (Or.inl ⟨by rfl, ?_⟩) (by assumption) ?_
          rotate_left
          · intro w hSw; (try dsimp only at hSw); go_simp; first | done | with_reducible rfl
          try simp only [Act.put, List.setIfInBounds_toArray, List.set_cons_zero, List.set_cons_succ]
          refine wpAnyH_take (i := 6) (oi := ({ dst := some 114, op := Op.move (Operand.tmp 113), type := 4, pos := "law.go:121", after := _, guard := none } : Oper)) (v := ?_) rfl (by kernel_rfl) (by kernel_rfl) (by kernel_rfl) (fun _ _ _ h => h) (Or.inl ⟨by rfl, ?_⟩) (by assumption) ?_
          rotate_left
          · intro w hSw; (try dsimp only at hSw); go_simp; first | done | with_reducible rfl
          try simp only [Act.put, List.setIfInBounds_toArray, List.set_cons_zero, List.set_cons_succ]
          refine wpAnyH_take (i := 7) (oi := ({ dst := some 115, op := Op.move (Operand.tmp 15), type := 22, pos := "law.go:121", after := _, guard := some (6, false) } : Oper)) (v := ?_) rfl (by kernel_rfl) (by kernel_rfl) (by kernel_rfl) (fun _ _ _ h => h) (Or.inl ⟨by rfl, ?_⟩) (by assumption) ?_
          rotate_left
          · intro w hSw; (try dsimp only at hSw); go_simp; first | done | with_reducible rfl
          try simp only [Act.put, List.setIfInBounds_toArray, List.set_cons_zero, List.set_cons_succ]
          refine wpAnyH_take (i := 8) (oi := ({ dst := some 116, op := Op.move (Operand.tmp 16), type := 22, pos := "law.go:121", after := _, guard := some (6, false) } : Oper)) (v := ?_) rfl (by kernel_rfl) (by kernel_rfl) (by kernel_rfl) (fun _ _ _ h => h) (Or.inl ⟨by rfl, ?_⟩) (by assumption) ?_
          rotate_left
          · intro w hSw; (try dsimp only at hSw); go_simp; first | done | with_reducible rfl
          try simp only [Act.put, List.setIfInBounds_toArray, List.set_cons_zero, List.set_cons_succ]
          refine wpAnyH_take (i := 10) (oi := ({ dst := some 118, op := Op.load 24 (Operand.tmp 6), type := 24, pos := "law.go:121", after := _, guard := some (6, false) } : Oper)) (v := ?_) rfl (by kernel_rfl) (by kernel_rfl) (by kernel_rfl) (fun _ _ _ h => h) (Or.inl ⟨by rfl, ?_⟩) (by assumption) ?_
          rotate_left
          · intro w hSw; (try dsimp only at hSw); go_simp; first | done | with_reducible rfl
          try simp only [Act.put, List.setIfInBounds_toArray, List.set_cons_zero, List.set_cons_succ]
          refine wpAnyH_take (i := 11) (oi := ({ dst := some 119, op := Op.load 24 (Operand.tmp 7), type := 24, pos := "law.go:121", after := _, guard := some (6, false) } : Oper)) (v := ?_) rfl (by kernel_rfl) (by kernel_rfl) (by kernel_rfl) (fun _ _ _ h => h) (Or.inl ⟨by rfl, ?_⟩) (by assumption) ?_
          rotate_left
          · intro w hSw; (try dsimp only at hSw); go_simp; first | done | with_reducible rfl
          try simp only [Act.put, List.setIfInBounds_toArray, List.set_cons_zero, List.set_cons_succ]
          refine wpAnyH_ready (rs := [9]) (by kernel_rfl) (by simp) ?_
          refine AllReadyH.cons (o := ({ dst := some 117, op := Op.call { callee := Callee.value (Operand.func 15), args := #[Operand.tmp 115, Operand.tmp 116], argTypes := #[22, 22] }, type := 4, pos := "law.go:121", after := _, guard := some (6, false) } : Oper)) rfl (fun K hK => ?_) AllReadyH.nil
          go_simp
          refine (sameB_no (Sl.drew HP15.out) (Sl.drew HU15.out) HNE.out).mono ?_
          rintro e w12 ⟨rfl, hb⟩
          replace hb : Below w10.heap.size w10 w12 := ⟨hb.os, hb.tape, hb.output, hb.size, hb.block⟩
          have HB16 := Lib.hid (below_next HB15.out hb HB15.out.size)
          have HK0_16 := Lib.hid (HK0_15.out.kept hb)
          have HK1_16 := Lib.hid (HK1_15.out.kept hb)
          have HK2_16 := Lib.hid (HK2_15.out.kept hb)
          have HK3_16 := Lib.hid (HK3_15.out.kept hb)
          have HM0_16 := Lib.hid (HM0_15.out.below hb)
          have HM1_16 := Lib.hid (HM1_15.out.below hb)
          have HM2_16 := Lib.hid (HM2_15.out.below hb)
          have HM3_16 := Lib.hid (HM3_15.out.below hb)
          clear hb HT
          have HT := Lib.hid (show _ ∧ _ ∧ _ ∧ _ ∧ _ ∧ _ ∧ _ ∧ _ from ⟨HK2_16.out.at_ (i := 0) rfl, HK2_16.out.at_ (i := 1) rfl, HK2_16.out.at_ (i := 2) rfl, HK2_16.out.at_ (i := 3) rfl, HK3_16.out.at_ (i := 0) rfl, HK3_16.out.at_ (i := 1) rfl, HK3_16.out.at_ (i := 2) rfl, HK3_16.out.at_ (i := 3) rfl⟩)
          go_wp2_with fail
          refine hK.out _ _ (HT.out) (fun hHeld => ?_)
          clear hK K
          try simp only [Act.put, List.setIfInBounds_toArray, List.set_cons_zero, List.set_cons_succ]
          refine wpAnyH_ready (rs := [12]) (by kernel_rfl) (by simp) ?_
          refine AllReadyH.cons (o := ({ dst := some 120, op := Op.call { callee := Callee.value (Operand.func 33), args := #[Operand.tmp 118, Operand.tmp 119], argTypes := #[24, 24] }, type := 4, pos := "law.go:121", after := _, guard := some (6, false) } : Oper)) rfl (fun K hK => ?_) AllReadyH.nil
          go_simp
          refine (sameEn_no x y A2 A3 c2 c3 _ _ _ HM2_16.out HM3_16.out HNK.out).mono ?_
          rintro e w13 ⟨rfl, hb⟩
          have HB17 := Lib.hid (below_next HB16.out hb HB16.out.size)
          have HK0_17 := Lib.hid (HK0_16.out.kept hb)
          have HK1_17 := Lib.hid (HK1_16.out.kept hb)
          have HK2_17 := Lib.hid (HK2_16.out.kept hb)
          have HK3_17 := Lib.hid (HK3_16.out.kept hb)
          have HM0_17 := Lib.hid (HM0_16.out.below hb)
          have HM1_17 := Lib.hid (HM1_16.out.below hb)
          have HM2_17 := Lib.hid (HM2_16.out.below hb)
          have HM3_17 := Lib.hid (HM3_16.out.below hb)
          clear hb HT
          have HT := Lib.hid (show _ ∧ _ ∧ _ ∧ _ ∧ _ ∧ _ ∧ _ ∧ _ from ⟨HK2_17.out.at_ (i := 0) rfl, HK2_17.out.at_ (i := 1) rfl, HK2_17.out.at_ (i := 2) rfl, HK2_17.out.at_ (i := 3) rfl, HK3_17.out.at_ (i := 0) rfl, HK3_17.out.at_ (i := 1) rfl, HK3_17.out.at_ (i := 2) rfl, HK3_17.out.at_ (i := 3) rfl⟩)
          go_wp2_with fail
          refine hK.out _ _ (HT.out) (fun hHeld => ?_)
          clear hK K
          try simp only [Act.put, List.setIfInBounds_toArray, List.set_cons_zero, List.set_cons_succ]
          refine wpAnyH_take (i := 13) (oi := ({ dst := some 121, op := Op.binOp BinOp.eql 4 (Operand.tmp 117) (Operand.tmp 120) 4, type := 4, pos := "law.go:121", after := _, guard := some (6, false) } : Oper)) (v := ?_) rfl (by kernel_rfl) (by kernel_rfl) (by kernel_rfl) (fun _ _ _ h => h) (Or.inl ⟨by rfl, ?_⟩) (by assumption) ?_
          rotate_left
          · intro w hSw; (try dsimp only at hSw); go_simp; first | done | with_reducible rfl
          try simp only [Act.put, List.setIfInBounds_toArray, List.set_cons_zero, List.set_cons_succ]
          refine wpAnyH_take (i := 14) (oi := ({ dst := some 122, op := Op.pick (Operand.tmp 114) (Operand.const (Value.bool true)) (Operand.tmp 121), type := 4, pos := "law.go:121", after := _, guard := none } : Oper)) (v := ?_) rfl (by kernel_rfl) (by kernel_rfl) (by kernel_rfl) (fun _ _ _ h => h) (Or.inl ⟨by rfl, ?_⟩) (by assumption) ?_
          rotate_left
          · intro w hSw; (try dsimp only at hSw); go_simp; first | done | with_reducible rfl
          try simp only [Act.put, List.setIfInBounds_toArray, List.set_cons_zero, List.set_cons_succ]
          refine wpAnyH_take (i := 15) (oi := ({ dst := some 8, op := Op.assign (Operand.tmp 122), type := 4, pos := "law.go:121", after := _, guard := none } : Oper)) (v := ?_) rfl (by kernel_rfl) (by kernel_rfl) (by kernel_rfl) (fun _ _ _ h => h) (Or.inl ⟨by rfl, ?_⟩) (by assumption) ?_
          rotate_left
          · intro w hSw; (try dsimp only at hSw); go_simp; first | done | with_reducible rfl
          try simp only [Act.put, List.setIfInBounds_toArray, List.set_cons_zero, List.set_cons_succ]
          refine wpAnyH_done (by kernel_rfl) ?_ _
          clear HT HNK HNE
          go_wp2_with fail
          go_ret
          exact ⟨rfl, HB17.out⟩
      · skip
        rw [he]
        clear he
        go_wp2_with fail
        refine (readEntryX_any A15 n15 c15 _ _ HP12.out (by have h1 := HP12.out.len; have h2 := HLN.out; omega)).mono ?_
        rintro e w9 ⟨hb, ⟨m5, I0, i0, hd, rfl, hr⟩ | ⟨hd, rfl⟩⟩
        rotate_left
        · rw [HD.out] at hd; cases hd
        rw [HD.out] at hd
        injection hd with hd
        subst hd
        have HB13 := Lib.hid (below_next HB12.out hb HB12.out.size)
        have HK0_13 := Lib.hid (HK0_12.out.kept hb)
        have HK1_13 := Lib.hid (HK1_12.out.kept hb)
        have HK2_13 := Lib.hid (HK2_12.out.kept hb)
        have HK3_13 := Lib.hid (HK3_12.out.kept hb)
        have HM0_13 := Lib.hid (HM0_12.out.below hb)
        have HM1_13 := Lib.hid (HM1_12.out.below hb)
        have HM2_13 := Lib.hid (HM2_12.out.below hb)
        have HM3_13 := Lib.hid (HM3_12.out.below hb)
        have HP13 := Lib.hid (HP12.out.below hb)
        have HR13 := Lib.hid (hr)
        clear hb hr
        have hal := (Below.refl w9.heap.size w9).alloc (Nat.le_refl _) (.cells #[.int .i64 x.c, .int .i64 x.s, .int .i64 x.t, .slice I0 x.dig.length i0] 24)
        have HB14 := Lib.hid (below_next HB13.out hal HB13.out.size)
        have HK0_14 := Lib.hid (HK0_13.out.kept hal)
        have HK1_14 := Lib.hid (HK1_13.out.kept hal)
        have HK2_14 := Lib.hid (HK2_13.out.kept hal)
        have HK3_14 := Lib.hid (HK3_13.out.kept hal)
        have HM0_14 := Lib.hid (HM0_13.out.below hal)
        have HM1_14 := Lib.hid (HM1_13.out.below hal)
        have HM2_14 := Lib.hid (HM2_13.out.below hal)
        have HM3_14 := Lib.hid (HM3_13.out.below hal)
        have HP14 := Lib.hid (HP13.out.below hal)
        have HR14 := Lib.hid (HR13.out.below hal)
        clear hal
        have k0 := HK2_14.out.at_ (i := 0) rfl
        have k1 := HK2_14.out.at_ (i := 1) rfl
        have k2 := HK2_14.out.at_ (i := 2) rfl
        have k3 := HK2_14.out.at_ (i := 3) rfl
        go_wp2_with fail
        clear k0 k1 k2 k3
        refine (sameEntry_self x I0 A2 i0 c2 _ _ _ HR14.out HM2_14.out).mono ?_
        rintro e w10 ⟨rfl, hb⟩
        have HB15 := Lib.hid (below_next HB14.out hb HB14.out.size)
        have HK0_15 := Lib.hid (HK0_14.out.kept hb)
        have HK1_15 := Lib.hid (HK1_14.out.kept hb)
        have HK2_15 := Lib.hid (HK2_14.out.kept hb)
        have HK3_15 := Lib.hid (HK3_14.out.kept hb)
        have HM0_15 := Lib.hid (HM0_14.out.below hb)
        have HM1_15 := Lib.hid (HM1_14.out.below hb)
        have HM2_15 := Lib.hid (HM2_14.out.below hb)
        have HM3_15 := Lib.hid (HM3_14.out.below hb)
        have HP15 := Lib.hid (HP14.out.below hb)
        clear hb
        go_upto_region 19 with fail
        have HT := Lib.hid (show _ ∧ _ ∧ _ ∧ _ ∧ _ ∧ _ ∧ _ ∧ _ from ⟨HK2_15.out.at_ (i := 0) rfl, HK2_15.out.at_ (i := 1) rfl, HK2_15.out.at_ (i := 2) rfl, HK2_15.out.at_ (i := 3) rfl, HK3_15.out.at_ (i := 0) rfl, HK3_15.out.at_ (i := 1) rfl, HK3_15.out.at_ (i := 2) rfl, HK3_15.out.at_ (i := 3) rfl⟩)
        refine wp_region_held_drew (S := fun w' => w'.cell? ⟨w.heap.size + 1 + 1, 0, none⟩ = some (.int .i64 x.c) ∧ w'.cell? ⟨w.heap.size + 1 + 1, 1, none⟩ = some (.int .i64 x.s) ∧ w'.cell? ⟨w.heap.size + 1 + 1, 2, none⟩ = some (.int .i64 x.t) ∧ w'.cell? ⟨w.heap.size + 1 + 1, 3, none⟩ = some (.slice A2 x.dig.length c2) ∧ w'.cell? ⟨w.heap.size + 1 + 1 + 1, 0, none⟩ = some (.int .i64 y.c) ∧ w'.cell? ⟨w.heap.size + 1 + 1 + 1, 1, none⟩ = some (.int .i64 y.s) ∧ w'.cell? ⟨w.heap.size + 1 + 1 + 1, 2, none⟩ = some (.int .i64 y.t) ∧ w'.cell? ⟨w.heap.size + 1 + 1 + 1, 3, none⟩ = some (.slice A3 y.dig.length c3)) (by kernel_rfl) (HT.out) (fun hHeld => ?_)
        refine wpAnyH_take (i := 0) (oi := ({ dst := some 108, op := Op.move (Operand.tmp 10), type := 32, pos := "law.go:121", after := _, guard := none } : Oper)) (v := ?_) rfl (by kernel_rfl) (by kernel_rfl) (by kernel_rfl) (fun _ _ _ h => h) (Or.inl ⟨by rfl, ?_⟩) (by assumption) ?_
        rotate_left
        · intro w hSw; (try dsimp only at hSw); go_simp; first | done | with_reducible rfl
        try simp only [Act.put, List.setIfInBounds_toArray, List.set_cons_zero, List.set_cons_succ]
        refine wpAnyH_take (i := 1) (oi := ({ dst := some 109, op := Op.binOp BinOp.neq 32 (Operand.tmp 108) (Operand.const (Value.int IntKind.i64 0)) 32, type := 4, pos := "law.go:121", after := _, guard := none } : Oper)) (v := ?_) rfl (by kernel_rfl) (by kernel_rfl) (by kernel_rfl) (fun _ _ _ h => h) (Or.inl ⟨by rfl, ?_⟩) (by assumption) ?_
        rotate_left
        · intro w hSw; (try dsimp only at hSw); go_simp; first | done | with_reducible rfl
        try simp only [Act.put, List.setIfInBounds_toArray, List.set_cons_zero, List.set_cons_succ]
        refine wpAnyH_take (i := 2) (oi := ({ dst := some 110, op := Op.move (Operand.tmp 109), type := 4, pos := "law.go:121", after := _, guard := none } : Oper)) (v := ?_) rfl (by kernel_rfl) (by kernel_rfl) (by kernel_rfl) (fun _ _ _ h => h) (Or.inl ⟨by rfl, ?_⟩) (by assumption) ?_
        rotate_left
        · intro w hSw; (try dsimp only at hSw); go_simp; first | done | with_reducible rfl
        try simp only [Act.put, List.setIfInBounds_toArray, List.set_cons_zero, List.set_cons_succ]
        refine wpAnyH_take (i := 3) (oi := ({ dst := some 111, op := Op.move (Operand.tmp 12), type := 32, pos := "law.go:121", after := _, guard := some (2, false) } : Oper)) (v := ?_) rfl (by kernel_rfl) (by kernel_rfl) (by kernel_rfl) (fun _ _ _ h => h) (Or.inl ⟨by rfl, ?_⟩) (by assumption) ?_
        rotate_left
        · intro w hSw; (try dsimp only at hSw); go_simp; first | done | with_reducible rfl
        try simp only [Act.put, List.setIfInBounds_toArray, List.set_cons_zero, List.set_cons_succ]
        refine wpAnyH_take (i := 4) (oi := ({ dst := some 112, op := Op.binOp BinOp.neq 32 (Operand.tmp 111) (Operand.const (Value.int IntKind.i64 0)) 32, type := 4, pos := "law.go:121", after := _, guard := some (2, false) } : Oper)) (v := ?_) rfl (by kernel_rfl) (by kernel_rfl) (by kernel_rfl) (fun _ _ _ h => h) (Or.inl ⟨by rfl, ?_⟩) (by assumption) ?_
        rotate_left
        · intro w hSw; (try dsimp only at hSw); go_simp; first | done | with_reducible rfl
        try simp only [Act.put, List.setIfInBounds_toArray, List.set_cons_zero, List.set_cons_succ]
        refine wpAnyH_take (i := 5) (oi := ({ dst := some 113, op := Op.pick (Operand.tmp 110) (Operand.const (Value.bool true)) (Operand.tmp 112), type := 4, pos := "law.go:121", after := _, guard := none } : Oper)) (v := ?_) rfl (by kernel_rfl) (by kernel_rfl) (by kernel_rfl) (fun _ _ _ h => h) (Or.inl ⟨by rfl, ?_⟩) (by assumption) ?_
        rotate_left
        · intro w hSw; (try dsimp only at hSw); go_simp; first | done | with_reducible rfl
        try simp only [Act.put, List.setIfInBounds_toArray, List.set_cons_zero, List.set_cons_succ]
        refine wpAnyH_take (i := 6) (oi := ({ dst := some 114, op := Op.move (Operand.tmp 113), type := 4, pos := "law.go:121", after := _, guard := none } : Oper)) (v := ?_) rfl (by kernel_rfl) (by kernel_rfl) (by kernel_rfl) (fun _ _ _ h => h) (Or.inl ⟨by rfl, ?_⟩) (by assumption) ?_
        rotate_left
        · intro w hSw; (try dsimp only at hSw); go_simp; first | done | with_reducible rfl
        try simp only [Act.put, List.setIfInBounds_toArray, List.set_cons_zero, List.set_cons_succ]
        refine wpAnyH_take (i := 7) (oi := ({ dst := some 115, op := Op.move (Operand.tmp 15), type := 22, pos := "law.go:121", after := _, guard := some (6, false) } : Oper)) (v := undef) rfl (by kernel_rfl) (by kernel_rfl) (by kernel_rfl) (fun _ _ _ h => h) (Or.inr ⟨by rfl, rfl⟩) (by assumption) ?_
        try simp only [Act.put, List.setIfInBounds_toArray, List.set_cons_zero, List.set_cons_succ]
        refine wpAnyH_take (i := 8) (oi := ({ dst := some 116, op := Op.move (Operand.tmp 16), type := 22, pos := "law.go:121", after := _, guard := some (6, false) } : Oper)) (v := undef) rfl (by kernel_rfl) (by kernel_rfl) (by kernel_rfl) (fun _ _ _ h => h) (Or.inr ⟨by rfl, rfl⟩) (by assumption) ?_
        try simp only [Act.put, List.setIfInBounds_toArray, List.set_cons_zero, List.set_cons_succ]
        refine wpAnyH_take (i := 9) (oi := ({ dst := some 117, op := Op.call { callee := Callee.value (Operand.func 15), args := #[Operand.tmp 115, Operand.tmp 116], argTypes := #[22, 22] }, type := 4, pos := "law.go:121", after := _, guard := some (6, false) } : Oper)) (v := undef) rfl (by kernel_rfl) (by kernel_rfl) (by kernel_rfl) (fun _ _ _ h => h) (Or.inr ⟨by rfl, rfl⟩) (by assumption) ?_
        try simp only [Act.put, List.setIfInBounds_toArray, List.set_cons_zero, List.set_cons_succ]
        refine wpAnyH_take (i := 10) (oi := ({ dst := some 118, op := Op.load 24 (Operand.tmp 6), type := 24, pos := "law.go:121", after := _, guard := some (6, false) } : Oper)) (v := undef) rfl (by kernel_rfl) (by kernel_rfl) (by kernel_rfl) (fun _ _ _ h => h) (Or.inr ⟨by rfl, rfl⟩) (by assumption) ?_
        try simp only [Act.put, List.setIfInBounds_toArray, List.set_cons_zero, List.set_cons_succ]
        refine wpAnyH_take (i := 11) (oi := ({ dst := some 119, op := Op.load 24 (Operand.tmp 7), type := 24, pos := "law.go:121", after := _, guard := some (6, false) } : Oper)) (v := undef) rfl (by kernel_rfl) (by kernel_rfl) (by kernel_rfl) (fun _ _ _ h => h) (Or.inr ⟨by rfl, rfl⟩) (by assumption) ?_
        try simp only [Act.put, List.setIfInBounds_toArray, List.set_cons_zero, List.set_cons_succ]
        refine wpAnyH_take (i := 12) (oi := ({ dst := some 120, op := Op.call { callee := Callee.value (Operand.func 33), args := #[Operand.tmp 118, Operand.tmp 119], argTypes := #[24, 24] }, type := 4, pos := "law.go:121", after := _, guard := some (6, false) } : Oper)) (v := undef) rfl (by kernel_rfl) (by kernel_rfl) (by kernel_rfl) (fun _ _ _ h => h) (Or.inr ⟨by rfl, rfl⟩) (by assumption) ?_
        try simp only [Act.put, List.setIfInBounds_toArray, List.set_cons_zero, List.set_cons_succ]
        refine wpAnyH_take (i := 13) (oi := ({ dst := some 121, op := Op.binOp BinOp.eql 4 (Operand.tmp 117) (Operand.tmp 120) 4, type := 4, pos := "law.go:121", after := _, guard := some (6, false) } : Oper)) (v := undef) rfl (by kernel_rfl) (by kernel_rfl) (by kernel_rfl) (fun _ _ _ h => h) (Or.inr ⟨by rfl, rfl⟩) (by assumption) ?_
        try simp only [Act.put, List.setIfInBounds_toArray, List.set_cons_zero, List.set_cons_succ]
        refine wpAnyH_take (i := 14) (oi := ({ dst := some 122, op := Op.pick (Operand.tmp 114) (Operand.const (Value.bool true)) (Operand.tmp 121), type := 4, pos := "law.go:121", after := _, guard := none } : Oper)) (v := ?_) rfl (by kernel_rfl) (by kernel_rfl) (by kernel_rfl) (fun _ _ _ h => h) (Or.inl ⟨by rfl, ?_⟩) (by assumption) ?_
        rotate_left
        · intro w hSw; (try dsimp only at hSw); go_simp; first | done | with_reducible rfl
        try simp only [Act.put, List.setIfInBounds_toArray, List.set_cons_zero, List.set_cons_succ]
        refine wpAnyH_take (i := 15) (oi := ({ dst := some 8, op := Op.assign (Operand.tmp 122), type := 4, pos := "law.go:121", after := _, guard := none } : Oper)) (v := ?_) rfl (by kernel_rfl) (by kernel_rfl) (by kernel_rfl) (fun _ _ _ h => h) (Or.inl ⟨by rfl, ?_⟩) (by assumption) ?_
        rotate_left
        · intro w hSw; (try dsimp only at hSw); go_simp; first | done | with_reducible rfl
        try simp only [Act.put, List.setIfInBounds_toArray, List.set_cons_zero, List.set_cons_succ]
        refine wpAnyH_done (by kernel_rfl) ?_ _
        have hb := below_drew (Below.refl w10.heap.size w10)
        have HB16 := Lib.hid (below_next HB15.out hb HB15.out.size)
        have HK0_16 := Lib.hid (HK0_15.out.kept hb)
        have HK1_16 := Lib.hid (HK1_15.out.kept hb)
        have HK2_16 := Lib.hid (HK2_15.out.kept hb)
        have HK3_16 := Lib.hid (HK3_15.out.kept hb)
        have HM0_16 := Lib.hid (HM0_15.out.below hb)
        have HM1_16 := Lib.hid (HM1_15.out.below hb)
        have HM2_16 := Lib.hid (HM2_15.out.below hb)
        have HM3_16 := Lib.hid (HM3_15.out.below hb)
        have HP16 := Lib.hid (HP15.out.below hb)
        clear hb
        clear HT
        go_wp2_with fail
        go_ret
        exact ⟨rfl, HB16.out⟩
    · skip
      rw [he]
      clear he
      go_upto_region 19 with fail
      have HT := Lib.hid (show _ ∧ _ ∧ _ ∧ _ ∧ _ ∧ _ ∧ _ ∧ _ from ⟨HK2_12.out.at_ (i := 0) rfl, HK2_12.out.at_ (i := 1) rfl, HK2_12.out.at_ (i := 2) rfl, HK2_12.out.at_ (i := 3) rfl, HK3_12.out.at_ (i := 0) rfl, HK3_12.out.at_ (i := 1) rfl, HK3_12.out.at_ (i := 2) rfl, HK3_12.out.at_ (i := 3) rfl⟩)
      refine wp_region_held_drew (S := fun w' => w'.cell? ⟨w.heap.size + 1 + 1, 0, none⟩ = some (.int .i64 x.c) ∧ w'.cell? ⟨w.heap.size + 1 + 1, 1, none⟩ = some (.int .i64 x.s) ∧ w'.cell? ⟨w.heap.size + 1 + 1, 2, none⟩ = some (.int .i64 x.t) ∧ w'.cell? ⟨w.heap.size + 1 + 1, 3, none⟩ = some (.slice A2 x.dig.length c2) ∧ w'.cell? ⟨w.heap.size + 1 + 1 + 1, 0, none⟩ = some (.int .i64 y.c) ∧ w'.cell? ⟨w.heap.size + 1 + 1 + 1, 1, none⟩ = some (.int .i64 y.s) ∧ w'.cell? ⟨w.heap.size + 1 + 1 + 1, 2, none⟩ = some (.int .i64 y.t) ∧ w'.cell? ⟨w.heap.size + 1 + 1 + 1, 3, none⟩ = some (.slice A3 y.dig.length c3)) (by kernel_rfl) (HT.out) (fun hHeld => ?_)
      refine wpAnyH_take (i := 0) (oi := ({ dst := some 108, op := Op.move (Operand.tmp 10), type := 32, pos := "law.go:121", after := _, guard := none } : Oper)) (v := ?_) rfl (by kernel_rfl) (by kernel_rfl) (by kernel_rfl) (fun _ _ _ h => h) (Or.inl ⟨by rfl, ?_⟩) (by assumption) ?_
      rotate_left
      · intro w hSw; (try dsimp only at hSw); go_simp; first | done | with_reducible rfl
      try simp only [Act.put, List.setIfInBounds_toArray, List.set_cons_zero, List.set_cons_succ]
      refine wpAnyH_take (i := 1) (oi := ({ dst := some 109, op := Op.binOp BinOp.neq 32 (Operand.tmp 108) (Operand.const (Value.int IntKind.i64 0)) 32, type := 4, pos := "law.go:121", after := _, guard := none } : Oper)) (v := ?_) rfl (by kernel_rfl) (by kernel_rfl) (by kernel_rfl) (fun _ _ _ h => h) (Or.inl ⟨by rfl, ?_⟩) (by assumption) ?_
      rotate_left
      · intro w hSw; (try dsimp only at hSw); go_simp; first | done | with_reducible rfl
      try simp only [Act.put, List.setIfInBounds_toArray, List.set_cons_zero, List.set_cons_succ]
      refine wpAnyH_take (i := 2) (oi := ({ dst := some 110, op := Op.move (Operand.tmp 109), type := 4, pos := "law.go:121", after := _, guard := none } : Oper)) (v := ?_) rfl (by kernel_rfl) (by kernel_rfl) (by kernel_rfl) (fun _ _ _ h => h) (Or.inl ⟨by rfl, ?_⟩) (by assumption) ?_
      rotate_left
      · intro w hSw; (try dsimp only at hSw); go_simp; first | done | with_reducible rfl
      try simp only [Act.put, List.setIfInBounds_toArray, List.set_cons_zero, List.set_cons_succ]
      refine wpAnyH_take (i := 3) (oi := ({ dst := some 111, op := Op.move (Operand.tmp 12), type := 32, pos := "law.go:121", after := _, guard := some (2, false) } : Oper)) (v := undef) rfl (by kernel_rfl) (by kernel_rfl) (by kernel_rfl) (fun _ _ _ h => h) (Or.inr ⟨by rfl, rfl⟩) (by assumption) ?_
      try simp only [Act.put, List.setIfInBounds_toArray, List.set_cons_zero, List.set_cons_succ]
      refine wpAnyH_take (i := 4) (oi := ({ dst := some 112, op := Op.binOp BinOp.neq 32 (Operand.tmp 111) (Operand.const (Value.int IntKind.i64 0)) 32, type := 4, pos := "law.go:121", after := _, guard := some (2, false) } : Oper)) (v := undef) rfl (by kernel_rfl) (by kernel_rfl) (by kernel_rfl) (fun _ _ _ h => h) (Or.inr ⟨by rfl, rfl⟩) (by assumption) ?_
      try simp only [Act.put, List.setIfInBounds_toArray, List.set_cons_zero, List.set_cons_succ]
      refine wpAnyH_take (i := 5) (oi := ({ dst := some 113, op := Op.pick (Operand.tmp 110) (Operand.const (Value.bool true)) (Operand.tmp 112), type := 4, pos := "law.go:121", after := _, guard := none } : Oper)) (v := ?_) rfl (by kernel_rfl) (by kernel_rfl) (by kernel_rfl) (fun _ _ _ h => h) (Or.inl ⟨by rfl, ?_⟩) (by assumption) ?_
      rotate_left
      · intro w hSw; (try dsimp only at hSw); go_simp; first | done | with_reducible rfl
      try simp only [Act.put, List.setIfInBounds_toArray, List.set_cons_zero, List.set_cons_succ]
      refine wpAnyH_take (i := 6) (oi := ({ dst := some 114, op := Op.move (Operand.tmp 113), type := 4, pos := "law.go:121", after := _, guard := none } : Oper)) (v := ?_) rfl (by kernel_rfl) (by kernel_rfl) (by kernel_rfl) (fun _ _ _ h => h) (Or.inl ⟨by rfl, ?_⟩) (by assumption) ?_
      rotate_left
      · intro w hSw; (try dsimp only at hSw); go_simp; first | done | with_reducible rfl
      try simp only [Act.put, List.setIfInBounds_toArray, List.set_cons_zero, List.set_cons_succ]
      refine wpAnyH_take (i := 7) (oi := ({ dst := some 115, op := Op.move (Operand.tmp 15), type := 22, pos := "law.go:121", after := _, guard := some (6, false) } : Oper)) (v := undef) rfl (by kernel_rfl) (by kernel_rfl) (by kernel_rfl) (fun _ _ _ h => h) (Or.inr ⟨by rfl, rfl⟩) (by assumption) ?_
      try simp only [Act.put, List.setIfInBounds_toArray, List.set_cons_zero, List.set_cons_succ]
      refine wpAnyH_take (i := 8) (oi := ({ dst := some 116, op := Op.move (Operand.tmp 16), type := 22, pos := "law.go:121", after := _, guard := some (6, false) } : Oper)) (v := undef) rfl (by kernel_rfl) (by kernel_rfl) (by kernel_rfl) (fun _ _ _ h => h) (Or.inr ⟨by rfl, rfl⟩) (by assumption) ?_
      try simp only [Act.put, List.setIfInBounds_toArray, List.set_cons_zero, List.set_cons_succ]
      refine wpAnyH_take (i := 9) (oi := ({ dst := some 117, op := Op.call { callee := Callee.value (Operand.func 15), args := #[Operand.tmp 115, Operand.tmp 116], argTypes := #[22, 22] }, type := 4, pos := "law.go:121", after := _, guard := some (6, false) } : Oper)) (v := undef) rfl (by kernel_rfl) (by kernel_rfl) (by kernel_rfl) (fun _ _ _ h => h) (Or.inr ⟨by rfl, rfl⟩) (by assumption) ?_
      try simp only [Act.put, List.setIfInBounds_toArray, List.set_cons_zero, List.set_cons_succ]
      refine wpAnyH_take (i := 10) (oi := ({ dst := some 118, op := Op.load 24 (Operand.tmp 6), type := 24, pos := "law.go:121", after := _, guard := some (6, false) } : Oper)) (v := undef) rfl (by kernel_rfl) (by kernel_rfl) (by kernel_rfl) (fun _ _ _ h => h) (Or.inr ⟨by rfl, rfl⟩) (by assumption) ?_
      try simp only [Act.put, List.setIfInBounds_toArray, List.set_cons_zero, List.set_cons_succ]
      refine wpAnyH_take (i := 11) (oi := ({ dst := some 119, op := Op.load 24 (Operand.tmp 7), type := 24, pos := "law.go:121", after := _, guard := some (6, false) } : Oper)) (v := undef) rfl (by kernel_rfl) (by kernel_rfl) (by kernel_rfl) (fun _ _ _ h => h) (Or.inr ⟨by rfl, rfl⟩) (by assumption) ?_
      try simp only [Act.put, List.setIfInBounds_toArray, List.set_cons_zero, List.set_cons_succ]
      refine wpAnyH_take (i := 12) (oi := ({ dst := some 120, op := Op.call { callee := Callee.value (Operand.func 33), args := #[Operand.tmp 118, Operand.tmp 119], argTypes := #[24, 24] }, type := 4, pos := "law.go:121", after := _, guard := some (6, false) } : Oper)) (v := undef) rfl (by kernel_rfl) (by kernel_rfl) (by kernel_rfl) (fun _ _ _ h => h) (Or.inr ⟨by rfl, rfl⟩) (by assumption) ?_
      try simp only [Act.put, List.setIfInBounds_toArray, List.set_cons_zero, List.set_cons_succ]
      refine wpAnyH_take (i := 13) (oi := ({ dst := some 121, op := Op.binOp BinOp.eql 4 (Operand.tmp 117) (Operand.tmp 120) 4, type := 4, pos := "law.go:121", after := _, guard := some (6, false) } : Oper)) (v := undef) rfl (by kernel_rfl) (by kernel_rfl) (by kernel_rfl) (fun _ _ _ h => h) (Or.inr ⟨by rfl, rfl⟩) (by assumption) ?_
      try simp only [Act.put, List.setIfInBounds_toArray, List.set_cons_zero, List.set_cons_succ]
      refine wpAnyH_take (i := 14) (oi := ({ dst := some 122, op := Op.pick (Operand.tmp 114) (Operand.const (Value.bool true)) (Operand.tmp 121), type := 4, pos := "law.go:121", after := _, guard := none } : Oper)) (v := ?_) rfl (by kernel_rfl) (by kernel_rfl) (by kernel_rfl) (fun _ _ _ h => h) (Or.inl ⟨by rfl, ?_⟩) (by assumption) ?_
      rotate_left
      · intro w hSw; (try dsimp only at hSw); go_simp; first | done | with_reducible rfl
      try simp only [Act.put, List.setIfInBounds_toArray, List.set_cons_zero, List.set_cons_succ]
      refine wpAnyH_take (i := 15) (oi := ({ dst := some 8, op := Op.assign (Operand.tmp 122), type := 4, pos := "law.go:121", after := _, guard := none } : Oper)) (v := ?_) rfl (by kernel_rfl) (by kernel_rfl) (by kernel_rfl) (fun _ _ _ h => h) (Or.inl ⟨by rfl, ?_⟩) (by assumption) ?_
      rotate_left
      · intro w hSw; (try dsimp only at hSw); go_simp; first | done | with_reducible rfl
      try simp only [Act.put, List.setIfInBounds_toArray, List.set_cons_zero, List.set_cons_succ]
      refine wpAnyH_done (by kernel_rfl) ?_ _
      have hb := below_drew (Below.refl w17.heap.size w17)
      have HB13 := Lib.hid (below_next HB12.out hb HB12.out.size)
      have HK0_13 := Lib.hid (HK0_12.out.kept hb)
      have HK1_13 := Lib.hid (HK1_12.out.kept hb)
      have HK2_13 := Lib.hid (HK2_12.out.kept hb)
      have HK3_13 := Lib.hid (HK3_12.out.kept hb)
      have HM0_13 := Lib.hid (HM0_12.out.below hb)
      have HM1_13 := Lib.hid (HM1_12.out.below hb)
      have HM2_13 := Lib.hid (HM2_12.out.below hb)
      have HM3_13 := Lib.hid (HM3_12.out.below hb)
      clear hb
      clear HT
      go_wp2_with fail
      go_ret
      exact ⟨rfl, HB13.out⟩
theorem msgOthers_walk (w : World) (v0 : Value) (l : Lt) (h0 : InLt w v0 l) (v1 : Value) (k : Lt) (h1 : InLt w v1 k) (v2 : Value) (x : En) (h2 : InEn w v2 x) (v3 : Value) (y : En) (h3 : InEn w v3 y) :
    Calls Try.prog 7 #[v0, v1, v2, v3] w (Tr w) := by
  obtain ⟨A0, c0, B0, d0, rfl, a1, a2⟩ := h0
  obtain ⟨A1, c1, B1, d1, rfl, b1, b2⟩ := h1
  obtain ⟨A2, c2, rfl, e1, e2, _⟩ := h2
  obtain ⟨A3, c3, rfl, f1, f2, _⟩ := h3
  exact msgOthers_any l k x y A0 B0 A1 B1 A2 A3 c0 d0 c1 d1 c2 c3 w a1 b1 e1 f1 a2 b2 e2 f2
end Go.Proofs.Ytmgmmbgjmnklkaa
