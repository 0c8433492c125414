import Derived.Test.YtgniocgcfldiaaaPackLaws2
namespace Go.Proofs.Ytgniocgcfldiaaa
open Go.RowKit
open Pk
set_option linter.unusedVariables false

theorem packRound_big (w : World) (v : Int) (A : Option Addr) (n c : Nat) (hn : 10000 < n) (hm : n ≤ maxLen) : Calls Try.prog 9 #[.int .i64 v, .slice A n c] w (Tr w) := by
  unfold maxLen at hm
  go_enter Try.func9, Try.ntmps9
  go_wp2_with fail
  refine (aliveNum_ok _).mono ?_
  rintro e w1 ⟨rfl, hb1⟩
  go_wp2_with fail
  refine (aliveRead_ok _).mono ?_
  rintro e w2 ⟨rfl, hb2⟩
  go_wp2_with fail
  go_ret
  exact ⟨rfl, hb1.trans (hb2.mono hb1.size)⟩

theorem packRound_bad (w : World) (v : Int) (A : Option Addr) (n c : Nat) (hn : n ≤ 10000) (hv : v < 0 ∨ 4611686018427387904 ≤ v) : Calls Try.prog 9 #[.int .i64 v, .slice A n c] w (Tr w) := by
  have H1 := Lib.hid (fun W => num_bad v W hv)
  rcases hv with hv | hv
  · go_enter Try.func9, Try.ntmps9
    go_wp2_with fail
    refine (aliveNum_ok _).mono ?_
    rintro e w1 ⟨rfl, hb1⟩
    go_wp2_with fail
    refine (aliveRead_ok _).mono ?_
    rintro e w2 ⟨rfl, hb2⟩
    go_wp2_with fail
    refine (H1.out _).mono ?_
    rintro e w3 ⟨rfl, rfl⟩
    go_wp2_with fail
    go_ret
    exact ⟨rfl, hb1.trans (hb2.mono hb1.size)⟩
  · have hv0 : ¬ v < 0 := by omega
    go_enter Try.func9, Try.ntmps9
    go_wp2_with fail
    refine (aliveNum_ok _).mono ?_
    rintro e w1 ⟨rfl, hb1⟩
    go_wp2_with fail
    refine (aliveRead_ok _).mono ?_
    rintro e w2 ⟨rfl, hb2⟩
    go_wp2_with fail
    refine (H1.out _).mono ?_
    rintro e w3 ⟨rfl, rfl⟩
    go_wp2_with fail
    go_ret
    exact ⟨rfl, hb1.trans (hb2.mono hb1.size)⟩

set_option maxHeartbeats 800000 in
theorem packRound_ok (w : World) (v : Nat) (A : Option Addr) (n c : Nat) (l : List UInt8) (hn : n ≤ 10000) (hv : v < 4611686018427387904) (h : Rd w A n (l.map bv)) (hc : n ≤ c) : Calls Try.prog 9 #[.int .i64 v, .slice A n c] w (Tr w) := by
  obtain ⟨i0, hi, hz0, hz1, hz2⟩ := info_parts info_u8
  have H1 := Lib.hid (fun W => num_ok v W hv)
  have L1 := Lib.hid (encN_len9 hv)
  have R1 := Lib.hid (rdN_enc hv l)
  have R2 := Lib.hid (restN_enc hv l)
  have HR := Lib.hid h
  have hl : l.length = n := by simpa using h.1
  have HL := Lib.hid hl
  clear hv h hl
  go_enter Try.func9, Try.ntmps9
  go_wp2_with fail
  refine (aliveNum_ok _).mono ?_
  rintro e w1 ⟨rfl, hb1⟩
  go_wp2_with fail
  refine (aliveRead_ok _).mono ?_
  rintro e w2 ⟨rfl, hb2⟩
  go_wp2_with fail
  refine (H1.out _).mono ?_
  rintro e w3 ⟨A3, n3, c3, rfl, ho3, hb3⟩
  have hn3 : n3 ≤ 9 := by have := OwnB.len ho3; have := L1.out; omega
  go_wp2_with fail
  refine (copyBytes_any A3 n3 c3 (encN v) w3 ho3.rd (by omega)).mono ?_
  rintro e w4 ⟨A4, n4, c4, rfl, ho4, hb4⟩
  have hn4 : n4 = n3 := by have := OwnB.len ho3; have := OwnB.len ho4; omega
  subst hn4
  have s1 := hb1.size
  have s2 := Nat.le_trans s1 hb2.size
  have s3 := Nat.le_trans s2 hb3.size
  have B4 := hb1.trans ((hb2.mono s1).trans ((hb3.mono s2).trans (hb4.mono s3)))
  have HB4 := Lib.hid B4
  have HRD4 := Lib.hid (HR.out.below B4)
  have HS3 := Lib.hid s3
  clear hb1 hb2 hb3 s1 s2 s3 B4
  go_wp2_with (at_builtin
               refine wpList_append_rd _ rfl _ _ 22 rfl w3.heap.size 5 i0 _ 1 Try.underlying22 hi hz0 hz1 hz2 rfl A4 n4 c4 ((encN v).map bv) rfl ho4 A n c (l.map bv) rfl
                 HRD4.out (oneCell_bytes l) (by simp only [maxLen]; omega) (by omega) hb4.size ?_
               intro A5 c5 w5 hown5 hg5 hrow5)
  have ho5 : OwnB w5 w3.heap.size A5 (n4 + n) c5 (encN v ++ l) := by unfold OwnB; rw [List.map_append]; exact hown5
  have B5 : Below w.heap.size w w5 := HB4.out.grown hg5 HB4.out.size (fun k e => Nat.le_trans HS3.out (OwnB.block ho4 k e))
  have HB5 := Lib.hid B5
  have HC5 := Lib.hid (own_cap ho5)
  clear hown5 hg5 hrow5 B5
  go_wp2_with fail
  refine (read_any A5 (n4 + n) c5 (encN v ++ l) w5 ho5.rd HC5.out.1 HC5.out.2 (by omega)).mono ?_
  rintro e w6 ⟨A6, n6, c6, rfl, ho6, hb6⟩
  rw [R1.out, R2.out] at *
  have hn6 : n6 = n := by have := OwnB.len ho6; have := HL.out; omega
  subst hn6
  go_wp2_with fail
  refine (sameBytes_self A6 A n6 n6 c6 c _ l ho6.rd ((HR.out.below HB5.out).below hb6) (by simp only [maxLen]; omega)).mono ?_
  rintro e w7 ⟨rfl, m, rfl⟩
  have HB6 := Lib.hid (HB5.out.trans (hb6.mono HB5.out.size))
  clear hb6
  go_wp2_with fail
  refine (copyBytes_any A n6 c l _ ((HR.out.below HB6.out).drewN m) (by omega)).mono ?_
  rintro e w8 ⟨A8, n8, c8, rfl, ho8, hb8⟩
  have hn8 : n8 = n6 := by have := OwnB.len ho8; have := HL.out; omega
  subst hn8
  have HC8 := Lib.hid (own_cap ho8)
  have HB8 := Lib.hid (HB6.out.trans ((below_undrawn hb8).mono HB6.out.size))
  clear hb8
  go_wp2_with fail
  refine (read_any A8 n8 c8 l w8 ho8.rd HC8.out.1 HC8.out.2 (by omega)).mono ?_
  rintro e w9 ⟨A9, n9, c9, rfl, ho9, hb9⟩
  have HB9 := Lib.hid (HB8.out.trans (hb9.mono HB8.out.size))
  clear hb9
  by_cases h0 : (rdN l).2.2 = 0
  · have E1 := Lib.hid (encN_rdN h0)
    have HLT := Lib.hid (rdN_lt l)
    rw [h0]
    have H2 := Lib.hid (fun W => num_ok (rdN l).1 W HLT.out)
    have L2 := Lib.hid (encN_len9 HLT.out)
    have hn9 : n9 ≤ n8 := by
      have e1 := OwnB.len ho9
      have e2 := congrArg List.length E1.out
      rw [List.length_append] at e2
      have := HL.out
      omega
    clear h0
    go_wp2_with fail
    refine (H2.out _).mono ?_
    rintro e w10 ⟨A10, n10, c10, rfl, ho10, hb10⟩
    have hn10 : n10 ≤ 9 := by have := OwnB.len ho10; have := L2.out; omega
    have HS10 := Lib.hid hb10.size
    have HRD10 := Lib.hid (ho9.below hb10).rd
    go_wp2_with (at_builtin
                 refine wpList_append_rd _ rfl _ _ 22 rfl w9.heap.size 5 i0 _ 1 Try.underlying22 hi hz0 hz1 hz2 rfl A10 n10 c10 ((encN (rdN l).1).map bv) rfl ho10 A9 n9 c9 ((restN l).map bv) rfl
                   HRD10.out (oneCell_bytes _) (by simp only [maxLen]; omega) (by omega) HS10.out ?_
                 intro A11 c11 w11 hown11 hg11 hrow11)
    have ho11 : OwnB w11 w9.heap.size A11 (n10 + n9) c11 l := by
      unfold OwnB
      rw [← E1.out, List.map_append]
      exact hown11
    have HB10 := Lib.hid (HB9.out.trans (hb10.mono HB9.out.size))
    have HB11 := Lib.hid (HB10.out.grown hg11 HB10.out.size (fun k e => Nat.le_trans HB9.out.size (OwnB.block ho10 k e)))
    clear hown11 hg11 hrow11 hb10
    refine (sameBytes_self A11 A (n10 + n9) n8 c11 c _ l ho11.rd (HR.out.below HB11.out) (by simp only [maxLen]; omega)).mono ?_
    rintro e w12 ⟨rfl, m2, rfl⟩
    go_wp2_with fail
    go_ret
    exact ⟨rfl, below_drewN HB11.out m2⟩
  · have hz := (rdN_err h0).1
    have hne : (((rdN l).2.2 : Nat) : Int) ≠ 0 := by omega
    have hne2 : ((((rdN l).2.2 : Nat) : Int) != 0) = true := by rw [bne_iff_ne]; exact hne
    have hrest : restN l = [] := by unfold restN; rw [if_neg h0]
    rw [hrest] at ho9
    have hn9 : n9 = 0 := by have := OwnB.len ho9; simpa using this.symm
    subst hn9
    rw [hz]
    clear hz h0 hrest hne
    go_wp2_with fail
    go_ret
    exact ⟨rfl, HB9.out⟩

theorem packRound_walk (w : World) (v : Int) (wv : (Lit.int .i64 v).wf = true) (x : Value) (l : List UInt8) (h : InB w x l) : Calls Try.prog 9 #[.int .i64 v, x] w (Tr w) := by
  obtain ⟨A, n, c, rfl, hc, hm, hr, _⟩ := h
  rcases Nat.lt_or_ge 10000 n with h | h
  · exact packRound_big w v A n c h (by omega)
  · by_cases hv : v < 0 ∨ 4611686018427387904 ≤ v
    · exact packRound_bad w v A n c h hv
    · obtain ⟨u, rfl⟩ : ∃ u : Nat, v = u := ⟨v.toNat, by omega⟩
      exact packRound_ok w u A n c l h (by omega) hr hc
end Go.Proofs.Ytgniocgcfldiaaa
