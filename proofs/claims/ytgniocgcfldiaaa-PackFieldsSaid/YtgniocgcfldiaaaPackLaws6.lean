import Derived.Test.YtgniocgcfldiaaaPackLaws5
namespace Go.Proofs.Ytgniocgcfldiaaa
open Go.RowKit
open Pk
set_option linter.unusedVariables false

theorem own_len_cap {w : World} {base : Nat} {A : Option Addr} {n c : Nat} {ls : List (List UInt8)} (h : OwnRs w base A n c ls) : n ≤ maxLen := by
  obtain ⟨_, us, hu, _⟩ := h
  rcases hu.2 with ⟨_, e⟩ | ⟨g, cap, cur, _, _, _, hnc, hcm, _⟩
  · rw [e]; simp [maxLen]
  · exact Nat.le_trans hnc hcm
theorem splitN_err {l : List UInt8} (h : (splitN l).1 ≠ 0) : (splitN l).2 = [] := splitF_err _ _ _ h
theorem rd_rows_quiet {w : World} {A : Option Addr} {n : Nat} {ls : List (List UInt8)} (h : RdRows w A n ls) (k : Nat) : RdRows (w.drewN k) A n ls := h.below (below_drewN (Below.refl _ _) k)

theorem packFields_many (w : World) (A B : Option Addr) (n c m d : Nat) (ls : List (List UInt8)) (h : RdRows w A n ls) (hm : n ≤ maxLen) (hsz : ∀ l ∈ ls, l.length ≤ 140737488355328) (hbig : 100000 < total ls ∨ 5000 < m) (hmd : m ≤ maxLen) :
    Calls Try.prog 10 #[.slice A n c, .slice B m d] w (Tr w) := by
  have HR := Lib.hid h
  have HROWS := Lib.hid (fun W hW => rows_any A n c ls 100000 W hW hm (by omega) hsz)
  clear h hsz hm
  by_cases ht : 100000 < total ls
  · have hd := Lib.hid (show decide (100000 < total ls) = true by simp [ht])
    clear ht hbig
    go_enter Try.func10, Try.ntmps10
    go_wp2_with fail
    refine (aliveJoin_ok _).mono ?_
    rintro e w1 ⟨rfl, hb1⟩
    go_wp2_with fail
    refine (aliveSplit_ok _).mono ?_
    rintro e w2 ⟨rfl, hb2⟩
    go_wp2_with fail
    refine (HROWS.out w2 ((HR.out.below hb1).below hb2)).mono ?_
    rintro e w3 ⟨rfl, rfl⟩
    rw [hd.out]
    go_wp2_with fail
    go_ret
    exact ⟨rfl, hb1.trans (hb2.mono hb1.size)⟩
  · have hd := Lib.hid (show decide (100000 < total ls) = false by simp; omega)
    have hm5 : 5000 < m := by omega
    unfold maxLen at hmd
    clear ht hbig
    go_enter Try.func10, Try.ntmps10
    go_wp2_with fail
    refine (aliveJoin_ok _).mono ?_
    rintro e w1 ⟨rfl, hb1⟩
    go_wp2_with fail
    refine (aliveSplit_ok _).mono ?_
    rintro e w2 ⟨rfl, hb2⟩
    go_wp2_with fail
    refine (HROWS.out w2 ((HR.out.below hb1).below hb2)).mono ?_
    rintro e w3 ⟨rfl, rfl⟩
    rw [hd.out]
    go_wp2_with fail
    go_ret
    exact ⟨rfl, hb1.trans (hb2.mono hb1.size)⟩

set_option maxHeartbeats 1600000 in
theorem packFields_few (w : World) (A B : Option Addr) (n c m d : Nat) (ls : List (List UInt8)) (l : List UInt8) (h : RdRows w A n ls) (hm : n ≤ maxLen) (hsz : ∀ l ∈ ls, l.length ≤ 140737488355328) (ht : total ls ≤ 100000)
    (hb : Rd w B m (l.map bv)) (hm5 : m ≤ 5000) :
    Calls Try.prog 10 #[.slice A n c, .slice B m d] w (Tr w) := by
  have HR := Lib.hid h
  have HB := Lib.hid hb
  have hl : l.length = m := by simpa using hb.1
  have HL := Lib.hid hl
  have HT := Lib.hid ht
  have HM := Lib.hid hm
  have HROWS := Lib.hid (fun W hW => rows_any A n c ls 100000 W hW hm (by omega) hsz)
  have hd := Lib.hid (show decide (100000 < total ls) = false by simp; omega)
  clear h hsz hm hb hl ht
  go_enter Try.func10, Try.ntmps10
  go_wp2_with fail
  refine (aliveJoin_ok _).mono ?_
  rintro e w1 ⟨rfl, hb1⟩
  go_wp2_with fail
  refine (aliveSplit_ok _).mono ?_
  rintro e w2 ⟨rfl, hb2⟩
  have HB2 := Lib.hid (hb1.trans (hb2.mono hb1.size))
  clear hb1 hb2
  go_wp2_with fail
  refine (HROWS.out w2 (HR.out.below HB2.out)).mono ?_
  rintro e w3 ⟨rfl, rfl⟩
  rw [hd.out]
  go_wp2_with fail
  refine (copyRows_any A n c ls w2 (HR.out.below HB2.out) (by have := HT.out; omega)).mono ?_
  rintro e w3 ⟨A3, n3, c3, rfl, ho3, hb3⟩
  have HB3 := Lib.hid (HB2.out.trans (hb3.mono HB2.out.size))
  clear hb3
  go_wp2_with fail
  refine (join_any A3 n3 c3 ls w3 ho3.rd (by have := HT.out; omega)).mono ?_
  rintro e w4 ⟨hb4, ⟨hj, rfl⟩ | ⟨hj, A4, n4, c4, rfl, ho4⟩⟩
  · have HBX := Lib.hid (HB3.out.trans (hb4.mono HB3.out.size))
    clear hj hb4
    go_wp2_with fail
    refine (copyBytes_any B m d l _ (HB.out.below HBX.out) (by omega)).mono ?_
    rintro e w8 ⟨A8, n8, c8, rfl, ho8, hb8⟩
    have hn8 : n8 = m := by have := OwnB.len ho8; have := HL.out; omega
    subst hn8
    have HC8 := Lib.hid (own_cap ho8)
    have HB8 := Lib.hid (HBX.out.trans (hb8.mono HBX.out.size))
    clear hb8
    go_wp2_with fail
    refine (split_any A8 n8 c8 l w8 ho8.rd HC8.out.1 HC8.out.2 (by omega)).mono ?_
    rintro e w9 ⟨hb9, ⟨hz, rfl⟩ | ⟨hz, A9, n9, c9, rfl, ho9⟩⟩
    · have hz2 : ((((splitN l).1 : Nat) : Int) != 0) = true := by rw [bne_iff_ne]; omega
      have HB9 := Lib.hid (HB8.out.trans (hb9.mono HB8.out.size))
      clear hz hb9
      go_wp2_with fail
      go_ret
      exact ⟨rfl, HB9.out⟩
    · have hjs := joinN_splitN hz
      have HJ1 := Lib.hid hjs.1
      have HJ2 := Lib.hid hjs.2
      have HTT := Lib.hid (show total (splitN l).2 ≤ 68719476736 by have := total_join (splitN l).2; rw [hjs.1] at this; have := HL.out; omega)
      have HB9 := Lib.hid (HB8.out.trans (hb9.mono HB8.out.size))
      clear hz hb9 hjs
      go_wp2_with fail
      refine (join_any A9 n9 c9 (splitN l).2 w9 ho9.rd HTT.out).mono ?_
      rintro e w10 ⟨hb10, ⟨hj10, _⟩ | ⟨hj10, A10, n10, c10, rfl, ho10⟩⟩
      · rw [HJ2.out] at hj10; cases hj10
      clear hj10
      have HB10 := Lib.hid (HB9.out.trans (hb10.mono HB9.out.size))
      have ho10' : OwnB w10 w9.heap.size A10 n10 c10 l := by rw [HJ1.out] at ho10; exact ho10
      clear hb10 ho10
      go_wp2_with fail
      refine (sameBytes_self A10 B n10 n8 c10 d _ l ho10'.rd (HB.out.below HB10.out) (Nat.le_trans (own_cap ho10').1 (own_cap ho10').2)).mono ?_
      rintro e w11 ⟨rfl, k, rfl⟩
      go_wp2_with fail
      go_ret
      exact ⟨rfl, below_drewN HB10.out k⟩
  · have HSJ := Lib.hid (splitN_joinN hj)
    have HB4 := Lib.hid (HB3.out.trans (hb4.mono HB3.out.size))
    have hn4 : n4 ≤ 1099511627776 := by have := OwnB.len ho4; have := joinN_len (ls := ls) (by have := HT.out; omega); have := HT.out; omega
    have HC4 := Lib.hid (own_cap ho4)
    clear hj hb4
    go_wp2_with fail
    refine (split_any A4 n4 c4 (joinN ls) w4 ho4.rd HC4.out.1 HC4.out.2 hn4).mono ?_
    rintro e w5 ⟨hb5, ⟨hz5, _⟩ | ⟨_, A5, n5, c5, rfl, ho5⟩⟩
    · rw [HSJ.out] at hz5; exact absurd rfl hz5
    have ho5' : OwnRs w5 w4.heap.size A5 n5 c5 ls := by rw [HSJ.out] at ho5; exact ho5
    have HB5 := Lib.hid (HB4.out.trans (hb5.mono HB4.out.size))
    clear hb5 ho5
    go_wp2_with fail
    refine (sameRows_self A5 A n5 n c5 c _ ls ho5'.rd (HR.out.below HB5.out) (own_len_cap ho5')).mono ?_
    rintro e w6 ⟨rfl, k6, rfl⟩
    have HBX := Lib.hid (below_drewN HB5.out k6)
    clear hn4
    go_wp2_with fail
    refine (copyBytes_any B m d l _ (HB.out.below HBX.out) (by omega)).mono ?_
    rintro e w8 ⟨A8, n8, c8, rfl, ho8, hb8⟩
    have hn8 : n8 = m := by have := OwnB.len ho8; have := HL.out; omega
    subst hn8
    have HC8 := Lib.hid (own_cap ho8)
    have HB8 := Lib.hid (HBX.out.trans (hb8.mono HBX.out.size))
    clear hb8
    go_wp2_with fail
    refine (split_any A8 n8 c8 l w8 ho8.rd HC8.out.1 HC8.out.2 (by omega)).mono ?_
    rintro e w9 ⟨hb9, ⟨hz, rfl⟩ | ⟨hz, A9, n9, c9, rfl, ho9⟩⟩
    · have hz2 : ((((splitN l).1 : Nat) : Int) != 0) = true := by rw [bne_iff_ne]; omega
      have HB9 := Lib.hid (HB8.out.trans (hb9.mono HB8.out.size))
      clear hz hb9
      go_wp2_with fail
      go_ret
      exact ⟨rfl, HB9.out⟩
    · have hjs := joinN_splitN hz
      have HJ1 := Lib.hid hjs.1
      have HJ2 := Lib.hid hjs.2
      have HTT := Lib.hid (show total (splitN l).2 ≤ 68719476736 by have := total_join (splitN l).2; rw [hjs.1] at this; have := HL.out; omega)
      have HB9 := Lib.hid (HB8.out.trans (hb9.mono HB8.out.size))
      clear hz hb9 hjs
      go_wp2_with fail
      refine (join_any A9 n9 c9 (splitN l).2 w9 ho9.rd HTT.out).mono ?_
      rintro e w10 ⟨hb10, ⟨hj10, _⟩ | ⟨hj10, A10, n10, c10, rfl, ho10⟩⟩
      · rw [HJ2.out] at hj10; cases hj10
      clear hj10
      have HB10 := Lib.hid (HB9.out.trans (hb10.mono HB9.out.size))
      have ho10' : OwnB w10 w9.heap.size A10 n10 c10 l := by rw [HJ1.out] at ho10; exact ho10
      clear hb10 ho10
      go_wp2_with fail
      refine (sameBytes_self A10 B n10 n8 c10 d _ l ho10'.rd (HB.out.below HB10.out) (Nat.le_trans (own_cap ho10').1 (own_cap ho10').2)).mono ?_
      rintro e w11 ⟨rfl, k, rfl⟩
      go_wp2_with fail
      go_ret
      exact ⟨rfl, below_drewN HB10.out k⟩

theorem packFields_walk (w : World) (v : Value) (ls : List (List UInt8)) (h : InR w v ls) (x : Value) (l : List UInt8) (hx : InB w x l) : Calls Try.prog 10 #[v, x] w (Tr w) := by
  obtain ⟨A, n, c, rfl, hc, hm, hr, _, hsz⟩ := h
  obtain ⟨B, m, d, rfl, hd, hmd, hb, _⟩ := hx
  by_cases hbig : 100000 < total ls ∨ 5000 < m
  · exact packFields_many w A B n c m d ls hr (by omega) hsz hbig (by omega)
  · exact packFields_few w A B n c m d ls l hr (by omega) hsz (by omega) hb (by omega)
end Go.Proofs.Ytgniocgcfldiaaa
