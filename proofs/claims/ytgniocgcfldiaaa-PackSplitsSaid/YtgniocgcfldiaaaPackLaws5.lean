import Derived.Test.YtgniocgcfldiaaaRefSplit
import Derived.Test.YtgniocgcfldiaaaPackLaws4
import Derived.Test.YtgniocgcfldiaaaPackLaws1
namespace Go.Proofs.Ytgniocgcfldiaaa
open Go.RowKit
open Pk
set_option linter.unusedVariables false

theorem aliveSplit_ok (w : World) : Calls Try.prog 28 #[] w (Tr w) := by
  have H := Lib.hid (split_any _ 4 4 [2, 97, 98, 0] _ (Rd.new w [.int .u8 2, .int .u8 97, .int .u8 98, .int .u8 0] 5) (by omega) (by simp [maxLen]) (by omega))
  have e1 : splitN [2, 97, 98, 0] = (0, [[97, 98], []]) := by decide
  have E1 := Lib.hid e1
  clear e1
  have kc := fun (w : World) => Lib.run_convert_bytes_const (P := Try.prog) w 22 5 #[.int .u8 97, .int .u8 98] 2 2 Try.underlying22 Try.underlying5
  go_enter Try.func28, Try.ntmps28
  go_wp2_with fail
  refine H.out.mono ?_
  rintro e w1 ⟨hb, ⟨h0, _⟩ | ⟨_, A, n, c, rfl, ho⟩⟩
  · rw [E1.out] at h0; exact absurd rfl h0
  rw [E1.out] at *
  have hl : n = 2 := ho.1.symm
  subst hl
  go_wp2_with fail
  have b1 : Below w1.heap.size w1 ((w1.alloc (.cells #[.int .u8 97, .int .u8 98] 5 (2, 3))).alloc (.cells #[.slice (some ⟨w1.heap.size, 0, none⟩) 2 2, .slice none 0 0] 22)) :=
    ((Below.refl _ _).alloc (Nat.le_refl _) _).alloc (by simp) _
  refine (sameRows_self A _ 2 2 c 2 _ [[97, 98], []] (ho.below b1).rd (rows_ab w1) (by simp [maxLen])).mono ?_
  rintro e w2 ⟨rfl, k, rfl⟩
  go_wp2_with fail
  go_ret
  have b0 : Below w.heap.size w w1 := ((Below.refl _ _).alloc (Nat.le_refl _) _).trans (hb.mono (by simp))
  exact ⟨rfl, below_drewN (b0.trans (b1.mono b0.size)) k⟩

theorem packSplits_big (w : World) (A : Option Addr) (n c : Nat) (hn : 5000 < n) (hm : n ≤ maxLen) : Calls Try.prog 7 #[.slice A n c] w (Tr w) := by
  unfold maxLen at hm
  go_enter Try.func7, Try.ntmps7
  go_wp2_with fail
  refine (aliveSplit_ok _).mono ?_
  rintro e w1 ⟨rfl, hb1⟩
  go_wp2_with fail
  go_ret
  exact ⟨rfl, hb1⟩

theorem rd_lt_of {w : World} {A : Option Addr} {n : Nat} {xs : List Value} (h : Rd w A n xs) (hn : 0 < n) : ∀ a, A = some a → a.block < w.heap.size := by
  intro a ha
  obtain ⟨b, e, hb, _⟩ := h.at_ hn
  rw [ha] at e
  injection e with e
  rw [e]; exact hb

set_option maxHeartbeats 800000 in
theorem packSplits_small (w : World) (A : Option Addr) (n c : Nat) (l : List UInt8) (hn : n ≤ 5000) (h : Rd w A n (l.map bv)) (hc : n ≤ c) (hm : c ≤ maxLen) :
    Calls Try.prog 7 #[.slice A n c] w (Tr w) := by
  have hl : l.length = n := by simpa using h.1
  have HM := Lib.hid hm
  have HR := Lib.hid h
  have HL := Lib.hid hl
  have HC := Lib.hid hc
  clear hm h hl hc
  go_enter Try.func7, Try.ntmps7
  go_wp2_with fail
  refine (aliveSplit_ok _).mono ?_
  rintro e w1 ⟨rfl, hb1⟩
  go_wp2_with fail
  refine (spare_any A n c l w1 (HR.out.below hb1) (by omega)).mono ?_
  rintro e w2 ⟨A2, n2, c2, rfl, ho2, hb2⟩
  have hn2 : n2 = n + 8 := by have := OwnB.len ho2; simpa [marks_len, HL.out] using this.symm
  subst hn2
  have hcap : n + 8 ≤ c2 ∧ c2 ≤ maxLen := own_cap ho2
  have hcap1 := hcap.1
  have hcap2 := Lib.hid hcap.2
  clear hcap
  go_wp2_with fail
  refine (split_any A2 n c2 l w2 ?hr (by omega) hcap2.out (by omega)).mono ?_
  case hr =>
    have h8 := ho2.rd.front (k := n) (by omega)
    rw [List.map_append, List.take_left' (by rw [List.length_map]; exact HL.out)] at h8
    exact h8
  have s1 := hb1.size
  have s2 := Nat.le_trans s1 hb2.size
  have HS1 := Lib.hid s1
  have HS2 := Lib.hid s2
  clear s1 s2
  rintro e w3 ⟨hb3, ⟨hz, rfl⟩ | ⟨hz, A3, n3, c3, rfl, ho3⟩⟩
  · have s3 := Nat.le_trans HS2.out hb3.size
    have HS3 := Lib.hid s3
    clear s3
    go_wp2_with fail
    refine (refSplit_any A n c l w3 (((HR.out.below hb1).below hb2).below hb3) HC.out HM.out (by omega)).mono ?_
    rintro e w4 ⟨hb4, ⟨h1, rfl⟩ | ⟨h1, _⟩⟩
    rotate_left
    · exact absurd h1 hz
    clear hz h1
    go_wp2_with fail
    refine (sameRows_self none none 0 0 0 0 _ [] (OwnRs.nil_ _ 0).rd (OwnRs.nil_ _ 0).rd (by simp [maxLen])).mono ?_
    rintro e w5 ⟨rfl, k, rfl⟩
    go_wp2_with fail
    refine (spare_any A n c l _ (((((HR.out.below hb1).below hb2).below hb3).below hb4).drewN k) (by omega)).mono ?_
    rintro e w6 ⟨A6, n6, c6, rfl, ho6, hb6⟩
    have b6 := below_undrawn hb6
    go_wp2_with fail
    refine (sameBytes_self A2 A6 (n + 8) n6 c2 c6 _ (l ++ marks 8) (((ho2.below hb3).below hb4).below b6).rd ho6.rd (by simp only [maxLen]; omega)).mono ?_
    rintro e w7 ⟨rfl, k2, rfl⟩
    go_wp2_with fail
    go_ret
    exact ⟨rfl, below_drewN (hb1.trans ((hb2.mono HS1.out).trans ((hb3.mono HS2.out).trans ((hb4.mono HS3.out).trans (b6.mono (Nat.le_trans HS3.out hb4.size)))))) k2⟩
  · have s3 := Nat.le_trans HS2.out hb3.size
    have HS3 := Lib.hid s3
    clear s3
    go_wp2_with fail
    refine (refSplit_any A n c l w3 (((HR.out.below hb1).below hb2).below hb3) HC.out HM.out (by omega)).mono ?_
    rintro e w4 ⟨hb4, ⟨h1, rfl⟩ | ⟨h1, A4, n4, c4, rfl, ho4⟩⟩
    · exact absurd hz h1
    have hn3 : n3 ≤ maxLen := by
      obtain ⟨_, us, hu, _⟩ := ho3
      rcases hu.2 with ⟨_, e⟩ | ⟨g, cap, cur, _, _, _, hnc, hcm, _⟩
      · rw [e]; simp [maxLen]
      · exact Nat.le_trans hnc hcm
    have HN3 := Lib.hid hn3
    clear hz h1 hn3
    go_wp2_with fail
    refine (sameRows_self A3 A4 n3 n4 c3 c4 _ (splitN l).2 (ho3.below hb4).rd ho4.rd HN3.out).mono ?_
    rintro e w5 ⟨rfl, k, rfl⟩
    go_wp2_with fail
    refine (spare_any A n c l _ (((((HR.out.below hb1).below hb2).below hb3).below hb4).drewN k) (by omega)).mono ?_
    rintro e w6 ⟨A6, n6, c6, rfl, ho6, hb6⟩
    have b6 := below_undrawn hb6
    go_wp2_with fail
    refine (sameBytes_self A2 A6 (n + 8) n6 c2 c6 _ (l ++ marks 8) (((ho2.below hb3).below hb4).below b6).rd ho6.rd (by simp only [maxLen]; omega)).mono ?_
    rintro e w7 ⟨rfl, k2, rfl⟩
    go_wp2_with fail
    go_ret
    exact ⟨rfl, below_drewN (hb1.trans ((hb2.mono HS1.out).trans ((hb3.mono HS2.out).trans ((hb4.mono HS3.out).trans (b6.mono (Nat.le_trans HS3.out hb4.size)))))) k2⟩

theorem packSplits_walk (w : World) (v : Value) (l : List UInt8) (h : InB w v l) : Calls Try.prog 7 #[v] w (Tr w) := by
  obtain ⟨A, n, c, rfl, hc, hm, hr, hap⟩ := h
  rcases Nat.lt_or_ge 5000 n with h | h
  · exact packSplits_big w A n c h (by omega)
  · exact packSplits_small w A n c l h hr hc hm
end Go.Proofs.Ytgniocgcfldiaaa
