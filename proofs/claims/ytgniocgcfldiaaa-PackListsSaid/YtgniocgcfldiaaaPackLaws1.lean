import Derived.Test.YtgniocgcfldiaaaAliveNum
import Derived.Test.YtgniocgcfldiaaaRead
import Derived.Test.YtgniocgcfldiaaaOpen
namespace Go.Proofs.Ytgniocgcfldiaaa
open Go.RowKit
open Pk
set_option linter.unusedVariables false

theorem aliveRead_ok (w : World) : Calls Try.prog 18 #[] w (Tr w) := by
  have H := Lib.hid (fun W A n c h a b d => read_any A n c [172, 2, 9] W h a b d)
  have e1 : rdN [172, 2, 9] = (300, 2, 0) := by decide
  have e2 : restN [172, 2, 9] = [9] := by decide
  have E1 := Lib.hid e1
  have E2 := Lib.hid e2
  clear e1 e2
  go_enter Try.func18, Try.ntmps18
  go_wp2_with fail
  refine (H.out _ _ _ _ (Rd.new w [.int .u8 172, .int .u8 2, .int .u8 9] _) (by simp) (by simp [maxLen]) (by simp)).mono ?_
  rintro e w1 ⟨A, n, c, rfl, ho, hb⟩
  rw [E1.out, E2.out] at *
  have hl : n = 1 := by have := OwnB.len ho; simpa using this.symm
  subst hl
  go_wp2_with fail
  refine (sameBytes_any A (some ⟨w1.heap.size, 0, none⟩) 1 1 c 1 _ [9] [9] (OwnB.alloc ho _).rd (Rd.new w1 [.int .u8 9] _) (by simp [maxLen])).mono ?_
  rintro e w2 ⟨rfl, k, rfl⟩
  go_wp2_with fail
  go_ret
  have b1 : Below w.heap.size w w1 := ((Below.refl _ _).alloc (Nat.le_refl _) _).trans (hb.mono (by simp))
  exact ⟨rfl, below_drewN (b1.alloc b1.size _) k⟩

theorem packReads_big (w : World) (A : Option Addr) (n c : Nat) (hn : 100000 < n) (hm : n ≤ maxLen) : Calls Try.prog 5 #[.slice A n c] w (Tr w) := by
  unfold maxLen at hm
  go_enter Try.func5, Try.ntmps5
  go_wp2_with fail
  refine (aliveRead_ok _).mono ?_
  rintro e w1 ⟨rfl, hb1⟩
  go_wp2_with fail
  go_ret
  exact ⟨rfl, hb1⟩

theorem packReads_small (w : World) (A : Option Addr) (n c : Nat) (l : List UInt8) (hn : n ≤ 100000) (h : Rd w A n (l.map bv)) (hc : n ≤ c) (hm : c ≤ maxLen) : Calls Try.prog 5 #[.slice A n c] w (Tr w) := by
  have hl : l.length = n := by simpa using h.1
  have HR := Lib.hid h
  have HL := Lib.hid hl
  have HC := Lib.hid hc
  clear h hl hc
  have hlt := rdN_lt l
  have HLT := Lib.hid hlt
  clear hlt
  go_enter Try.func5, Try.ntmps5
  go_wp2_with fail
  refine (aliveRead_ok _).mono ?_
  rintro e w1 ⟨rfl, hb1⟩
  go_wp2_with fail
  refine (spare_any A n c l w1 (HR.out.below hb1) (by omega)).mono ?_
  rintro e w2 ⟨A2, n2, c2, rfl, ho2, hb2⟩
  have hn2 : n2 = n + 8 := by have := OwnB.len ho2; simpa [marks_len, HL.out] using this.symm
  subst hn2
  have hcap : n + 8 ≤ c2 ∧ c2 ≤ maxLen := own_cap ho2
  have hcap1 := hcap.1
  have hcap2 := Lib.hid hcap.2
  clear hcap
  go_wp2_with fail
  refine (read_any A2 n c2 l w2 ?hr (by omega) hcap2.out (by omega)).mono ?_
  case hr =>
    have h8 := ho2.rd.front (k := n) (by omega)
    rw [List.map_append, List.take_left' (by rw [List.length_map]; exact HL.out)] at h8
    exact h8
  rintro e w3 ⟨A3, n3, c3, rfl, ho3, hb3⟩
  go_wp2_with fail
  refine (refRead_any A n c l w3 (((HR.out.below hb1).below hb2).below hb3) HC.out (by omega)).mono ?_
  rintro e w4 ⟨A4, n4, c4, rfl, ho4, hb4⟩
  have hn34 : n3 ≤ maxLen := Nat.le_trans (own_cap ho3).1 (own_cap ho3).2
  have HN34 := Lib.hid hn34
  clear hn34
  go_wp2_with fail
  refine (sameBytes_self A3 A4 n3 n4 c3 c4 _ (restN l) (ho3.below hb4).rd ho4.rd HN34.out).mono ?_
  rintro e w5 ⟨rfl, k, rfl⟩
  go_wp2_with fail
  refine (spare_any A n c l _ (((((HR.out.below hb1).below hb2).below hb3).below hb4).drewN k) (by omega)).mono ?_
  rintro e w6 ⟨A6, n6, c6, rfl, ho6, hb6⟩
  have b6 := below_undrawn hb6
  go_wp2_with fail
  refine (sameBytes_self A2 A6 (n + 8) n6 c2 c6 _ (l ++ marks 8) (((ho2.below hb3).below hb4).below b6).rd ho6.rd (by simp only [maxLen]; omega)).mono ?_
  rintro e w7 ⟨rfl, k2, rfl⟩
  go_wp2_with fail
  go_ret
  have s1 := hb1.size
  have s2 := Nat.le_trans s1 hb2.size
  have s3 := Nat.le_trans s2 hb3.size
  have s4 := Nat.le_trans s3 hb4.size
  exact ⟨rfl, below_drewN (hb1.trans ((hb2.mono s1).trans ((hb3.mono s2).trans ((hb4.mono s3).trans (b6.mono s4))))) k2⟩

theorem packReads_walk (w : World) (v : Value) (l : List UInt8) (h : InB w v l) : Calls Try.prog 5 #[v] w (Tr w) := by
  obtain ⟨A, n, c, rfl, hc, hm, hr, _⟩ := h
  rcases Nat.lt_or_ge 100000 n with h | h
  · exact packReads_big w A n c h (by omega)
  · exact packReads_small w A n c l h hr hc hm
end Go.Proofs.Ytgniocgcfldiaaa
