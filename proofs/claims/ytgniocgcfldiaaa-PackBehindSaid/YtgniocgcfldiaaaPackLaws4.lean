import Derived.Test.YtgniocgcfldiaaaRefJoin
import Derived.Lib.SlBytesConst
namespace Go.Proofs.Ytgniocgcfldiaaa
open Go.RowKit
open Pk
set_option linter.unusedVariables false

/-- two rows written out: "ab" and nothing -/
theorem rows_ab (w : World) : RdRows ((w.alloc (.cells #[.int .u8 97, .int .u8 98] 5 (2, 3))).alloc (.cells #[.slice (some ⟨w.heap.size, 0, none⟩) 2 2, .slice none 0 0] 22)) (some ⟨w.heap.size + 1, 0, none⟩) 2 [[97, 98], []] := by
  have h1 := Rd.new (w.alloc (.cells #[.int .u8 97, .int .u8 98] 5 (2, 3))) [.slice (some ⟨w.heap.size, 0, none⟩) 2 2, .slice none 0 0] 22
  have h2 := (Rd.marked w [.int .u8 97, .int .u8 98] 5 (2, 3)).alloc (.cells #[.slice (some ⟨w.heap.size, 0, none⟩) 2 2, .slice none 0 0] 22)
  refine ⟨rfl, _, by simpa using h1, fun k u l hu hl => ?_⟩
  match k, hu, hl with
  | 0, hu, hl =>
    simp at hu hl
    subst hu hl
    exact ⟨_, _, rfl, by simp, by simp [maxLen], h2, by simp⟩
  | 1, hu, hl =>
    simp at hu hl
    subst hu hl
    exact ⟨_, _, rfl, by simp, by simp [maxLen], Rd.nil_ _ _, by simp⟩
  | k + 2, hu, hl => simp at hl

theorem aliveJoin_ok (w : World) : Calls Try.prog 22 #[] w (Tr w) := by
  have H := Lib.hid (join_any _ _ 2 _ _ (rows_ab w) (by decide))
  have e1 : joinBad [[97, 98], []] = false := by decide
  have e2 : joinN [[97, 98], []] = [2, 97, 98, 0] := by decide
  have E1 := Lib.hid e1
  have E2 := Lib.hid e2
  clear e1 e2
  have kc := fun (w : World) => Lib.run_convert_bytes_const (P := Try.prog) w 22 5 #[.int .u8 97, .int .u8 98] 2 2 Try.underlying22 Try.underlying5
  go_enter Try.func22, Try.ntmps22
  go_wp2_with fail
  refine H.out.mono ?_
  rintro e w1 ⟨hb, ⟨h0, _⟩ | ⟨_, A, n, c, rfl, ho⟩⟩
  · rw [E1.out] at h0; cases h0
  rw [E2.out] at *
  have hl : n = 4 := by have := OwnB.len ho; simpa using this.symm
  subst hl
  go_wp2_with fail
  refine (sameBytes_self A (some ⟨w1.heap.size, 0, none⟩) 4 4 c 4 _ [2, 97, 98, 0] (OwnB.alloc ho _).rd (Rd.new w1 [.int .u8 2, .int .u8 97, .int .u8 98, .int .u8 0] _) (by simp [maxLen])).mono ?_
  rintro e w2 ⟨rfl, k, rfl⟩
  go_wp2_with fail
  go_ret
  have b0 : Below w.heap.size w ((w.alloc (.cells #[.int .u8 97, .int .u8 98] 5 (2, 3))).alloc (.cells #[.slice (some ⟨w.heap.size, 0, none⟩) 2 2, .slice none 0 0] 22)) :=
    ((Below.refl _ _).alloc (Nat.le_refl _) _).alloc (by simp) _
  have b1 : Below w.heap.size w w1 := b0.trans (hb.mono b0.size)
  exact ⟨rfl, below_drewN (b1.alloc b1.size _) k⟩

theorem packJoins_walk (w : World) (v : Value) (ls : List (List UInt8)) (h : InR w v ls) : Calls Try.prog 6 #[v] w (Tr w) := by
  obtain ⟨A, n, c, rfl, hc, hm, hr, _, hsz⟩ := h
  have HR := Lib.hid hr
  have HROWS := Lib.hid (fun W hW => rows_any A n c ls 300000 W hW (by omega) (by omega) hsz)
  have hnm : n ≤ maxLen := by omega
  have HN := Lib.hid hnm
  clear hr hsz hm hc hnm
  by_cases hbig : 300000 < total ls
  · have hd := Lib.hid (show decide (300000 < total ls) = true by simp [hbig])
    clear hbig
    go_enter Try.func6, Try.ntmps6
    go_wp2_with fail
    refine (aliveJoin_ok _).mono ?_
    rintro e w1 ⟨rfl, hb1⟩
    go_wp2_with fail
    refine (HROWS.out w1 (HR.out.below hb1)).mono ?_
    rintro e w2 ⟨rfl, rfl⟩
    rw [hd.out]
    go_wp2_with fail
    go_ret
    exact ⟨rfl, hb1⟩
  · have hd := Lib.hid (show decide (300000 < total ls) = false by simp; omega)
    have HT := Lib.hid (show total ls ≤ 300000 by omega)
    clear hbig
    go_enter Try.func6, Try.ntmps6
    go_wp2_with fail
    refine (aliveJoin_ok _).mono ?_
    rintro e w1 ⟨rfl, hb1⟩
    go_wp2_with fail
    refine (HROWS.out w1 (HR.out.below hb1)).mono ?_
    rintro e w2 ⟨rfl, rfl⟩
    rw [hd.out]
    go_wp2_with fail
    refine (copyRows_any A n c ls w1 (HR.out.below hb1) (by have := HT.out; omega)).mono ?_
    rintro e w2 ⟨A2, n2, c2, rfl, ho2, hb2⟩
    go_wp2_with fail
    refine (join_any A2 n2 c2 ls w2 ho2.rd (by have := HT.out; omega)).mono ?_
    rintro e w3 ⟨hb3, ⟨h0, rfl⟩ | ⟨h0, A3, n3, c3, rfl, ho3⟩⟩
    · go_wp2_with fail
      refine (refJoin_any A n c ls w3 (((HR.out.below hb1).below hb2).below hb3) (by have := HT.out; omega)).mono ?_
      rintro e w4 ⟨hb4, ⟨h1, rfl⟩ | ⟨h1, _⟩⟩
      rotate_left
      · rw [h0] at h1; cases h1
      have H0 := Lib.hid h0
      clear h0 h1
      go_wp2_with fail
      refine (sameBytes_self none none 0 0 0 0 _ [] (Rd.nil_ _ _) (Rd.nil_ _ _) (by simp [maxLen])).mono ?_
      rintro e w5 ⟨rfl, k, rfl⟩
      go_wp2_with fail
      refine (sameRows_self A2 A n2 n c2 c _ ls (((ho2.below hb3).below hb4).drewN k).rd (((((HR.out.below hb1).below hb2).below hb3).below hb4).below (below_drewN (Below.refl _ _) k)) (by have := ho2.1; have := HR.out.1; have := HN.out; omega)).mono ?_
      rintro e w6 ⟨rfl, k2, rfl⟩
      go_wp2_with fail
      go_ret
      have s1 := hb1.size
      have s2 := Nat.le_trans s1 hb2.size
      have s3 := Nat.le_trans s2 hb3.size
      exact ⟨rfl, below_drewN (hb1.trans ((hb2.mono s1).trans ((hb3.mono s2).trans (hb4.mono s3)))) _⟩
    · go_wp2_with fail
      refine (refJoin_any A n c ls w3 (((HR.out.below hb1).below hb2).below hb3) (by have := HT.out; omega)).mono ?_
      rintro e w4 ⟨hb4, ⟨h1, rfl⟩ | ⟨h1, A4, n4, c4, rfl, ho4⟩⟩
      · rw [h0] at h1; cases h1
      have H0 := Lib.hid h0
      clear h0 h1
      go_wp2_with fail
      refine (sameBytes_self A3 A4 n3 n4 c3 c4 _ (joinN ls) (ho3.below hb4).rd ho4.rd (Nat.le_trans (own_cap ho3).1 (own_cap ho3).2)).mono ?_
      rintro e w5 ⟨rfl, k, rfl⟩
      go_wp2_with fail
      refine (sameRows_self A2 A n2 n c2 c _ ls (((ho2.below hb3).below hb4).drewN k).rd (((((HR.out.below hb1).below hb2).below hb3).below hb4).below (below_drewN (Below.refl _ _) k)) (by have := ho2.1; have := HR.out.1; have := HN.out; omega)).mono ?_
      rintro e w6 ⟨rfl, k2, rfl⟩
      go_wp2_with fail
      go_ret
      have s1 := hb1.size
      have s2 := Nat.le_trans s1 hb2.size
      have s3 := Nat.le_trans s2 hb3.size
      exact ⟨rfl, below_drewN (hb1.trans ((hb2.mono s1).trans ((hb3.mono s2).trans (hb4.mono s3)))) _⟩
end Go.Proofs.Ytgniocgcfldiaaa
