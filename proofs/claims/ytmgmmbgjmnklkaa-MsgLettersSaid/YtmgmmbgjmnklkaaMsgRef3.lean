/-
  The reference's fields. A walk; no statement.
-/
import Derived.Test.YtmgmmbgjmnklkaaMsgRef2
import Derived.Test.YtmgmmbgjmnklkaaRefSplit
namespace Go.Proofs.Ytmgmmbgjmnklkaa
set_option maxRecDepth 100000
open Go.RowKit
open Pk
set_option linter.unusedVariables false

theorem add_zero8 (a : Addr) : a.add 0 = a := by unfold Addr.add; simp
theorem own_i_more {w : World} {B B' : Nat} {A : Option Addr} {n c : Nat} {l : List Int} (h : OwnI w B A n c l) (hb : B' ≤ B) : OwnI w B' A n c l := by
  refine ⟨h.1, ?_⟩
  rcases h.2 with h2 | ⟨g, cap, cur, e1, e2, e3⟩
  · exact .inl h2
  · exact .inr ⟨g, cap, cur, e1, Nat.le_trans hb e2, e3⟩
/-- so many fields, the first of them so many numbers -/
def FldP (l : List UInt8) (n k : Nat) (w : World) (e : Ending) (w' : World) : Prop :=
  Below w.heap.size w w' ∧ ((∃ f0 rest vs, rdFlds n l = some (f0 :: rest) ∧ rdNums k f0 = some vs ∧ ∃ A c B d, e = .returned (.tuple #[.slice A n c, .slice B k d, .bool true]) ∧ OwnRs w' w.heap.size A n c (f0 :: rest) ∧ OwnI w' w.heap.size B k d vs) ∨
    ((∀ f0 rest, rdFlds n l = some (f0 :: rest) → rdNums k f0 = none) ∧ ∃ u v, e = .returned (.tuple #[u, v, .bool false])))
set_option maxHeartbeats 1600000 in
theorem refFields_any (L : Option Addr) (ln lc : Nat) (l : List UInt8) (n k : Nat) (w : World) (h : Sl w L ln lc l) (hn : ln ≤ 4294967296) (hn1 : 1 ≤ n) :
    Calls Try.prog 52 #[.slice L ln lc, .int .i64 n, .int .i64 k] w (FldP l n k w) := by
  have H := Lib.hid (refSplit_any L ln lc l w h.rd h.1 h.2.1 (by omega))
  clear h hn
  go_enter Try.func52, Try.ntmps52
  go_wp2_with fail
  refine H.out.mono ?_
  rintro e w1 ⟨hb1, ⟨h0, rfl⟩ | ⟨h0, A1, m1, c1, rfl, ho1⟩⟩
  · have hk : (((splitN l).1 : Int) != 0) = true := by rw [bne_iff_ne]; omega
    have HF := Lib.hid (show ∀ f0 rest, rdFlds n l = some (f0 :: rest) → rdNums k f0 = none by
      intro f0 rest hf
      unfold rdFlds at hf
      rw [if_neg (fun q => h0 q.1)] at hf
      cases hf)
    clear h0
    go_wp2_with fail
    go_ret3
    exact ⟨hb1, .inr ⟨HF.out, _, _, rfl⟩⟩
  have hlen : (splitN l).2.length = m1 := ho1.1
  by_cases hm : m1 = n
  rotate_left
  · have hk : ((m1 : Int) != (n : Int)) = true := by rw [bne_iff_ne]; omega
    have HF := Lib.hid (show ∀ f0 rest, rdFlds n l = some (f0 :: rest) → rdNums k f0 = none by
      intro f0 rest hf
      unfold rdFlds at hf
      rw [if_neg (fun q => hm (by rw [← hlen]; exact q.2))] at hf
      cases hf)
    clear h0 hm hlen
    go_wp2_with fail
    go_ret3
    exact ⟨hb1, .inr ⟨HF.out, _, _, rfl⟩⟩
  subst hm
  have hsf := split_fields h0
  have HRF := Lib.hid (show rdFlds m1 l = some (splitN l).2 by unfold rdFlds; rw [if_pos ⟨h0, hlen⟩])
  match hfs : (splitN l).2, hlen with
  | [], hlen => simp at hlen; omega
  | f0 :: rest, hlen =>
    rw [hfs] at HRF ho1 hsf
    have HO := Lib.hid ho1
    obtain ⟨x, B, d, rfl, hxb, c0, hbf⟩ := (RdS.of_own ho1).b1 (k := 0) (l := f0) rfl
    rw [add_zero8] at c0
    have HI := Lib.hid (refInts_any B f0.length d f0 w1 hbf.rd hbf.1.1 hbf.1.2.1 (by have := hsf f0 (by simp); omega))
    have HB := Lib.hid hb1
    have y0 : (0 : Int) < (m1 : Int) := by omega
    clear hb1 ho1 hbf hxb h0 hlen hsf hfs
    go_wp2_with fail
    clear c0 y0
    refine HI.out.mono ?_
    rintro e w2 ⟨hb2, ⟨h0, rfl⟩ | ⟨h0, A2, m2, c2, rfl, ho2⟩⟩
    · have hk : (((intsN f0).1 : Int) == 0) = false := by rw [beq_eq_false_iff_ne]; omega
      have HF := Lib.hid (show ∀ g0 rest', rdFlds m1 l = some (g0 :: rest') → rdNums k g0 = none by
        intro g0 rest' hf
        rw [HRF.out] at hf
        injection hf with hf
        injection hf with hf _
        subst hf
        unfold rdNums
        rw [if_neg (fun q => h0 q.1)])
      have HB2 := Lib.hid (below_next HB.out hb2 HB.out.size)
      clear h0 hb2
      go_wp2_with fail
      go_ret3
      exact ⟨HB2.out, .inr ⟨HF.out, _, _, rfl⟩⟩
    have hl2 : (intsN f0).2.length = m2 := ho2.len
    have HB2 := Lib.hid (below_next HB.out hb2 HB.out.size)
    have HO2 := Lib.hid (HO.out.below hb2)
    by_cases hm : m2 = k
    · subst hm
      have HRN := Lib.hid (show rdNums m2 f0 = some (intsN f0).2 by unfold rdNums; rw [if_pos ⟨h0, hl2⟩])
      have HI2 := Lib.hid (own_i_more ho2 HB.out.size)
      clear h0 hl2 hb2 ho2
      go_wp2_with fail
      go_ret3
      exact ⟨HB2.out, .inl ⟨f0, rest, _, HRF.out, HRN.out, _, _, _, _, by simp, HO2.out, HI2.out⟩⟩
    · have hk : ((m2 : Int) == (k : Int)) = false := by rw [beq_eq_false_iff_ne]; omega
      have HF := Lib.hid (show ∀ g0 rest', rdFlds m1 l = some (g0 :: rest') → rdNums k g0 = none by
        intro g0 rest' hf
        rw [HRF.out] at hf
        injection hf with hf
        injection hf with hf _
        subst hf
        unfold rdNums
        rw [if_neg (fun q => hm (by rw [← hl2]; exact q.2))])
      clear h0 hb2 hm hl2 ho2
      go_wp2_with fail
      go_ret3
      exact ⟨HB2.out, .inr ⟨HF.out, _, _, rfl⟩⟩
end Go.Proofs.Ytmgmmbgjmnklkaa
