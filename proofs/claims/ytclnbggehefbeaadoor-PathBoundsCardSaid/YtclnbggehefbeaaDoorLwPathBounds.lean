/-
  The law PathBounds, walked. No statement.
-/
import Derived.Test.YtclnbggehefbeaaDoorLwPathWithin
namespace Go.Proofs.YtclnbggehefbeaaDoor
set_option maxRecDepth 100000
open Go.RowKit
set_option linter.unusedVariables false

set_option maxHeartbeats 6400000 in
theorem pathBounds_walk (w : World) (hE : Env w) (sa : ByteArray) (ha : sa.size ≤ maxLen) : Calls Tryd.prog 8 #[.string sa] w (Tr w) := by
  obtain ⟨a, rfl⟩ : ∃ l : List UInt8, sa = ⟨l.toArray⟩ := ⟨sa.data.toList, (sv_of sa).symm⟩
  have HL := Lib.hid (alive_ok w hE)
  have HE := Lib.hid hE
  have HC := Lib.hid (fun W (h : Env W) => show Calls _ _ _ W (Ans (.int .i64 (errB (partsOf a).isSome)) W) from check_any ⟨a.toArray⟩ W h)
  have HP := Lib.hid (fun W (h : Env W) => show Calls _ _ _ W (PartsP (partsOf a) W) from parts_any ⟨a.toArray⟩ W h)
  clear hE ha
  by_cases hbig : (5000 : Int) < (a.length : Int)
  · go_enter Tryd.func8, Tryd.ntmps8
    go_wp2_with fail
    refine (HL.out).mono ?_
    rintro e w1 ⟨rfl, hb1⟩
    go_wp2_with fail
    go_ret
    exact ⟨rfl, hb1⟩
  · cases hpa : partsOf a with
    | none =>
      rw [hpa] at HP HC
      replace HC := Lib.hid (fun W (h : Env W) => show Calls _ _ _ W (Ans (.int .i64 90) W) from HC.out W h)
      clear hpa
      go_enter Tryd.func8, Tryd.ntmps8
      go_wp2_with fail
      refine (HL.out).mono ?_
      rintro e w1 ⟨rfl, hb1⟩
      go_wp2_with fail
      refine (HP.out _ (HE.out.below hb1)).mono ?_
      rintro e w2 ⟨hp2, rfl⟩
      have hb2 := hb1.trans (hp2.mono hb1.size)
      go_wp2_with fail
      refine (HC.out _ (HE.out.below hb2)).mono ?_
      rintro e w3 h3
      obtain ⟨rfl, hb3⟩ := ans_next hb2 h3
      clear h3
      go_wp2_with fail
      go_ret
      exact ⟨rfl, hb3⟩
    | some ls =>
      rw [hpa] at HP HC
      replace HC := Lib.hid (fun W (h : Env W) => show Calls _ _ _ W (Ans (.int .i64 0) W) from HC.out W h)
      have hm := most_len hpa
      obtain ⟨hw1, hw2, hw3⟩ := whole_parts hpa
      have HW := Lib.hid hw1
      have HQ := Lib.hid (fun x (hx : x ∈ ls) => part_len (hw2 x hx))
      have HJ := Lib.hid (fun k => joinP_most (ls.take k) (fun x hx => (HQ.out x (List.mem_of_mem_take hx)).2))
      clear hpa hw1 hw2
      go_enter Tryd.func8, Tryd.ntmps8
      go_wp2_with fail
      refine (HL.out).mono ?_
      rintro e w1 ⟨rfl, hb1⟩
      go_wp2_with fail
      refine (HP.out _ (HE.out.below hb1)).mono ?_
      rintro e w2 ⟨hp2, A2, n2, c2, rfl, ho2⟩
      have hb2 := hb1.trans (hp2.mono hb1.size)
      have hn := ho2.len
      have hrd := ho2.rd
      have HN := Lib.hid hn
      have hnb : n2 ≤ 64 := by omega
      clear ho2 HP
      go_wp2_with fail
      go_loop [5, 6] (fun s i => ∃ (k j : Nat), k ≤ n2 ∧ i = .int .i64 k ∧ s = .int .i64 j ∧ j = (joinP (ls.take k)).length) (fun _ i => n2 - (intOf i).toNat)
      case atStart => exact ⟨0, 0, by omega, rfl, rfl, by simp [joinP]⟩
      case round =>
        obtain ⟨k, j, hk, rfl, rfl, hj⟩ := hrel
        have hjm : j ≤ 2000 := by
          have := HJ.out k
          rw [← hj, List.length_take] at this
          omega
        by_cases hlt : k < n2
        · obtain ⟨ad, rfl, hab, hac⟩ := hrd.at_ hlt
          have hx := HQ.out _ (getD_mem (d := ([] : List UInt8)) (show k < ls.length by omega))
          have HS := Lib.hid (show (joinP (ls.take (k + 1))).length = j + (1 + (ls.getD k []).length) by
            rw [take_snocD ls [] k (by omega), joinP_app, hj]; simp [joinP]; omega)
          generalize ls.getD k [] = x at *
          obtain ⟨hx1, hx2⟩ := hx
          have e1 : (0 : Int) ≤ (k : Int) := by omega
          have e2 : (k : Int) < (n2 : Int) := by omega
          clear hj hrd hm hn
          go_wp2_with fail
          go_round
          case rel =>
            refine ⟨k + 1, j + (1 + x.length), by omega, ?_, ?_, HS.out.symm⟩
            · go_num
            · go_num
          case measure => simp [intOf]; omega
        · obtain rfl : k = n2 := by omega
          rw [List.take_of_length_le (by omega)] at hj
          by_cases h0 : ls = []
          · have hal : (a.length : Int) = 1 := by rw [← HW.out, h0]; rfl
            obtain rfl : k = 0 := by rw [h0] at hn; exact hn.symm
            obtain rfl : j = 0 := by rw [h0] at hj; exact hj
            clear hj hn hrd hm h0
            go_wp2_with fail
            refine (HC.out _ (HE.out.below hb2)).mono ?_
            rintro e w9 ⟨rfl, hq9⟩
            go_wp2_with fail
            go_ret
            exact ⟨rfl, hb2.trans (hq9.mono hb2.size)⟩
          · have hal : (a.length : Int) = (j : Int) := by rw [← HW.out, hj]; unfold wholeP; rw [if_neg h0]
            have hk0 : 0 < k := by cases ls with | nil => exact absurd rfl h0 | cons _ _ => simp at hn; omega
            have hk1 : ((k : Int) == 0) = false := by simp; omega
            have hj64 : (j : Int) ≤ 64 := by omega
            clear hj hn hrd hm h0 hw3
            go_wp2_with fail
            refine (HC.out _ (HE.out.below hb2)).mono ?_
            rintro e w9 ⟨rfl, hq9⟩
            go_wp2_with fail
            go_ret
            exact ⟨rfl, hb2.trans (hq9.mono hb2.size)⟩
end Go.Proofs.YtclnbggehefbeaaDoor
