/-
  A path's parent and its name. Walks; no statement.
-/
import Derived.Test.YtgppclmofphlfaaGreatDoorPathDev3
import Derived.Deep.CutRange
import Derived.Deep.RegionHeld3
namespace Go.Proofs.YtgppclmofphlfaaGreatDoor
set_option maxRecDepth 100000
open Go.RowKit
set_option linter.unusedVariables false

set_option maxHeartbeats 3200000 in
theorem cut_any (s : ByteArray) (w : World) (hE : Env w) : Calls Tryz.prog 59 #[.string s] w (Ans (cutV s.data.toList) w) := by
  obtain ⟨l, rfl⟩ : ∃ l : List UInt8, s = ⟨l.toArray⟩ := ⟨s.data.toList, (sv_of s).symm⟩
  show Calls _ _ _ _ (Ans (cutV l) w)
  have HC := Lib.hid (show Calls _ _ _ _ (Ans (.int .i64 (errB (belowP l))) w) from checkBelow_any ⟨l.toArray⟩ w hE)
  have none_ : belowP l = false → parentP l = none → Calls Tryz.prog 59 #[.string ⟨l.toArray⟩] w (Ans (cutV l) w) := by
    intro h1 h2
    have HV := Lib.hid (show cutV l = .tuple #[.string ⟨#[]⟩, .string ⟨#[]⟩, .int .i64 90] by unfold cutV; rw [h2])
    rw [h1] at HC
    clear h1 h2
    go_enter Tryz.func59, Tryz.ntmps59
    go_wp2_with (first | (go_at_call 60; refine (HC.out).mono ?_; rintro e w' ⟨rfl, hb⟩))
    go_ret3
    rw [HV.out]
    exact ⟨rfl, hb⟩
  rcases path_cases l with h | ⟨h, _⟩ | ⟨ps, q, h, hl, hps, hq, h64⟩
  · exact none_ (belowP_none h).1 (belowP_none h).2.1
  · subst h; exact none_ rfl rfl
  · clear none_
    have hp := parentP_eq h
    have HV := Lib.hid (show cutV l = .tuple #[.string ⟨(wholeP ps).toArray⟩, .string ⟨q.toArray⟩, .int .i64 0] by unfold cutV; rw [hp.1, hp.2])
    rw [show belowP l = true by unfold belowP; rw [hp.2]; rfl] at HC
    have hnl : (47 : UInt8) ∉ q := part_noslash hq
    have hll : l.length = (joinP ps).length + 1 + q.length := by rw [hl]; simp; omega
    have HL := Lib.hid (fun W => show Calls Tryz.prog 75 #[.string ⟨l.toArray⟩, .string ⟨#[47]⟩] W fun e w' => e = .returned (.int .i64 ((joinP ps).length : Int)) ∧ w' = W by
      have := Tryz.strings_LastIndex_one ⟨l.toArray⟩ ⟨#[47]⟩ rfl (by show l.length < _; omega) W
      rw [← last_slash ⟨l.toArray⟩ (joinP ps) q hl hnl]
      exact this)
    have HA := Lib.hid (show ∀ x : ByteArray, x = (⟨l.toArray⟩ : ByteArray).extract 0 (max (joinP ps).length 1) → x = ⟨(wholeP ps).toArray⟩ by
      rintro x rfl
      rw [← sv_of (ByteArray.extract _ _ _), Lib.extract_data, ← wholeP_front ps q, ← hl]
      rfl)
    have HB := Lib.hid (show ∀ x : ByteArray, x = (⟨l.toArray⟩ : ByteArray).extract ((joinP ps).length + 1) l.length → x = ⟨q.toArray⟩ by
      rintro x rfl
      rw [← sv_of (ByteArray.extract _ _ _), Lib.extract_data]
      show (⟨(List.take (l.length - ((joinP ps).length + 1)) (List.drop ((joinP ps).length + 1) l)).toArray⟩ : ByteArray) = _
      rw [hl, show (joinP ps).length + 1 = (joinP ps ++ [(47 : UInt8)]).length by simp, show joinP ps ++ 47 :: q = (joinP ps ++ [47]) ++ q by simp, List.drop_left, List.take_of_length_le (by simp; omega)])
    have hsp : (wholeP ps).length ≤ 64 := by rw [← wholeP_front ps q, ← hl, List.length_take]; omega
    have HS1 := Lib.hid (fun (x : ByteArray) (hx : x = (⟨l.toArray⟩ : ByteArray).extract 0 (max (joinP ps).length 1)) W => show Calls Tryz.prog 42 #[.string x] W (Ans (.string ⟨(wholeP ps).toArray⟩) W) by
      rw [HA.out x hx]; exact cloneS_any ⟨(wholeP ps).toArray⟩ W hsp)
    have HS2 := Lib.hid (fun (x : ByteArray) (hx : x = (⟨l.toArray⟩ : ByteArray).extract ((joinP ps).length + 1) l.length) W => show Calls Tryz.prog 42 #[.string x] W (Ans (.string ⟨q.toArray⟩) W) by
      rw [HB.out x hx]; exact cloneS_any ⟨q.toArray⟩ W (by show q.length ≤ 64; omega))
    clear h hl hps hq hp hnl HA HB hsp
    generalize (joinP ps).length = n at *
    have h1 : (n : Int) + 1 ≤ l.length := by omega
    obtain ⟨mx, hmx⟩ : ∃ mx, max n 1 = mx := ⟨_, rfl⟩
    have HM := Lib.hid (show max (n : Int) 1 = (mx : Int) by omega)
    rw [hmx] at HS1
    have hm1 : mx ≤ l.length := by omega
    have hm2 : 0 ≤ (mx : Int) := by omega
    have hm3 : (mx : Int) ≤ l.length := by omega
    obtain ⟨n1, hn1⟩ : ∃ n1, n1 = n + 1 := ⟨_, rfl⟩
    rw [← hn1] at HS2
    have hwr : IntKind.i64.wrap ((n : Int) + 1) = (n1 : Int) := by rw [hn1]; simp only [IntKind.wrap, IntKind.bits, IntKind.signed]; simp; omega
    have h2 : 0 ≤ (n1 : Int) := by omega
    have h3 : (n1 : Int) ≤ l.length := by omega
    clear hmx hll hn1 h1
    go_enter Tryz.func59, Tryz.ntmps59
    go_wp2_with (first
        | (go_at_call 60; refine (HC.out).mono ?_; rintro e w1 ⟨rfl, hb⟩)
        | (go_at_call 75; refine (HL.out _).mono ?_; rintro e w2 ⟨rfl, rfl⟩))
    rw [HM.out]
    have hw : Below w.heap.size w w2 := hb
    clear hb
    go_region_held3 AnyW (exact anyW _)
      (first
      | (go_at_call 42; with_reducible refine (HS1.out _ ?_ _).mono ?_
         focus with_reducible rfl
         rintro e w' ⟨rfl, hx⟩
         first | replace hw := hw.trans (hx.mono hw.size) | replace hw := (below_drewN hw 1).trans (hx.mono hw.size)
         clear hx)
      | (go_at_call 42; with_reducible refine (HS2.out _ ?_ _).mono ?_
         focus with_reducible rfl
         rintro e w' ⟨rfl, hx⟩
         first | replace hw := hw.trans (hx.mono hw.size) | replace hw := (below_drewN hw 1).trans (hx.mono hw.size)
         clear hx))
    all_goals
      go_wp2_with fail
      go_ret3
      rw [HV.out]
      exact ⟨rfl, hw⟩
theorem parent_any (s : ByteArray) (w : World) (hE : Env w) : Calls Tryz.prog 38 #[.string s] w (Ans (optV (parentP s.data.toList)) w) := by
  have HC := Lib.hid (cut_any s w hE)
  rcases cut_cases s.data.toList with ⟨h1, h2, h3⟩ | ⟨a, b, h1, h2, h3⟩ <;>
  (have HO := Lib.hid h1
   rw [h3] at HC
   clear h1 h2 h3
   go_enter Tryz.func38, Tryz.ntmps38
   go_wp2_with (first | (go_at_call 59; refine (HC.out).mono ?_; rintro e w' ⟨rfl, hb⟩))
   go_ret2
   rw [HO.out]
   exact ⟨rfl, hb⟩)
end Go.Proofs.YtgppclmofphlfaaGreatDoor
