/-
  What the laws of paths ask first. Walks; no statement.
-/
import Derived.Test.YtclnbggehefbeaaDoorPathDev7
namespace Go.Proofs.YtclnbggehefbeaaDoor
set_option maxRecDepth 100000
open Go.RowKit
set_option linter.unusedVariables false

theorem ans_next {r : Value} {w w1 : World} {e : Ending} {w' : World} (hb : Below w.heap.size w w1) (h : Ans r w1 e w') : e = .returned r ∧ Below w.heap.size w w' := ⟨h.1, hb.trans (h.2.mono hb.size)⟩
set_option maxHeartbeats 3200000 in
theorem alive_ok (w : World) (hE : Env w) : Calls Tryd.prog 9 #[] w (Tr w) := by
  have H1 := Lib.hid (fun W (h : Env W) => show Calls Tryd.prog 10 #[.string ⟨#[47, 97, 47, 98]⟩] W (Ans (.tuple #[.string ⟨#[47, 97]⟩, .int .i64 0]) W) from parent_any ⟨#[47, 97, 47, 98]⟩ W h)
  have H2 := Lib.hid (fun W (h : Env W) => show Calls Tryd.prog 12 #[.string ⟨#[47, 97, 47, 98]⟩] W (Ans (.tuple #[.string ⟨#[98]⟩, .int .i64 0]) W) from name_any ⟨#[47, 97, 47, 98]⟩ W h)
  have H3 := Lib.hid (fun W (h : Env W) => show Calls Tryd.prog 20 #[.string ⟨#[47, 113, 47, 116, 45]⟩, .int .i64 7] W (Ans (.tuple #[.string ⟨#[47, 113, 47, 116, 45, 48, 48, 48, 48, 55]⟩, .int .i64 0]) W) from numbered_any ⟨#[47, 113, 47, 116, 45]⟩ 7 W h rfl)
  have H4 := Lib.hid (fun W (h : Env W) A n c (hr : RdT W A n [[120], [121]]) => show Calls Tryd.prog 24 #[.string ⟨#[47]⟩, .slice A n c] W (Ans (.tuple #[.string ⟨#[47, 120, 47, 121]⟩, .int .i64 0]) W) from join_any ⟨#[47]⟩ A n c [[120], [121]] W h hr (by have : 2 = n := hr.len; unfold maxLen; omega))
  have H5 := Lib.hid (fun W (h : Env W) => show Calls Tryd.prog 16 #[.string ⟨#[47, 97, 47, 98]⟩, .string ⟨#[47, 97]⟩] W (Ans (.bool true) W) from within_any ⟨#[47, 97, 47, 98]⟩ ⟨#[47, 97]⟩ W h)
  have H6 := Lib.hid (fun W (h : Env W) => show Calls Tryd.prog 14 #[.string ⟨#[97]⟩] W (Ans (.int .i64 90) W) from check_any ⟨#[97]⟩ W h)
  have HE := Lib.hid hE
  clear hE
  go_enter Tryd.func9, Tryd.ntmps9
  go_wp2_with fail
  refine (H1.out _ HE.out).mono ?_
  rintro e w1 ⟨rfl, hb1⟩
  go_wp2_with fail
  refine (H2.out _ (HE.out.below hb1)).mono ?_
  rintro e w2 h2
  obtain ⟨rfl, hb2⟩ := ans_next hb1 h2
  clear h2
  go_wp2_with fail
  refine (H3.out _ (HE.out.below hb2)).mono ?_
  rintro e w3 h3
  obtain ⟨rfl, hb3⟩ := ans_next hb2 h3
  clear h3
  go_wp2_with fail
  have hba := hb3.alloc hb3.size (.cells #[.string ⟨#[120]⟩, .string ⟨#[121]⟩] 9)
  refine (H4.out _ (HE.out.below hba) _ _ _ (Rd.new w3 [sv [120], sv [121]] 9)).mono ?_
  rintro e w4 h4
  obtain ⟨rfl, hb4⟩ := ans_next hba h4
  clear h4
  go_wp2_with fail
  refine (H5.out _ (HE.out.below hb4)).mono ?_
  rintro e w5 h5
  obtain ⟨rfl, hb5⟩ := ans_next hb4 h5
  clear h5
  go_wp2_with fail
  refine (H6.out _ (HE.out.below hb5)).mono ?_
  rintro e w6 h6
  obtain ⟨rfl, hb6⟩ := ans_next hb5 h6
  clear h6
  go_wp2_with fail
  go_ret
  exact ⟨rfl, hb6⟩
end Go.Proofs.YtclnbggehefbeaaDoor
