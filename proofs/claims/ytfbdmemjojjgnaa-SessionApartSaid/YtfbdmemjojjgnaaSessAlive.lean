/-
  What the laws of sessions ask first: that the calls answer. A walk over the calls' contracts; no statement.
-/
import Derived.Test.YtfbdmemjojjgnaaSessOn
import Derived.Test.YtfbdmemjojjgnaaSessGreat
import Derived.Test.YtfbdmemjojjgnaaSessSame
namespace Go.Proofs.Ytfbdmemjojjgnaa
set_option maxRecDepth 100000
open Go.RowKit
set_option linter.unusedVariables false
set_option maxRecDepth 100000

abbrev sA : Se := ⟨3, 10, 5⟩
set_option maxHeartbeats 6400000 in
theorem aliveS_ok (HC0 : BookCalls) (w : World) : Calls Try.prog 7 #[] w (Tr w) := by
  have HN := Lib.hid (HC0.new_ w)
  have HC := Lib.hid HC0
  clear HC0
  go_enter Try.func7, Try.ntmps7
  go_wp2_with fail
  refine (HN.out).mono ?_
  intro e w1 h1
  obtain ⟨g, F1, rfl, t1, -, -⟩ := SOn.of_new (Below.refl _ w) h1
  have T1 := Lib.hid t1
  clear h1 t1 HN
  go_wp2_with fail
  refine (show Calls _ _ _ _ (MvS F1 w g [sA] (.int .i64 0) _) from T1.out.open_ HC.out sA).mono ?_
  rintro e w2 ⟨rfl, F2, t2, -, -⟩
  have T2 := Lib.hid t2
  clear t2
  go_wp2_with fail
  refine (show Calls _ _ _ _ (Ans (.bool true) _) from T2.out.live_ HC.out 3 (by decide)).mono ?_
  rintro e w3 ⟨rfl, hb3⟩
  have T3 := Lib.hid (T2.out.kept hb3)
  clear hb3
  go_wp2_with fail
  refine (show Calls _ _ _ _ (GoneS F2 w g [sA] [] _) from T3.out.expire_ HC.out 14).mono ?_
  rintro e w4 ⟨A4, c4, F4, rfl, -, -, t4, -, -⟩
  have T4 := Lib.hid t4
  clear t4
  go_wp2_with fail
  refine (show Calls _ _ _ _ (GoneS F4 w g [] [3] _) from T4.out.expire_ HC.out 15).mono ?_
  rintro e w5 ⟨A5, c5, F5, rfl, ho5, -, t5, -, -⟩
  have hba := (Below.refl w5.heap.size w5).alloc (Nat.le_refl _) (.cells #[.int .i64 3] 3)
  have T5 := Lib.hid (t5.kept hba)
  have HSI := Lib.hid (show Calls Try.prog 23 #[.slice A5 1 c5, .slice (some ⟨w5.heap.size, 0, none⟩) 1 1] (w5.alloc (.cells #[.int .i64 3] 3)) (Quiet (.bool true) (w5.alloc (.cells #[.int .i64 3] 3))) from
    sameInts_eq A5 (some ⟨w5.heap.size, 0, none⟩) 1 c5 1 _ [3] [3] ((ho5.rd).below hba) (Rd.new w5 [.int .i64 3] 3) (by decide))
  clear t5 ho5 hba
  go_wp2_with fail
  refine HSI.out.mono ?_
  rintro e w6 ⟨rfl, q6, hw6⟩
  have T6 := Lib.hid (show SOn F5 w g [] w6 by rw [hw6]; exact T5.out.kept (below_drewN (Below.refl _ _) q6))
  clear hw6 HSI
  go_wp2_with fail
  refine (show Calls _ _ _ _ (Ans (.bool false) _) from T6.out.live_ HC.out 3 (by decide)).mono ?_
  rintro e w7 ⟨rfl, hb7⟩
  have T7 := Lib.hid (T6.out.kept hb7)
  clear hb7
  go_wp2_with fail
  refine (T7.out.all_ HC.out).mono ?_
  rintro e w8 ⟨A8, c8, rfl, -, hb8⟩
  have T8 := Lib.hid (T7.out.kept hb8)
  clear hb8
  go_wp2_with fail
  go_ret
  exact ⟨rfl, T8.out.be⟩
end Go.Proofs.Ytfbdmemjojjgnaa
