/-
  CopyConf: a configuration in new memory. A walk; no statement.
-/
import Derived.Test.YtmeojepffnoceaaConfPlain
import Derived.Test.YtmeojepffnoceaaMBase
namespace Go.Proofs.Ytmeojepffnoceaa
open Go.RowKit
set_option linter.unusedVariables false

theorem info_conf : (Try.prog.info? 24).map (·.size) = some 7 := by kernel_rfl
/-- a configuration in new memory: all else is as it was -/
def FreshCf (u r p wi ev pa : Int) (l : List UInt8) (w : World) (e : Ending) (w' : World) : Prop :=
  ∃ A n c, e = .returned (.agg #[.int .i64 u, .int .i64 r, .int .i64 p, .int .i64 wi, .int .i64 ev, .int .i64 pa, .slice A n c]) ∧ OwnB w' w.heap.size A n c l ∧ Below w.heap.size w w'
set_option maxHeartbeats 1600000 in
theorem copyConf_any (u r p wi ev pa : Int) (A : Option Addr) (n c : Nat) (l : List UInt8) (w : World) (h : Rd w A n (l.map bv)) (hn : n ≤ 140737488355328) :
    Calls Try.prog 9 #[.agg #[.int .i64 u, .int .i64 r, .int .i64 p, .int .i64 wi, .int .i64 ev, .int .i64 pa, .slice A n c]] w (FreshCf u r p wi ev pa l w) := by
  have HC := Lib.hid (fun W h => copyBytes_big A n c l W h hn)
  have H := Lib.hid h
  clear h
  go_enter Try.func9, Try.ntmps9
  go_wp2_with fail
  have b0 := ((Below.refl w.heap.size w).alloc (Nat.le_refl _) (.cells #[.int .i64 u, .int .i64 r, .int .i64 p, .int .i64 wi, .int .i64 ev, .int .i64 pa, .slice A n c] 24)).alloc (by simp) (.cells #[.int .i64 0, .int .i64 0, .int .i64 0, .int .i64 0, .int .i64 0, .int .i64 0, .slice none 0 0] 24)
  have HB0 := Lib.hid b0
  have HK0 := Lib.hid ((Bk.new w 24 [.int .i64 u, .int .i64 r, .int .i64 p, .int .i64 wi, .int .i64 ev, .int .i64 pa, .slice A n c]).alloc (.cells #[.int .i64 0, .int .i64 0, .int .i64 0, .int .i64 0, .int .i64 0, .int .i64 0, .slice none 0 0] 24))
  have hk1 := Bk.new (w.alloc (.cells #[.int .i64 u, .int .i64 r, .int .i64 p, .int .i64 wi, .int .i64 ev, .int .i64 pa, .slice A n c] 24)) 24 [.int .i64 0, .int .i64 0, .int .i64 0, .int .i64 0, .int .i64 0, .int .i64 0, .slice none 0 0]
  rw [show (w.alloc (.cells #[.int .i64 u, .int .i64 r, .int .i64 p, .int .i64 wi, .int .i64 ev, .int .i64 pa, .slice A n c] 24)).heap.size = w.heap.size + 1 by simp] at hk1
  have HK1 := Lib.hid hk1
  clear b0 hk1
  refine (HC.out _ (H.out.below HB0.out)).mono ?_
  rintro e w1 ⟨A1, n1, c1, rfl, ho1, hb1⟩
  have HW1 := Lib.hid (below_next HB0.out hb1 HB0.out.size)
  have k0 := HK0.out.kept hb1
  have k1 := HK1.out.kept hb1
  have f06 := k0.frozen 6
  have x06 := k0.at_ (i := 6) rfl
  have hw2 := below_set HW1.out (Nat.le_refl _) 6 (.slice A1 n1 c1)
  have k0' := k0.set 6 (.slice A1 n1 c1)
  have k1' := k1.far (p := ⟨w.heap.size, 6, none⟩) (by show w.heap.size + 1 ≠ w.heap.size; omega) (.slice A1 n1 c1)
  have HW2 := Lib.hid hw2
  have k0' : Bk (w1.setCell ⟨w.heap.size, 6, none⟩ (.slice A1 n1 c1)) w.heap.size 24 [.int .i64 u, .int .i64 r, .int .i64 p, .int .i64 wi, .int .i64 ev, .int .i64 pa, .slice A1 n1 c1] := k0'
  obtain ⟨c00, c01, c02, c03, c04, c05, c06⟩ := k0'.seven
  obtain ⟨c10, c11, c12, c13, c14, c15, c16⟩ := k1'.seven
  have f10 := k1'.frozen 0
  have f11 := k1'.frozen 1
  have f12 := k1'.frozen 2
  have f13 := k1'.frozen 3
  have f14 := k1'.frozen 4
  have f15 := k1'.frozen 5
  have f16 := k1'.frozen 6
  have HK1' := Lib.hid k1'
  have HO1 := Lib.hid (show OwnB (w1.setCell ⟨w.heap.size, 6, none⟩ (.slice A1 n1 c1)) w.heap.size A1 n1 c1 l from
    World.ownsRow.kept (ho1.more HB0.out.size) (grown_set (grown_refl w1 (some w.heap.size)) 6 (.slice A1 n1 c1)) (.inr (own_ne ho1 k0 (by decide))))
  clear k0 k1 hb1 ho1 hw2 k0' k1'
  go_wp2_with fail
  have kk := ((((((HK1'.out.set 0 (.int .i64 u)).set 1 (.int .i64 r)).set 2 (.int .i64 p)).set 3 (.int .i64 wi)).set 4 (.int .i64 ev)).set 5 (.int .i64 pa)).set 6 (.slice A1 n1 c1)
  have g1 := grown_set (grown_set (grown_set (grown_set (grown_set (grown_set (grown_set (grown_refl (w1.setCell ⟨w.heap.size, 6, none⟩ (.slice A1 n1 c1)) (some (w.heap.size + 1))) 0 (.int .i64 u)) 1 (.int .i64 r)) 2 (.int .i64 p)) 3 (.int .i64 wi)) 4 (.int .i64 ev)) 5 (.int .i64 pa)) 6 (.slice A1 n1 c1)
  have o1 := HO1.out.off HK1'.out (by decide) g1
  have bf := below_set (below_set (below_set (below_set (below_set (below_set (below_set HW2.out (show w.heap.size ≤ w.heap.size + 1 by omega) 0 (.int .i64 u)) (show w.heap.size ≤ w.heap.size + 1 by omega) 1 (.int .i64 r)) (show w.heap.size ≤ w.heap.size + 1 by omega) 2 (.int .i64 p)) (show w.heap.size ≤ w.heap.size + 1 by omega) 3 (.int .i64 wi)) (show w.heap.size ≤ w.heap.size + 1 by omega) 4 (.int .i64 ev)) (show w.heap.size ≤ w.heap.size + 1 by omega) 5 (.int .i64 pa)) (show w.heap.size ≤ w.heap.size + 1 by omega) 6 (.slice A1 n1 c1)
  refine bodyPost_ret_by (results_cell_row rfl _ _ (w.heap.size + 1) 24 _ _ _ rfl kk Try.underlying24 rfl info_conf) rfl ?_
  exact ⟨A1, n1, c1, rfl, o1, bf⟩
end Go.Proofs.Ytmeojepffnoceaa
