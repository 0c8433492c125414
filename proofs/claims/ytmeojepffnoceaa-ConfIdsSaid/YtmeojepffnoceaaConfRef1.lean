/-
  The reference's Check: a walk over the plain words. No statement.
-/
import Derived.Test.YtmeojepffnoceaaConfPlain
namespace Go.Proofs.Ytmeojepffnoceaa
open Go.RowKit
set_option linter.unusedVariables false

set_option maxHeartbeats 6400000 in
theorem refCheck_any (u r p wi ev pa : Int) (A : Option Addr) (n c : Nat) (w : World) :
    Calls Try.prog 11 #[.agg #[.int .i64 u, .int .i64 r, .int .i64 p, .int .i64 wi, .int .i64 ev, .int .i64 pa, .slice A n c]] w (Tells (.int .i64 (Cf.err ⟨u, r, p, wi, ev, pa, n⟩)) w) := by
  have HB0 := Lib.hid ((Below.refl w.heap.size w).alloc (Nat.le_refl _) (.cells #[.int .i64 u, .int .i64 r, .int .i64 p, .int .i64 wi, .int .i64 ev, .int .i64 pa, .slice A n c] 24))
  have HN := Lib.hid (show ¬ Cf.Ok ⟨u, r, p, wi, ev, pa, n⟩ → Cf.err ⟨u, r, p, wi, ev, pa, n⟩ = 60 by intro h; unfold Cf.err; rw [if_neg h])
  have HY := Lib.hid (show Cf.Ok ⟨u, r, p, wi, ev, pa, n⟩ → Cf.err ⟨u, r, p, wi, ev, pa, n⟩ = 0 by intro h; unfold Cf.err; rw [if_pos h])
  by_cases h0 : r < 0
  · have HR := Lib.hid (HN.out (by unfold Cf.Ok; simp only; omega))
    go_enter Try.func11, Try.ntmps11
    go_wp2_with fail
    go_ret
    exact ⟨ret_int HR.out.symm, HB0.out⟩
  by_cases h1 : u < r
  · have HR := Lib.hid (HN.out (by unfold Cf.Ok; simp only; omega))
    go_enter Try.func11, Try.ntmps11
    go_wp2_with fail
    go_ret
    exact ⟨ret_int HR.out.symm, HB0.out⟩
  by_cases h2 : 2 < u
  · have HR := Lib.hid (HN.out (by unfold Cf.Ok; simp only; omega))
    go_enter Try.func11, Try.ntmps11
    go_wp2_with fail
    go_ret
    exact ⟨ret_int HR.out.symm, HB0.out⟩
  by_cases h3 : p < 1
  · have HR := Lib.hid (HN.out (by unfold Cf.Ok; simp only; omega))
    go_enter Try.func11, Try.ntmps11
    go_wp2_with fail
    go_ret
    exact ⟨ret_int HR.out.symm, HB0.out⟩
  by_cases h4 : 8 < p
  · have HR := Lib.hid (HN.out (by unfold Cf.Ok; simp only; omega))
    go_enter Try.func11, Try.ntmps11
    go_wp2_with fail
    go_ret
    exact ⟨ret_int HR.out.symm, HB0.out⟩
  by_cases h5 : wi < 1
  · have HR := Lib.hid (HN.out (by unfold Cf.Ok; simp only; omega))
    go_enter Try.func11, Try.ntmps11
    go_wp2_with fail
    go_ret
    exact ⟨ret_int HR.out.symm, HB0.out⟩
  by_cases h6 : 8 < wi
  · have HR := Lib.hid (HN.out (by unfold Cf.Ok; simp only; omega))
    go_enter Try.func11, Try.ntmps11
    go_wp2_with fail
    go_ret
    exact ⟨ret_int HR.out.symm, HB0.out⟩
  by_cases h7 : ev < 1
  · have HR := Lib.hid (HN.out (by unfold Cf.Ok; simp only; omega))
    go_enter Try.func11, Try.ntmps11
    go_wp2_with fail
    go_ret
    exact ⟨ret_int HR.out.symm, HB0.out⟩
  by_cases h8 : wi < ev
  · have HR := Lib.hid (HN.out (by unfold Cf.Ok; simp only; omega))
    go_enter Try.func11, Try.ntmps11
    go_wp2_with fail
    go_ret
    exact ⟨ret_int HR.out.symm, HB0.out⟩
  by_cases h9 : pa < 1
  · have HR := Lib.hid (HN.out (by unfold Cf.Ok; simp only; omega))
    go_enter Try.func11, Try.ntmps11
    go_wp2_with fail
    go_ret
    exact ⟨ret_int HR.out.symm, HB0.out⟩
  by_cases h10 : 1000 < pa
  · have HR := Lib.hid (HN.out (by unfold Cf.Ok; simp only; omega))
    go_enter Try.func11, Try.ntmps11
    go_wp2_with fail
    go_ret
    exact ⟨ret_int HR.out.symm, HB0.out⟩
  by_cases h11 : (64 : Int) < (n : Int)
  · have HR := Lib.hid (HN.out (by unfold Cf.Ok; simp only; omega))
    go_enter Try.func11, Try.ntmps11
    go_wp2_with fail
    go_ret
    exact ⟨ret_int HR.out.symm, HB0.out⟩
  have HR := Lib.hid (HY.out (by unfold Cf.Ok; simp only; omega))
  go_enter Try.func11, Try.ntmps11
  go_wp2_with fail
  go_ret
  exact ⟨ret_int HR.out.symm, HB0.out⟩
end Go.Proofs.Ytmeojepffnoceaa
