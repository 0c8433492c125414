/-
  The program's Check, Count, Quorum, Proof, Primary and There: walks over the plain words. No statement.
-/
import Derived.Test.YtmeojepffnoceaaConfWithin
namespace Go.Proofs.Ytmeojepffnoceaa
open Go.RowKit
set_option linter.unusedVariables false

/-- the bounds that Check lays -/
def bounds (x : Cf) : List (Int × Int × Int) := [(x.u, 0, 2), (x.r, 0, x.u), (x.p, 1, 8), (x.wi, 1, 8), (x.ev, 1, x.wi), (x.pa, 1, 1000), ((x.n : Int), 0, 64)]
theorem bounds_ok (x : Cf) : (bounds x).all inBd = decide x.Ok := by
  rw [Bool.eq_iff_iff, decide_eq_true_iff]
  unfold bounds Cf.Ok inBd
  simp only [List.all_cons, List.all_nil, Bool.and_eq_true, decide_eq_true_eq, and_true]
  constructor
  · intro h; omega
  · intro h; omega
theorem bounds_rd (w : World) (x : Cf) : RdBd (w.alloc (.cells #[.int .i64 x.u, .int .i64 0, .int .i64 2, .int .i64 x.r, .int .i64 0, .int .i64 x.u, .int .i64 x.p, .int .i64 1, .int .i64 8, .int .i64 x.wi, .int .i64 1, .int .i64 8,
    .int .i64 x.ev, .int .i64 1, .int .i64 x.wi, .int .i64 x.pa, .int .i64 1, .int .i64 1000, .int .i64 (x.n : Int), .int .i64 0, .int .i64 64] 48)) w.heap.size (bounds x) := by
  have K := Bk.new w 48 [.int .i64 x.u, .int .i64 0, .int .i64 2, .int .i64 x.r, .int .i64 0, .int .i64 x.u, .int .i64 x.p, .int .i64 1, .int .i64 8, .int .i64 x.wi, .int .i64 1, .int .i64 8,
    .int .i64 x.ev, .int .i64 1, .int .i64 x.wi, .int .i64 x.pa, .int .i64 1, .int .i64 1000, .int .i64 (x.n : Int), .int .i64 0, .int .i64 64]
  intro k b hk
  match k, hk with
  | 0, hk => obtain rfl := Option.some.inj hk; exact ⟨K.at_ rfl, K.at_ rfl, K.at_ rfl⟩
  | 1, hk => obtain rfl := Option.some.inj hk; exact ⟨K.at_ rfl, K.at_ rfl, K.at_ rfl⟩
  | 2, hk => obtain rfl := Option.some.inj hk; exact ⟨K.at_ rfl, K.at_ rfl, K.at_ rfl⟩
  | 3, hk => obtain rfl := Option.some.inj hk; exact ⟨K.at_ rfl, K.at_ rfl, K.at_ rfl⟩
  | 4, hk => obtain rfl := Option.some.inj hk; exact ⟨K.at_ rfl, K.at_ rfl, K.at_ rfl⟩
  | 5, hk => obtain rfl := Option.some.inj hk; exact ⟨K.at_ rfl, K.at_ rfl, K.at_ rfl⟩
  | 6, hk => obtain rfl := Option.some.inj hk; exact ⟨K.at_ rfl, K.at_ rfl, K.at_ rfl⟩
  | k + 7, hk => simp [bounds] at hk

set_option maxHeartbeats 1600000 in
theorem check_any (u r p wi ev pa : Int) (A : Option Addr) (n c : Nat) (w : World) :
    Calls Try.prog 10 #[.agg #[.int .i64 u, .int .i64 r, .int .i64 p, .int .i64 wi, .int .i64 ev, .int .i64 pa, .slice A n c]] w (Tells (.int .i64 (Cf.err ⟨u, r, p, wi, ev, pa, n⟩)) w) := by
  have b0 := (Below.refl w.heap.size w).alloc (Nat.le_refl _) (.cells #[.int .i64 u, .int .i64 r, .int .i64 p, .int .i64 wi, .int .i64 ev, .int .i64 pa, .slice A n c] 24)
  have hr := bounds_rd (w.alloc (.cells #[.int .i64 u, .int .i64 r, .int .i64 p, .int .i64 wi, .int .i64 ev, .int .i64 pa, .slice A n c] 24)) ⟨u, r, p, wi, ev, pa, n⟩
  rw [show (w.alloc (.cells #[.int .i64 u, .int .i64 r, .int .i64 p, .int .i64 wi, .int .i64 ev, .int .i64 pa, .slice A n c] 24)).heap.size = w.heap.size + 1 by simp] at hr
  have HC := Lib.hid (allWithin_any (w.heap.size + 1) 7 7 _ _ hr rfl (by omega))
  have HB := Lib.hid (b0.alloc b0.size (.cells #[.int .i64 u, .int .i64 0, .int .i64 2, .int .i64 r, .int .i64 0, .int .i64 u, .int .i64 p, .int .i64 1, .int .i64 8, .int .i64 wi, .int .i64 1, .int .i64 8,
    .int .i64 ev, .int .i64 1, .int .i64 wi, .int .i64 pa, .int .i64 1, .int .i64 1000, .int .i64 (n : Int), .int .i64 0, .int .i64 64] 48))
  clear b0 hr
  by_cases h : Cf.Ok ⟨u, r, p, wi, ev, pa, n⟩
  · have HE := Lib.hid (show Cf.err ⟨u, r, p, wi, ev, pa, n⟩ = 0 by unfold Cf.err; rw [if_pos h])
    have HD := Lib.hid (show (bounds ⟨u, r, p, wi, ev, pa, n⟩).all inBd = true by rw [bounds_ok]; exact decide_eq_true h)
    clear h
    go_enter Try.func10, Try.ntmps10
    go_wp2_with fail
    refine HC.out.mono ?_
    rintro e w1 ⟨rfl, hb1⟩
    rw [HD.out]
    have HB1 := Lib.hid (below_next HB.out hb1 HB.out.size)
    clear hb1
    go_wp2_with fail
    go_ret
    exact ⟨ret_int HE.out.symm, HB1.out⟩
  · have HE := Lib.hid (show Cf.err ⟨u, r, p, wi, ev, pa, n⟩ = 60 by unfold Cf.err; rw [if_neg h])
    have HD := Lib.hid (show (bounds ⟨u, r, p, wi, ev, pa, n⟩).all inBd = false by rw [bounds_ok]; exact decide_eq_false h)
    clear h
    go_enter Try.func10, Try.ntmps10
    go_wp2_with fail
    refine HC.out.mono ?_
    rintro e w1 ⟨rfl, hb1⟩
    rw [HD.out]
    have HB1 := Lib.hid (below_next HB.out hb1 HB.out.size)
    clear hb1
    go_wp2_with fail
    go_ret
    exact ⟨ret_int HE.out.symm, HB1.out⟩
end Go.Proofs.Ytmeojepffnoceaa
