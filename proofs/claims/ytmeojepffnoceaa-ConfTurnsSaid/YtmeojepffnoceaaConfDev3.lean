/-
  The program's There: a walk over the plain words. No statement.
-/
import Derived.Test.YtmeojepffnoceaaConfDev2
namespace Go.Proofs.Ytmeojepffnoceaa
open Go.RowKit
set_option linter.unusedVariables false

set_option maxHeartbeats 1600000 in
theorem there_any (u r p wi ev pa : Int) (A : Option Addr) (n c : Nat) (w : World) (role k : Int) :
    Calls Try.prog 20 #[.agg #[.int .i64 u, .int .i64 r, .int .i64 p, .int .i64 wi, .int .i64 ev, .int .i64 pa, .slice A n c], .agg #[.int .i64 role, .int .i64 k]] w (Tells (.bool (Cf.there ⟨u, r, p, wi, ev, pa, n⟩ role k)) w) := by
  have b0 := (Below.refl w.heap.size w).alloc (Nat.le_refl _) (.cells #[.int .i64 u, .int .i64 r, .int .i64 p, .int .i64 wi, .int .i64 ev, .int .i64 pa, .slice A n c] 24)
  have hw := b0.alloc b0.size (.cells #[.int .i64 role, .int .i64 k] 26)
  clear b0
  have kc := (Bk.new w 24 [.int .i64 u, .int .i64 r, .int .i64 p, .int .i64 wi, .int .i64 ev, .int .i64 pa, .slice A n c]).alloc (.cells #[.int .i64 role, .int .i64 k] 26)
  have ki := Bk.new (w.alloc (.cells #[.int .i64 u, .int .i64 r, .int .i64 p, .int .i64 wi, .int .i64 ev, .int .i64 pa, .slice A n c] 24)) 26 [.int .i64 role, .int .i64 k]
  rw [show (w.alloc (.cells #[.int .i64 u, .int .i64 r, .int .i64 p, .int .i64 wi, .int .i64 ev, .int .i64 pa, .slice A n c] 24)).heap.size = w.heap.size + 1 by simp] at ki
  have HT := Lib.hid (show Cf.there ⟨u, r, p, wi, ev, pa, n⟩ role k = decide (0 ≤ k ∧ k < Cf.count ⟨u, r, p, wi, ev, pa, n⟩ role) from rfl)
  have HM := Lib.hid (Cf.count_room ⟨u, r, p, wi, ev, pa, n⟩ role)
  have HC := Lib.hid (show ∀ X, Below w.heap.size w X → Calls Try.prog 12 #[.agg #[.int .i64 u, .int .i64 r, .int .i64 p, .int .i64 wi, .int .i64 ev, .int .i64 pa, .slice A n c], .int .i64 role] X (fun e w' => e = .returned (.int .i64 (Cf.count ⟨u, r, p, wi, ev, pa, n⟩ role)) ∧ Below w.heap.size w w' ∧ Below X.heap.size X w') from
    fun X hw => (count_any u r p wi ev pa A n c X role).mono fun e w' ⟨he, hb⟩ => ⟨he, below_next hw hb hw.size, hb⟩)
  generalize Cf.there ⟨u, r, p, wi, ev, pa, n⟩ role k = z at *
  generalize Cf.count ⟨u, r, p, wi, ev, pa, n⟩ role = m at *
  by_cases h0 : 0 ≤ k
  · have HD := Lib.hid (show z = decide (k < m) by rw [HT.out]; simp [h0])
    go_enter Try.func20, Try.ntmps20
    go_wp2_with fail
    go_region_held3 (fun w' => (w'.cell? ⟨w.heap.size, 0, none⟩ = some (.int .i64 u) ∧ w'.cell? ⟨w.heap.size, 1, none⟩ = some (.int .i64 r) ∧ w'.cell? ⟨w.heap.size, 2, none⟩ = some (.int .i64 p) ∧ w'.cell? ⟨w.heap.size, 3, none⟩ = some (.int .i64 wi) ∧ w'.cell? ⟨w.heap.size, 4, none⟩ = some (.int .i64 ev) ∧ w'.cell? ⟨w.heap.size, 5, none⟩ = some (.int .i64 pa) ∧ w'.cell? ⟨w.heap.size, 6, none⟩ = some (.slice A n c)) ∧ (w'.cell? ⟨w.heap.size + 1, 0, none⟩ = some (.int .i64 role) ∧ w'.cell? ⟨w.heap.size + 1, 1, none⟩ = some (.int .i64 k))) (first | with_reducible exact ⟨(bk_drew kc).seven, (bk_drew ki).two⟩ | with_reducible exact ⟨kc.seven, ki.two⟩ | go_keep)
      (first
      | (go_at_call 12; with_reducible refine (HC.out _ ?_).mono ?_
         focus first | with_reducible exact hw | with_reducible exact below_drew hw
         rintro e w' ⟨rfl, hw', hx⟩
         first | replace kc := kc.kept hx | replace kc := bk_keptD kc hx
         first | replace ki := ki.kept hx | replace ki := bk_keptD ki hx
         replace hw := hw'
         clear hw' hx))
    all_goals
      go_wp2_with fail
      go_ret
      exact ⟨ret_bool HD.out.symm, hw⟩
  · have HR := Lib.hid (show z = false by rw [HT.out]; simp [h0])
    have h1 : decide (k ≥ 0) = false := by simp [h0]
    go_enter Try.func20, Try.ntmps20
    go_wp2_with fail
    go_quiet (fail)
    go_wp2_with fail
    go_ret
    exact ⟨ret_bool HR.out.symm, below_drewN hw _⟩
end Go.Proofs.Ytmeojepffnoceaa
