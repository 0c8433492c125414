/-
  tally: which of two votes is ahead. A walk; no statement.
-/
import Derived.Test.YtckmjpbkcpmdpaaTallySmall
import Derived.Deep.RegionHeld3
namespace Go.Proofs.Ytckmjpbkcpmdpaa
open Go.RowKit Go.Sort Go.Shelf
set_option linter.unusedVariables false

/-- only draws, and blocks behind -/
def Grw (w w' : World) : Prop := ∃ q os, w' = grow (w.drewN q) os
section
variable {w a b c : World}
theorem Grw.refl (w : World) : Grw w w := ⟨0, #[], by rw [grow_empty]; rfl⟩
theorem Grw.alloc (h : Grw w a) (o : Obj) : Grw w (a.alloc o) := by
  obtain ⟨q, os, rfl⟩ := h
  exact ⟨q, os ++ #[o], by rw [alloc_eq_grow, grow_grow]⟩
theorem Grw.drewN (h : Grw w a) (n : Nat) : Grw w (a.drewN n) := by
  obtain ⟨q, os, rfl⟩ := h
  exact ⟨q + n, os, by show grow ((w.drewN q).drewN n) os = _; rw [World.drewN_drewN]⟩
theorem Grw.drew (h : Grw w a) : Grw w a.drew := h.drewN 1
theorem Grw.below (h : Grw w a) : Below w.heap.size w a := by
  obtain ⟨q, os, rfl⟩ := h
  exact ⟨rfl, rfl, rfl, by simp [World.drewN], fun k hk => by rw [heap_grow_old _ _ (by simpa [World.drewN] using hk)]; rfl⟩
end
set_option maxHeartbeats 3200000 in
theorem before_any (x y : Vc) (w : World) (hx : Rd w x.ka x.kn (x.v.key.map bv)) (hy : Rd w y.ka y.kn (y.v.key.map bv)) :
    Calls Try.prog 39 #[.agg #[.int .i64 x.v.voter, .int .i64 x.v.rank, .slice x.ka x.kn x.kc, .slice x.la x.ln x.lc], .agg #[.int .i64 y.v.voter, .int .i64 y.v.rank, .slice y.ka y.kn y.kc, .slice y.la y.ln y.lc]] w
      (fun e w' => e = .returned (.int .i64 (cmpV x.v y.v)) ∧ Grw w w') := by
  unfold cmpV
  have HCI := Lib.hid (fun W => cmpInt_any x.v.voter y.v.voter W)
  have HCR := Lib.hid (fun W => cmpInt_any y.v.rank x.v.rank W)
  have HCB := Lib.hid (fun W (h : Below w.heap.size w W) => compare_any x.ka y.ka x.kn x.kc y.kn y.kc x.v.key y.v.key W (hx.below h) (hy.below h))
  have HG := Lib.hid (((Grw.refl w).alloc (.cells #[.int .i64 x.v.voter, .int .i64 x.v.rank, .slice x.ka x.kn x.kc, .slice x.la x.ln x.lc] 55)).alloc (.cells #[.int .i64 y.v.voter, .int .i64 y.v.rank, .slice y.ka y.kn y.kc, .slice y.la y.ln y.lc] 55))
  generalize x.v.rank = q at *
  generalize y.v.rank = r at *
  generalize x.v.voter = a at *
  generalize y.v.voter = b at *
  clear hx hy
  by_cases e : q = r
  · rw [if_pos e]
    have hd : (q != r) = false := by simp [e]
    clear e
    have HOR := Lib.hid (or_new ((w.alloc (.cells #[.int .i64 a, .int .i64 q, .slice x.ka x.kn x.kc, .slice x.la x.ln x.lc] 55)).alloc (.cells #[.int .i64 b, .int .i64 r, .slice y.ka y.kn y.kc, .slice y.la y.ln y.lc] 55)) (w.heap.size + 1 + 1) (cb x.v.key y.v.key) (Lib.compareInt a b) (by simp))
    have K1 := (Bk.new w 55 [.int .i64 a, .int .i64 q, .slice x.ka x.kn x.kc, .slice x.la x.ln x.lc]).alloc (.cells #[.int .i64 b, .int .i64 r, .slice y.ka y.kn y.kc, .slice y.la y.ln y.lc] 55)
    have K2 := bk_new2 w (.cells #[.int .i64 a, .int .i64 q, .slice x.ka x.kn x.kc, .slice x.la x.ln x.lc] 55) [.int .i64 b, .int .i64 r, .slice y.ka y.kn y.kc, .slice y.la y.ln y.lc] 55
    generalize (if cb x.v.key y.v.key = 0 then Lib.compareInt a b else cb x.v.key y.v.key) = res at *
    generalize cb x.v.key y.v.key = p1 at *
    generalize Lib.compareInt a b = p2 at *
    have HS := Lib.hid (show (((w.alloc (.cells #[.int .i64 a, .int .i64 q, .slice x.ka x.kn x.kc, .slice x.la x.ln x.lc] 55)).alloc (.cells #[.int .i64 b, .int .i64 r, .slice y.ka y.kn y.kc, .slice y.la y.ln y.lc] 55)).drew).cell? ⟨w.heap.size, 0, none⟩ = some (.int .i64 a) ∧ (((w.alloc (.cells #[.int .i64 a, .int .i64 q, .slice x.ka x.kn x.kc, .slice x.la x.ln x.lc] 55)).alloc (.cells #[.int .i64 b, .int .i64 r, .slice y.ka y.kn y.kc, .slice y.la y.ln y.lc] 55)).drew).cell? ⟨w.heap.size, 2, none⟩ = some (.slice x.ka x.kn x.kc) ∧ (((w.alloc (.cells #[.int .i64 a, .int .i64 q, .slice x.ka x.kn x.kc, .slice x.la x.ln x.lc] 55)).alloc (.cells #[.int .i64 b, .int .i64 r, .slice y.ka y.kn y.kc, .slice y.la y.ln y.lc] 55)).drew).cell? ⟨w.heap.size + 1, 0, none⟩ = some (.int .i64 b) ∧ (((w.alloc (.cells #[.int .i64 a, .int .i64 q, .slice x.ka x.kn x.kc, .slice x.la x.ln x.lc] 55)).alloc (.cells #[.int .i64 b, .int .i64 r, .slice y.ka y.kn y.kc, .slice y.la y.ln y.lc] 55)).drew).cell? ⟨w.heap.size + 1, 2, none⟩ = some (.slice y.ka y.kn y.kc) from ⟨K1.four.1, K1.four.2.2.1, K2.four.1, K2.four.2.2.1⟩)
    have KA1 := K1.alloc (.cells #[.int .i64 p1, .int .i64 p2] 3)
    have KA2 := K2.alloc (.cells #[.int .i64 p1, .int .i64 p2] 3)
    have HSA := Lib.hid (show ((((w.alloc (.cells #[.int .i64 a, .int .i64 q, .slice x.ka x.kn x.kc, .slice x.la x.ln x.lc] 55)).alloc (.cells #[.int .i64 b, .int .i64 r, .slice y.ka y.kn y.kc, .slice y.la y.ln y.lc] 55)).alloc (.cells #[.int .i64 p1, .int .i64 p2] 3)).drew).cell? ⟨w.heap.size, 0, none⟩ = some (.int .i64 a) ∧ ((((w.alloc (.cells #[.int .i64 a, .int .i64 q, .slice x.ka x.kn x.kc, .slice x.la x.ln x.lc] 55)).alloc (.cells #[.int .i64 b, .int .i64 r, .slice y.ka y.kn y.kc, .slice y.la y.ln y.lc] 55)).alloc (.cells #[.int .i64 p1, .int .i64 p2] 3)).drew).cell? ⟨w.heap.size, 2, none⟩ = some (.slice x.ka x.kn x.kc) ∧ ((((w.alloc (.cells #[.int .i64 a, .int .i64 q, .slice x.ka x.kn x.kc, .slice x.la x.ln x.lc] 55)).alloc (.cells #[.int .i64 b, .int .i64 r, .slice y.ka y.kn y.kc, .slice y.la y.ln y.lc] 55)).alloc (.cells #[.int .i64 p1, .int .i64 p2] 3)).drew).cell? ⟨w.heap.size + 1, 0, none⟩ = some (.int .i64 b) ∧ ((((w.alloc (.cells #[.int .i64 a, .int .i64 q, .slice x.ka x.kn x.kc, .slice x.la x.ln x.lc] 55)).alloc (.cells #[.int .i64 b, .int .i64 r, .slice y.ka y.kn y.kc, .slice y.la y.ln y.lc] 55)).alloc (.cells #[.int .i64 p1, .int .i64 p2] 3)).drew).cell? ⟨w.heap.size + 1, 2, none⟩ = some (.slice y.ka y.kn y.kc) from ⟨KA1.four.1, KA1.four.2.2.1, KA2.four.1, KA2.four.2.2.1⟩)
    clear K1 K2 KA1 KA2
    go_enter Try.func39, Try.ntmps39
    go_wp2_with fail
    go_region_held3 (fun w' => w'.cell? ⟨w.heap.size, 0, none⟩ = some (.int .i64 a) ∧ w'.cell? ⟨w.heap.size, 2, none⟩ = some (.slice x.ka x.kn x.kc) ∧ w'.cell? ⟨w.heap.size + 1, 0, none⟩ = some (.int .i64 b) ∧ w'.cell? ⟨w.heap.size + 1, 2, none⟩ = some (.slice y.ka y.kn y.kc)) (first | with_reducible exact HS.out | with_reducible exact HSA.out | go_keep)
      (first
      | (go_at_call 42; refine (HCB.out _ HG.out.drew.below).mono ?_; rintro e w' ⟨rfl, rfl⟩)
      | (go_at_call 40; refine (HCI.out _).mono ?_; rintro e w' ⟨rfl, rfl⟩)
      | (go_at_call 41; refine HOR.out.mono ?_; rintro e w' ⟨rfl, rfl⟩))
    all_goals
      go_wp2_with fail
      go_ret
      exact ⟨rfl, (HG.out.alloc _).drew⟩
  · rw [if_neg e]
    have hd : (q != r) = true := by simp [e]
    clear e
    go_enter Try.func39, Try.ntmps39
    go_wp2_with fail
    refine (HCR.out _).mono ?_
    rintro e w2 ⟨rfl, rfl⟩
    go_wp2_with fail
    go_ret
    exact ⟨rfl, HG.out⟩
end Go.Proofs.Ytckmjpbkcpmdpaa
