/-
  Watches: which is ahead. A walk; no statement.
-/
import Derived.Test.YtbppokdaehaocaaDoorWatchDev1
import Derived.Deep.RegionHeld3
namespace Go.Proofs.YtbppokdaehaocaaDoor
set_option maxRecDepth 100000
open Go.RowKit
set_option linter.unusedVariables false

set_option maxHeartbeats 3200000 in
theorem compareW_any (x y : Wt) (w : World) : Calls Tryd.prog 30 #[.agg (wtC x).toArray, .agg (wtC y).toArray] w (Ans (.int .i64 (wCmp x y)) w) := by
  show Calls _ _ #[.agg #[.int .i64 x.client, .int .i64 x.kind, .string ⟨x.path.toArray⟩], .agg #[.int .i64 y.client, .int .i64 y.kind, .string ⟨y.path.toArray⟩]] _ _
  rw [← cmp_is]
  obtain ⟨W2, hW2⟩ : ∃ W2, W2 = (w.alloc (.cells #[.int .i64 x.client, .int .i64 x.kind, .string ⟨x.path.toArray⟩] 31)).alloc (.cells #[.int .i64 y.client, .int .i64 y.kind, .string ⟨y.path.toArray⟩] 31) := ⟨_, rfl⟩
  have HB := Lib.hid (show Below w.heap.size w W2 by rw [hW2]; exact ((Below.refl w.heap.size w).alloc (Nat.le_refl _) _).alloc (by simp) _)
  have hs : W2.heap.size = w.heap.size + 2 := by rw [hW2]; simp
  have k0 : Bk W2 w.heap.size 31 [.int .i64 x.client, .int .i64 x.kind, .string ⟨x.path.toArray⟩] := by rw [hW2]; exact (Bk.new w 31 [.int .i64 x.client, .int .i64 x.kind, .string ⟨x.path.toArray⟩]).alloc _
  have k1 : Bk W2 (w.heap.size + 1) 31 [.int .i64 y.client, .int .i64 y.kind, .string ⟨y.path.toArray⟩] := by rw [hW2]; exact bk_new2 w _ [.int .i64 y.client, .int .i64 y.kind, .string ⟨y.path.toArray⟩] _
  have HS := Lib.hid (fun W (hb : Below W2.heap.size W2 W) => (show W.cell? ⟨w.heap.size, 0, none⟩ = some (.int .i64 x.client) ∧ W.cell? ⟨w.heap.size, 1, none⟩ = some (.int .i64 x.kind) ∧ W.cell? ⟨w.heap.size, 2, none⟩ = some (.string ⟨x.path.toArray⟩) ∧ W.cell? ⟨w.heap.size + 1, 0, none⟩ = some (.int .i64 y.client) ∧ W.cell? ⟨w.heap.size + 1, 1, none⟩ = some (.int .i64 y.kind) ∧ W.cell? ⟨w.heap.size + 1, 2, none⟩ = some (.string ⟨y.path.toArray⟩) from
    ⟨(k0.kept hb).three.1, (k0.kept hb).three.2.1, (k0.kept hb).three.2.2, (k1.kept hb).three.1, (k1.kept hb).three.2.1, (k1.kept hb).three.2.2⟩))
  have HCB := Lib.hid (fun W => show Calls Tryd.prog 44 #[.string ⟨x.path.toArray⟩, .string ⟨y.path.toArray⟩] W (fun e w' => e = .returned (.int .i64 (Lib.compareBytes x.path y.path)) ∧ w' = W) from Tryd.strings_Compare ⟨x.path.toArray⟩ ⟨y.path.toArray⟩ W)
  have HCI := Lib.hid (fun a b W => Tryd.cmp_Compare_int a b W)
  have HOR := Lib.hid (or3_new W2 W2.heap.size (Lib.compareBytes x.path y.path) (Lib.compareInt x.kind y.kind) (Lib.compareInt x.client y.client) rfl)
  have HWE := Lib.hid hW2
  clear k0 k1 hs hW2
  generalize (if Lib.compareBytes x.path y.path ≠ 0 then Lib.compareBytes x.path y.path else if Lib.compareInt x.kind y.kind ≠ 0 then Lib.compareInt x.kind y.kind else Lib.compareInt x.client y.client) = res at *
  generalize Lib.compareBytes x.path y.path = p1 at *
  generalize Lib.compareInt = ci at *
  have HSA := Lib.hid (HS.out W2.drew (below_drewN (Below.refl _ _) 1))
  have HSB := Lib.hid (HS.out (W2.alloc (.cells #[.int .i64 p1, .int .i64 (ci x.kind y.kind), .int .i64 (ci x.client y.client)] 3)).drew (below_drewN ((Below.refl _ _).alloc (Nat.le_refl _) _) 1))
  go_enter Tryd.func30, Tryd.ntmps30
  go_wp2_with fail
  rw [← HWE.out]
  go_region_held3 (fun w' => w'.cell? ⟨w.heap.size, 0, none⟩ = some (.int .i64 x.client) ∧ w'.cell? ⟨w.heap.size, 1, none⟩ = some (.int .i64 x.kind) ∧ w'.cell? ⟨w.heap.size, 2, none⟩ = some (.string ⟨x.path.toArray⟩) ∧ w'.cell? ⟨w.heap.size + 1, 0, none⟩ = some (.int .i64 y.client) ∧ w'.cell? ⟨w.heap.size + 1, 1, none⟩ = some (.int .i64 y.kind) ∧ w'.cell? ⟨w.heap.size + 1, 2, none⟩ = some (.string ⟨y.path.toArray⟩)) (first | with_reducible exact HSA.out | with_reducible exact HSB.out | go_keep)
    (first
    | (go_at_call 44; refine (HCB.out _).mono ?_; rintro e w' ⟨rfl, rfl⟩)
    | (go_at_call 45; refine (HCI.out _ _ _).mono ?_; rintro e w' ⟨rfl, rfl⟩)
    | (go_at_call 43; refine HOR.out.mono ?_; rintro e w' ⟨rfl, rfl⟩))
  all_goals
    go_wp2_with fail
    go_ret
    exact ⟨rfl, below_drewN (HB.out.alloc HB.out.size _) 1⟩
end Go.Proofs.YtbppokdaehaocaaDoor
