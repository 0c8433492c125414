/-
  A node put into a tree; a new tree. Walks; no statement.
-/
import Derived.Test.YtgppclmofphlfaaGreatDoorTreeDev1
namespace Go.Proofs.YtgppclmofphlfaaGreatDoor
set_option maxRecDepth 100000
open Go.RowKit
set_option linter.unusedVariables false

set_option maxHeartbeats 3200000 in
theorem put_any (g : Nat) (t : List Lf) (F : Nat → Prop) (l : Lf) (A : Option Addr) (c : Nat) (F0 : Nat → Prop) (w : World) (hT : TreeAt F w g t) (hB : BF F0 w A c l.data) (hp : l.path.length ≤ 64) (hd : l.data.length ≤ 1000) (hn : t.length ≤ 900) :
    Calls Tryz.prog 39 #[.pointer (some ⟨g, 0, none⟩), .agg (lfC l A c).toArray] w (TDid F g (tWith l t) (.tuple #[]) w) := by
  show Calls _ _ #[_, .agg #[.string ⟨l.path.toArray⟩, .slice A l.data.length c, .int .i64 l.ver, .int .i64 l.own, .int .i64 l.next, .int .i64 l.born]] _ _
  obtain ⟨W1, hW1⟩ : ∃ W1, W1 = w.alloc (.cells #[.string ⟨l.path.toArray⟩, .slice A l.data.length c, .int .i64 l.ver, .int .i64 l.own, .int .i64 l.next, .int .i64 l.born] 50) := ⟨_, rfl⟩
  have HB1 := Lib.hid (show Below w.heap.size w W1 by rw [hW1]; exact (Below.refl w.heap.size w).alloc (Nat.le_refl _) _)
  have HS1 := Lib.hid (show W1.heap.size = w.heap.size + 1 by rw [hW1]; simp)
  have hk1 : Bk W1 w.heap.size 50 [.string ⟨l.path.toArray⟩, .slice A l.data.length c, .int .i64 l.ver, .int .i64 l.own, .int .i64 l.next, .int .i64 l.born] := by rw [hW1]; exact Bk.new w 50 [.string ⟨l.path.toArray⟩, .slice A l.data.length c, .int .i64 l.ver, .int .i64 l.own, .int .i64 l.next, .int .i64 l.born]
  have HC := Lib.hid (copied_any l A c F0 W1 (hB.below HB1.out) hp hd)
  have HK1 := Lib.hid hk1
  have HWE := Lib.hid hW1
  have HT := Lib.hid hT
  have HP := Lib.hid hp
  have HN := Lib.hid hn
  clear hB hp hd hk1 hW1 hT hn
  go_enter Tryz.func39, Tryz.ntmps39
  go_wp2_with fail
  rw [← HWE.out]
  go_wp2_with (refine wpList_load_row rfl 50 _ rfl w.heap.size rfl 50 #[.string ⟨l.path.toArray⟩, .slice A l.data.length c, .int .i64 l.ver, .int .i64 l.own, .int .i64 l.next, .int .i64 l.born] (0, 0) _ HK1.out Tryz.underlying50 rfl info_leaf1 ?_)
  refine HC.out.mono ?_
  rintro e w2 ⟨hb2, A2, c2, he, hbf⟩
  replace he : e = .returned (.agg #[.string ⟨l.path.toArray⟩, .slice A2 l.data.length c2, .int .i64 l.ver, .int .i64 l.own, .int .i64 l.next, .int .i64 l.born]) := he
  subst he
  have HB2 := Lib.hid (HB1.out.trans (hb2.mono HB1.out.size))
  have HS2 := Lib.hid (show w.heap.size + 1 ≤ w2.heap.size by have := hb2.size; rw [HS1.out] at this; exact this)
  have hk2 := HK1.out.kept hb2
  have HBF := Lib.hid (show BF (From (w.heap.size + 1)) w2 A2 c2 l.data from bf_from hbf (by rw [HS1.out]; exact Nat.le_refl _))
  clear hb2 hbf HK1 HC
  go_wp2_with (refine wpList_store_bkT rfl 50 _ _ rfl w.heap.size [.string ⟨l.path.toArray⟩, .slice A2 l.data.length c2, .int .i64 l.ver, .int .i64 l.own, .int .i64 l.next, .int .i64 l.born] rfl rfl 50 [.string ⟨l.path.toArray⟩, .slice A l.data.length c, .int .i64 l.ver, .int .i64 l.own, .int .i64 l.next, .int .i64 l.born] hk2 rfl info_leaf1 rfl ?_; intro w3 hk3 hg3)
  have HB3 := Lib.hid (HB2.out.grown hg3.out HB2.out.size (fun g hg => by injection hg with hg; omega))
  have HBF3 := Lib.hid (bf_set HBF.out hg3.out fun b hb => by unfold From at hb; omega)
  have hT3 := HT.out.below HB3.out
  obtain ⟨b, hkg, hFg, hFb, hm⟩ := hT3
  obtain ⟨w4, hrun, hm4, hg4⟩ := (show MpAt (fun k => F k ∨ w.heap.size ≤ k) w3.drew b t from hm.more (F' := fun k => F k ∨ w.heap.size ≤ k) fun k hk _ => .inl hk).store l A2 c2 (show BF _ w3.drew A2 c2 l.data from HBF3.out.keep ⟨Nat.le_refl _, fun _ _ _ => rfl⟩ fun k hk _ => .inr (by unfold From at hk; omega)) (by have := HP.out; simp only [maxLen]; omega) (by have := HN.out; omega)
  have HR := Lib.hid hrun
  have HM4 := Lib.hid hm4
  have HG4 := Lib.hid hg4
  have g0 : w3.cell? ⟨g, 0, none⟩ = some (.map (some b)) := hkg.at_ rfl
  have q0 : w3.cell? ⟨w.heap.size, 0, none⟩ = some (.string ⟨l.path.toArray⟩) := hk3.out.at_ rfl
  have q1 : w3.cell? ⟨w.heap.size, 1, none⟩ = some (.slice A2 l.data.length c2) := hk3.out.at_ rfl
  have q2 : w3.cell? ⟨w.heap.size, 2, none⟩ = some (.int .i64 l.ver) := hk3.out.at_ rfl
  have q3 : w3.cell? ⟨w.heap.size, 3, none⟩ = some (.int .i64 l.own) := hk3.out.at_ rfl
  have q4 : w3.cell? ⟨w.heap.size, 4, none⟩ = some (.int .i64 l.next) := hk3.out.at_ rfl
  have q5 : w3.cell? ⟨w.heap.size, 5, none⟩ = some (.int .i64 l.born) := hk3.out.at_ rfl
  have hlt := hkg.lt
  have hne : g ≠ b := by
    rintro rfl
    obtain ⟨es, cl, hx⟩ := hm.isMap
    rw [show w3.heap[g]? = _ from hkg] at hx
    cases hx
  have HGB := Lib.hid (show Bk w4 g 76 [.map (some b)] from (show Bk w3.drew g _ _ from hkg).grown hg4 (fun e => hne (Option.some.inj e)))
  have HFG := Lib.hid hFg
  have HFB := Lib.hid hFb
  have HBLT := Lib.hid hm.lt
  have hrd : (Instr.mapUpdate 74 (.map (some b)) (.string ⟨l.path.toArray⟩) (.agg #[.string ⟨l.path.toArray⟩, .slice A2 l.data.length c2, .int .i64 l.ver, .int .i64 l.own, .int .i64 l.next, .int .i64 l.born])).run Tryz.prog w3.drew = .ok () w4 := hrun
  clear hrun hm4 hg4 HR hm hkg hFg hFb hlt hne
  go_region
  all_goals
    go_end0
    refine ⟨rfl, fun k => F k ∨ w.heap.size ≤ k, ⟨b, HGB.out, .inl HFG.out, .inl HFB.out, HM4.out⟩, fun k hk => hk, ?_⟩
    exact ((Chg.of_below F HB3.out).drew).grown HG4.out fun k e => by injection e with e; subst e; exact .inl HFB.out
/-- a new tree -/
def TNew (t : List Lf) (w : World) (e : Ending) (w' : World) : Prop :=
  ∃ g F, e = .returned (.pointer (some ⟨g, 0, none⟩)) ∧ TreeAt F w' g t ∧ (∀ k, F k → w.heap.size ≤ k) ∧ Below w.heap.size w w'
theorem tWith_nil (l : Lf) : tWith l [] = [l] := rfl
set_option maxHeartbeats 3200000 in
theorem new_any (w : World) : Calls Tryz.prog 12 #[] w (TNew [lfRoot] w) := by
  have hmm := @run_makeMap Tryz.prog
  obtain ⟨W2, hW2⟩ : ∃ W2, W2 = (w.alloc (.map #[] 0)).alloc (.cells #[.map (some w.heap.size)] 76) := ⟨_, rfl⟩
  have HB2 := Lib.hid (show Below w.heap.size w W2 by rw [hW2]; exact ((Below.refl w.heap.size w).alloc (Nat.le_refl _) _).alloc (by simp) _)
  have hT : TreeAt (From w.heap.size) W2 (w.heap.size + 1) [] := by
    rw [hW2]
    have hm := mpAt_made (From w.heap.size) w
    refine ⟨w.heap.size, ?_, by unfold From; omega, Nat.le_refl _, hm.below ((Below.refl _ _).alloc (Nat.le_refl _) _)⟩
    have := Bk.new (w.alloc (.map #[] 0)) 76 [.map (some w.heap.size)]
    rw [show (w.alloc (.map #[] 0)).heap.size = w.heap.size + 1 by simp] at this
    exact this
  have HP := Lib.hid (put_any (w.heap.size + 1) [] (From w.heap.size) lfRoot none 0 (fun _ => False) W2 hT (BF.nil_ _ _) (by decide) (by decide) (by decide))
  have HWE := Lib.hid hW2
  clear hT hW2
  go_enter Tryz.func12, Tryz.ntmps12
  go_wp2_with fail
  rw [← HWE.out]
  refine HP.out.mono ?_
  rintro e w1 ⟨rfl, F', ht, hF, hc⟩
  have HT := Lib.hid ht
  have HX := Lib.hid (show Below w.heap.size w w1 from HB2.out.trans (hc.below (fun k hk => hk) HB2.out.size))
  have HF := Lib.hid hF
  clear ht hF hc
  go_wp2_with fail
  go_ret
  exact ⟨_, F', rfl, HT.out, fun k hk => (HF.out k hk).elim id fun h => Nat.le_trans HB2.out.size h, HX.out⟩
end Go.Proofs.YtgppclmofphlfaaGreatDoor
