/-
  The document's own tally: New. A walk; no statement.
-/
import Derived.Test.YtckmjpbkcpmdpaaTallyRef2
import Derived.Maps.AppendAt
namespace Go.Proofs.Ytckmjpbkcpmdpaa
open Go.RowKit
set_option linter.unusedVariables false
set_option maxRecDepth 100000

theorem info_vr : (Try.prog.info? 53).map (fun i => (i.zero, i.size, i.bytes)) = some (some (.agg #[.bool false, .int .i64 0, .slice none 0 0, .slice none 0 0]), 4, 64) := by kernel_rfl
theorem info_rt : (Try.prog.info? 29).map (·.size) = some 1 := by kernel_rfl
theorem vr_cells (w : World) (a b c d : Value) (t : TypeId) : ∀ j v, [a, b, c, d][j]? = some v → (w.alloc (.cells #[a, b, c, d] t)).cell? ((⟨w.heap.size, 0, none⟩ : Addr).add j) = some v := by
  intro j v hj
  have K := Bk.new w t [a, b, c, d]
  rw [at_add, Nat.zero_add]
  exact (K.cell j).trans hj
theorem OwnVr.nil_ (w : World) (base : Nat) : OwnVr w base none 0 0 [] := World.ownsRow_nil w base _ 4
theorem OwnVr.block {w : World} {base : Nat} {A : Option Addr} {n c : Nat} {l : List Vr} (h : OwnVr w base A n c l) : ∀ g, (Value.slice A n c).ownBlock = some g → base ≤ g ∧ g < w.heap.size := fun g hg => World.ownsRow.lt h g hg
theorem OwnVr.more {w : World} {base base' : Nat} {A : Option Addr} {n c : Nat} {l : List Vr} (h : OwnVr w base A n c l) (hb : base' ≤ base) : OwnVr w base' A n c l := by
  refine ⟨h.1, ?_⟩
  rcases h.2 with hn | ⟨g, cap, cur, e, hg, rest⟩
  · exact .inl hn
  · exact .inr ⟨g, cap, cur, e, Nat.le_trans hb hg, rest⟩
def MadeR (N : Int) (w : World) (e : Ending) (w' : World) : Prop :=
  ∃ A n c G, e = .returned (.agg #[.slice A n c]) ∧ n ≤ 64 ∧ RefM w' G A n c N [] ∧ (∀ i, G i → w.heap.size ≤ i) ∧ Below w.heap.size w w'
theorem made_r {w' : World} {B : Nat} {A : Option Addr} {k c : Nat} (ho : OwnVr w' B A k c (List.replicate k default)) (hk : k ≤ 64) :
    RefM w' (fun i => (Value.slice A k c).ownBlock = some i) A k c k [] := by
  refine ⟨TyGood.nil (by omega) (by omega), List.replicate k default, ⟨ho.more (Nat.zero_le _), fun b e => e, fun x hx => ?_, fun x hx a e => ?_, fun i hi => (ho.block i hi).2⟩, RefOf.nil k⟩
  · rw [List.eq_of_mem_replicate hx]; exact ⟨Rd.nil_ _ _, Rd.nil_ _ _⟩
  · rw [List.eq_of_mem_replicate hx] at e; rcases e with e | e <;> cases e
set_option maxHeartbeats 3200000 in
theorem refNew_any (z : Int) (w : World) (hz : -9223372036854775808 ≤ z ∧ z ≤ 9223372036854775807) :
    Calls Try.prog 12 #[.int .i64 z] w (MadeR (tyVoters z) w) := by
  obtain ⟨i0, hi, hz0, hz1, hz2⟩ := info_parts info_vr
  have hv : tyVoters z = min (max z 0) 64 := rfl
  obtain ⟨m, hm⟩ : ∃ m : Nat, tyVoters z = (m : Int) := ⟨(tyVoters z).toNat, by omega⟩
  have hm64 : m ≤ 64 := by omega
  have hlt : ∀ k : Nat, k < m ↔ ((k : Int) < z ∧ (k : Int) < 64) := by intro k; omega
  have HLT := Lib.hid hlt
  have HM := Lib.hid hm64
  rw [hm]
  have k0 := (Bk.new w 29 [.slice none 0 0]).alloc (.cells #[.slice none 0 0] 29)
  have k1 := bk_new2 w (.cells #[.slice none 0 0] 29) [.slice none 0 0] 29
  have hb2 := ((Below.refl w.heap.size w).alloc (Nat.le_refl _) (.cells #[.slice none 0 0] 29)).alloc (by simp) (.cells #[.slice none 0 0] 29)
  have HST := Lib.hid (And.intro k0 (And.intro k1 hb2))
  clear hv hm hm64 hlt k0 k1 hb2
  go_enter Try.func12, Try.ntmps12
  go_wp2_with fail
  go_loopw [4] (fun i wr => ∃ (A' : Option Addr) (c' k : Nat), k ≤ m ∧ i = .int .i64 k ∧ OwnVr wr (w.heap.size + 2) A' k c' (List.replicate k default) ∧ Below w.heap.size w wr ∧
    Bk wr w.heap.size 29 [.slice none 0 0] ∧ Bk wr (w.heap.size + 1) 29 [.slice A' k c']) (fun i _ => m - (intOf i).toNat)
  case atStart => exact ⟨none, 0, 0, by omega, rfl, OwnVr.nil_ _ _, HST.out.2.2, HST.out.1, HST.out.2.1⟩
  case round =>
    obtain ⟨A', c', k, hk, rfl, ho, hb, kr, kt⟩ := hrel
    have t0 := kt.at_ (i := 0) rfl
    have r0 := kr.at_ (i := 0) rfl
    have lt0 := kt.lt
    have hs := hb.size
    by_cases hlt : k < m
    · obtain ⟨y1, y2⟩ := (HLT.out k).1 hlt
      have w1 : IntKind.i64.wrap ((k : Int) + 1) = (k : Int) + 1 := by simp only [IntKind.wrap, IntKind.bits, IntKind.signed]; simp; omega
      have HO := Lib.hid ho
      have HB := Lib.hid hb
      have HT := Lib.hid kt
      have HR := Lib.hid kr
      have HK := Lib.hid hlt
      clear ho hb kt kr hlt
      go_wp2_with (at_builtin
                   refine wpList_append_own_at _ rfl _ _ 27 rfl (w.heap.size + 2) 53 i0 _ 4 64 Try.underlying27 hi hz0 hz1 hz2 rfl (by omega) (.slice A' k c') k (vrc (List.replicate k default)) rfl (World.ownsRow.alloc HO.out _)
                     ⟨wr.heap.size, 0, none⟩ 1 1 [.bool false, .int .i64 0, .slice none 0 0, .slice none 0 0] rfl rfl (vr_cells wr _ _ _ _ 53) (by simp [Value.oneCell']) (by have := HM.out; simp only [maxLen]; omega) (by have := HM.out; omega) (by have := HT.out.lt; simp; omega) ?_
                   intro v4 w4 hown4 hg4 hnil4 hrow4
                   obtain ⟨A4, c4, rfl⟩ : ∃ A4 c4, v4 = .slice A4 (k + 1) c4 := by
                     rcases hown4.2 with ⟨_, e⟩ | ⟨g, cap, cur, e, _⟩
                     · omega
                     · exact ⟨_, _, e⟩
                   have b4 := HB.out.alloc HB.out.size (.cells #[.bool false, .int .i64 0, .slice none 0 0, .slice none 0 0] 53)
                   have HB4 := Lib.hid (b4.grown hg4 b4.size (fun g hg => by have := HO.out.block g hg; omega))
                   have HT4 := Lib.hid ((HT.out.alloc (.cells #[.bool false, .int .i64 0, .slice none 0 0, .slice none 0 0] 53)).grown hg4 (fun hg => by have := HO.out.block _ hg.symm; omega))
                   have HR4 := Lib.hid ((HR.out.alloc (.cells #[.bool false, .int .i64 0, .slice none 0 0, .slice none 0 0] 53)).grown hg4 (fun hg => by have := HO.out.block _ hg.symm; omega))
                   have HO4 := Lib.hid (show OwnVr w4 (w.heap.size + 2) A4 (k + 1) c4 (List.replicate (k + 1) default) by
                     unfold OwnVr
                     rw [List.replicate_succ', vrc_append]
                     exact hown4)
                   have t4 := HT4.out.at_ (i := 0) rfl
                   have f4 := HT4.out.frozen 0
                   clear hown4 hg4 hnil4 hrow4 b4 t0 r0)
      have e1 : w.heap.size ≤ w.heap.size + 1 := by omega
      go_roundw
      case rel => exact ⟨A4, c4, k + 1, HK.out, by go_num, (Chg.set (F := fun i => i = w.heap.size + 1) (g := w.heap.size + 1) (Chg.refl _ w4) (.inl rfl) 0 _).owns HO4.out (fun b hb e => by have := HO4.out.block b hb; have e' : b = w.heap.size + 1 := e; omega), below_set HB4.out e1 0 _, HR4.out.far (by simp) _, HT4.out.set 0 _⟩
      case measure => have := HK.out; simp [intOf]; omega
    · have e : k = m := by omega
      subst e
      have HB5 := Lib.hid (below_set hb (Nat.le_refl _) 0 (.slice A' k c'))
      have HO5 := Lib.hid (show OwnVr _ (w.heap.size + 2) A' k c' (List.replicate k default) from (Chg.set (F := fun i => i = w.heap.size) (g := w.heap.size) (Chg.refl _ wr) (.inl rfl) 0 (.slice A' k c')).owns ho (fun b hb e => by have := ho.block b hb; have e' : b = w.heap.size := e; omega))
      have HR5 := Lib.hid (kr.set 0 (.slice A' k c'))
      have r5 := HR5.out.at_ (i := 0) rfl
      have fr := kr.frozen 0
      have y3 : ¬ ((k : Int) < z ∧ (k : Int) < 64) := fun q => hlt ((HLT.out k).2 q)
      have HK := Lib.hid hk
      by_cases y1 : (k : Int) < z
      · have y2 : ¬ (k : Int) < 64 := fun q => y3 ⟨y1, q⟩
        clear ho hb kr kt y3 hlt hk
        go_wp2_with fail
        refine bodyPost_ret_by (results_cell_row rfl _ _ w.heap.size 29 _ _ _ rfl HR5.out Try.underlying29 rfl info_rt) rfl ?_
        exact ⟨A', k, c', _, rfl, HM.out, made_r HO5.out HM.out, (fun i hi => by have := HO5.out.block i hi; omega), HB5.out⟩
      · clear ho hb kr kt y3 hlt hk
        go_wp2_with fail
        refine bodyPost_ret_by (results_cell_row rfl _ _ w.heap.size 29 _ _ _ rfl HR5.out Try.underlying29 rfl info_rt) rfl ?_
        exact ⟨A', k, c', _, rfl, HM.out, made_r HO5.out HM.out, (fun i hi => by have := HO5.out.block i hi; omega), HB5.out⟩
end Go.Proofs.Ytckmjpbkcpmdpaa
