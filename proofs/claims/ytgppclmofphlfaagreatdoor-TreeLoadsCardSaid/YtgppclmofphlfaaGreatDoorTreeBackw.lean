/-
  The library's iterator over a slice of texts, from behind; is a number among others? Walks; no statement.
-/
import Derived.Test.YtgppclmofphlfaaGreatDoorTreeKids1
namespace Go.Proofs.YtgppclmofphlfaaGreatDoor
set_option maxRecDepth 100000
open Go.RowKit Go.Shelf
set_option linter.unusedVariables false
attribute [local go_sem] Oper.semAt_some

/-- a node of the tree, with some number -/
abbrev NodeOf (t : List Lf) := { x : Nat × Lf // x.2 ∈ t }
set_option maxRecDepth 100000 in
set_option maxHeartbeats 4000000 in
theorem back1_in (n l n0 B b1 : Nat) (A : Option Addr) (c : Nat) (t : List Lf) (J Jx : List (NodeOf t) → World → Prop) (W : World)
    (hY : ∀ pre x W, J pre W → pre.length < t.length → YieldAt Fence.wide (n - 1) Tryz.prog l #[.int .i64 (x.1.1 : Int), .string ⟨x.1.2.path.toArray⟩] W fun e W' =>
      (e = .returned (.bool true) ∧ J (pre ++ [x]) W' ∧ KpB n0 B W W') ∨ (e = .returned (.bool false) ∧ Jx (pre ++ [x]) W'))
    (h1 : W.cell? ⟨b1, 0, none⟩ = some (.slice A t.length c)) (hR : RdT W A t.length (t.map (·.path))) (hn : t.length ≤ 1000)
    (hH : ∀ k, Hold B W k → k = B) (hB1 : b1 ≠ B) (hA : ∀ a, A = some a → 0 < t.length → a.block ≠ B) (h0 : J [] W) :
    CallsIn Fence.wide n Tryz.prog 71 #[.func (.yield l) #[] #[], .pointer (some ⟨b1, 0, none⟩)] W fun e W' => (∃ v, e = .returned v) ∧
      ((∃ ys : List (NodeOf t), ys.map (·.1.2) = t.reverse ∧ J ys W') ∨ (∃ pre : List (NodeOf t), pre.map (·.1.2) <+: t.reverse ∧ Jx pre W')) := by
  have HR := Lib.hid hR
  have HYY := Lib.hid hY
  have H1 := Lib.hid h1
  have HH := Lib.hid hH
  have HAA := Lib.hid hA
  have HJ0 := Lib.hid h0
  clear hY hR hH hA h0
  have wl : IntKind.i64.wrap ((t.length : Int) - 1) = (t.length : Int) - 1 := by simp only [IntKind.wrap, IntKind.bits, IntKind.signed]; simp; omega
  refine callsIn_of_wp Tryz.func71 rfl trivial ?_ rfl
  simp only [Tryz.ntmps71, List.size_toArray, List.length_cons, List.length_nil, Nat.reduceAdd, Nat.reduceSub, Array.replicate_succ, Array.replicate_zero, List.push_toArray, List.append_toArray, List.nil_append, List.cons_append]
  gi_wp2
  gi_loopw [3] (fun i wr => ∃ (j : Nat) (z : Int), j ≤ t.length ∧ z = (j : Int) - 1 ∧ i = .int .i64 z ∧ (∃ pre : List (NodeOf t), pre.map (·.1.2) = (t.drop j).reverse ∧ J pre wr) ∧ KpB n0 B W wr) (fun i _ => (intOf i + 1).toNat)
  case atStart => exact ⟨t.length, _, Nat.le_refl _, rfl, rfl, ⟨[], by rw [List.drop_length]; rfl, HJ0.out⟩, KpB.refl _ _ _⟩
  case round =>
    obtain ⟨j, z, hj, hz, rfl, ⟨pre, hpre, hJs⟩, hkp⟩ := hrel
    by_cases hlt : 0 < j
    · obtain ⟨m, rfl⟩ : ∃ m, j = m + 1 := ⟨j - 1, by omega⟩
      have hzm : z = (m : Int) := by omega
      subst hzm
      have hmt : m < t.length := by omega
      obtain ⟨x, hx⟩ : ∃ x, t[m]? = some x := ⟨_, List.getElem?_eq_getElem hmt⟩
      have hrd : RdT wr A t.length (t.map (·.path)) := hkp.rdT HR.out fun a e h0 hh => HAA.out a e h0 (HH.out _ hh)
      obtain ⟨a, rfl, hab, hac⟩ := hrd.at_ hmt
      have hac2 : wr.cell? (a.add m) = some (.string ⟨x.path.toArray⟩) := by rw [hac]; simp [List.getD, hx]
      have hq : wr.cell? ⟨b1, 0, none⟩ = some (.slice (some a) t.length c) := hkp.cell H1.out fun hh => hB1 (HH.out _ hh)
      have HPR := Lib.hid (show (t.drop m).reverse = pre.map (·.1.2) ++ [x] by
        obtain ⟨h9, h8⟩ := List.getElem?_eq_some_iff.1 hx
        rw [hpre, List.drop_eq_getElem_cons h9, List.reverse_cons, h8])
      have HKP := Lib.hid hkp
      have hlen : pre.length < t.length := by
        have := congrArg List.length hpre
        simp at this; omega
      have hxm : x ∈ t := List.mem_of_getElem? hx
      obtain ⟨fn, tmps, assign, body, hy, hRr⟩ := HYY.out pre ⟨(m, x), hxm⟩ wr hJs hlen
      dsimp only at hy
      have HRR := Lib.hid hRr
      have y0 : (0 : Int) ≤ (m : Int) := by omega
      have y1 : (m : Int) < (t.length : Int) := by omega
      have y2 : IntKind.i64.wrap ((m : Int) - 1) = (m : Int) - 1 := by simp only [IntKind.wrap, IntKind.bits, IntKind.signed]; simp; omega
      clear hkp hrd hab hac hJs hx hpre hRr hz hlt hlen
      gi_wp2
      refine ⟨(fun h => by cases h), HRR.out.mono ?_⟩
      rintro e w4 (⟨rfl, hJ4, hk4⟩ | ⟨rfl, hJx4⟩)
      · have HJ4 := Lib.hid hJ4
        have HK4 := Lib.hid (HKP.out.trans hk4)
        clear hJ4 hk4 hy hac2 hq
        gi_wp2
        go_roundw
        case rel => exact ⟨m, _, by omega, rfl, rfl, ⟨_, by rw [HPR.out, List.map_append]; rfl, HJ4.out⟩, HK4.out⟩
        case measure => simp [intOf]
      · have HJ4 := Lib.hid hJx4
        clear hJx4 hy hac2 hq
        gi_wp2
        refine bodyPost_ret (results_none rfl _ _ _) rfl ?_
        refine ⟨⟨_, rfl⟩, .inr ⟨_, ?_, HJ4.out⟩⟩
        rw [List.map_append, show [(⟨(m, x), _⟩ : NodeOf t)].map (·.1.2) = [x] from rfl, ← HPR.out]
        exact List.reverse_prefix.2 (List.drop_suffix m t)
    · obtain rfl : j = 0 := by omega
      have hzm : z = -1 := by omega
      subst hzm
      clear hz
      gi_wp2
      go_end0
      exact ⟨⟨_, rfl⟩, .inl ⟨_, by rw [hpre]; rfl, hJs⟩⟩
theorem back_stops (n n0 B b1 : Nat) (A : Option Addr) (c : Nat) (t : List Lf) (w0 : World)
    (h1 : w0.cell? ⟨b1, 0, none⟩ = some (.slice A t.length c)) (hR : RdT w0 A t.length (t.map (·.path))) (hn : t.length ≤ 1000)
    (hH : ∀ k, Hold B w0 k → k = B) (hB : B < w0.heap.size) (hB1 : b1 ≠ B) (hA : ∀ a, A = some a → 0 < t.length → a.block ≠ B) :
    SeqStopsK Fence.wide n Tryz.prog 71 #[.pointer (some ⟨b1, 0, none⟩)] (fun x : NodeOf t => #[.int .i64 (x.1.1 : Int), .string ⟨x.1.2.path.toArray⟩]) (KpB n0 B) (fun ys => ys.map (·.1.2) = t.reverse) (fun pre => pre.map (·.1.2) <+: t.reverse) t.length w0 := fun l J Jx W hW hJ hJx hY h0 =>
  back1_in n l n0 B b1 A c t J Jx W hY ((hW.cell (p := ⟨b1, 0, none⟩) (World.block_lt_of_cell? _ _ h1)).trans h1) (hR.below hW) hn
    (fun k h => hH k ((hold_same (hW.cell (p := ⟨B, 0, none⟩) hB) k).1 h)) hB1 hA h0
theorem backward_any (A : Option Addr) (n c : Nat) (w : World) : Calls Tryz.prog 53 #[.slice A n c] w fun e w' =>
    e = .returned (.func (.func 71) #[] #[.pointer (some ⟨w.heap.size, 0, none⟩)]) ∧ w' = w.alloc (.cells #[.slice A n c] 53) := by
  go_enter Tryz.func53, Tryz.ntmps53
  go_wp2
  go_ret
  exact ⟨rfl, rfl⟩
/-- is the number among these? -/
theorem contains_any (A : Option Addr) (c : Nat) (os : List Int) (v : Int) (w : World) (h : Rd w A os.length (os.map (.int .i64 ·))) (hn : os.length ≤ maxLen) :
    Calls Tryz.prog 55 #[.slice A os.length c, .int .i64 v] w fun e w' => e = .returned (.bool (decide (v ∈ os))) ∧ w' = w := by
  by_cases h0 : os = []
  · subst h0
    refine (Tryz.slices_Contains_empty (α := Int) A c (.int .i64 v) w).mono ?_
    rintro e w' ⟨rfl, rfl⟩
    exact ⟨rfl, rfl⟩
  · have hl : 0 < os.length := List.length_pos_iff.2 h0
    obtain ⟨a, rfl, hb, hc⟩ := Rd.at_ h (k := 0) hl
    have hsp : a.spot = none := by
      have hc0 : w.cell? a = some _ := hc
      unfold World.cell? at hc0
      split at hc0
      · cases hs : a.spot with
        | none => rfl
        | some s => rw [hs] at hc0; simp at hc0
      · cases hc0
    obtain ⟨b, off, sp⟩ := a
    obtain rfl : sp = none := hsp
    have hcell : ∀ j, j < os.length → w.cell? ⟨b, off + j, none⟩ = some (.int .i64 (os[j]!)) := fun j hj => by
      obtain ⟨a', e, _, hc'⟩ := Rd.at_ h hj
      obtain rfl := Option.some.inj e
      have e1 : (⟨b, off, none⟩ : Addr).add j = ⟨b, off + j, none⟩ := by unfold Addr.add; split <;> simp_all
      rw [e1] at hc'
      rw [hc']
      simp [List.getD, hj]
    refine (Tryz.slices_Contains (Value.int .i64) (fun x y => x == y) (Go.Proofs.EqlAt.int _ _ _) b off os.length c os v w (Nat.le_refl _) (by simpa [maxLen] using hn) hcell).mono ?_
    rintro e w' ⟨rfl, rfl⟩
    refine ⟨?_, rfl⟩
    have e1 : ((os.take os.length).any fun y => v == y) = decide (v ∈ os) := by
      rw [List.take_length, Bool.eq_iff_iff, decide_eq_true_iff, List.any_eq_true]
      constructor
      · rintro ⟨y, hy, e⟩
        obtain rfl : v = y := by simpa using e
        exact hy
      · intro h
        exact ⟨v, h, by simp⟩
    rw [e1]
end Go.Proofs.YtgppclmofphlfaaGreatDoor
