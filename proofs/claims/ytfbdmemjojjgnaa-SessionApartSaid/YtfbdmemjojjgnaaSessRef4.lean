/-
  The reference's sessions: Load. A walk; no statement.
-/
import Derived.Test.YtfbdmemjojjgnaaSessRef3
import Derived.Deep.RegionHeld3
namespace Go.Proofs.Ytfbdmemjojjgnaa
set_option maxRecDepth 100000
open Go.RowKit
set_option linter.unusedVariables false

/-- the first i are such as Load takes -/
def SInv (xs : List Se) (i : Nat) : Prop := (∀ k x, k < i → xs[k]? = some x → seRight x = true) ∧ ∀ k x y, k + 1 < i → xs[k]? = some y → xs[k + 1]? = some x → seLt y x
theorem SInv.next {xs : List Se} {i : Nat} {x : Se} (h : SInv xs i) (hx : xs[i]? = some x) (hr : seRight x = true) (hl : i = 0 ∨ ∃ j y, i = j + 1 ∧ xs[j]? = some y ∧ seLt y x) : SInv xs (i + 1) := by
  refine ⟨fun k z hk hz => ?_, fun k z y hk hy hz => ?_⟩
  · rcases Nat.lt_or_ge k i with q | q
    · exact h.1 k z q hz
    · obtain rfl : k = i := by omega
      rw [hx] at hz
      obtain rfl := Option.some.inj hz
      exact hr
  · rcases Nat.lt_or_ge (k + 1) i with q | q
    · exact h.2 k z y q hy hz
    · obtain rfl : k + 1 = i := by omega
      rw [hx] at hz
      obtain rfl := Option.some.inj hz
      rcases hl with e | ⟨j, y', e, hy', hl⟩
      · omega
      · obtain rfl : k = j := by omega
        rw [hy] at hy'
        obtain rfl := Option.some.inj hy'
        exact hl
theorem SInv.done {xs : List Se} (h : SInv xs xs.length) : SOk xs := by
  have hadj : ∀ d i (hi : i + d + 1 < xs.length), seLt (xs[i]'(by omega)) (xs[i + d + 1]'hi) := by
    intro d
    induction d with
    | zero => exact fun i hi => h.2 i _ _ hi (List.getElem?_eq_getElem (by omega)) (List.getElem?_eq_getElem hi)
    | succ d ih => exact fun i hi => Int.lt_trans (ih i (by omega)) (h.2 (i + d + 1) _ _ (by omega) (List.getElem?_eq_getElem (by omega)) (List.getElem?_eq_getElem (by omega)))
  refine ⟨List.pairwise_iff_getElem.2 fun i j hi hj hij => ?_, fun x hx => ?_⟩
  · have := hadj (j - i - 1) i (by omega)
    have e : i + (j - i - 1) + 1 = j := by omega
    simpa only [e] using this
  · obtain ⟨k, hk, rfl⟩ := List.getElem_of_mem hx
    exact h.1 k _ hk (List.getElem?_eq_getElem hk)
theorem sload_bad {xs : List Se} {j : Nat} {x y : Se} (hx : xs[j + 1]? = some x) (hy : xs[j]? = some y) (hl : ¬ seLt y x) : ¬ SOk xs := by
  intro h
  obtain ⟨h1, e1⟩ := List.getElem?_eq_some_iff.1 hx
  obtain ⟨h2, e2⟩ := List.getElem?_eq_some_iff.1 hy
  have := List.pairwise_iff_getElem.1 h.1 j (j + 1) h2 h1 (by omega)
  rw [e1, e2] at this
  exact hl this
/-- the cells of a session in a row -/
def RowE (a : Addr) (j : Nat) (y : Se) (W : World) : Prop := W.cell? (a.add (j * 3)) = some (.int .i64 y.client) ∧ W.cell? ⟨(a.add (j * 3)).block, (a.add (j * 3)).off + 1, none⟩ = some (.int .i64 y.span) ∧ W.cell? ⟨(a.add (j * 3)).block, (a.add (j * 3)).off + 2, none⟩ = some (.int .i64 y.seen)
set_option maxHeartbeats 12800000 in
theorem refLoadE_any (A : Option Addr) (c : Nat) (t : List Se) (F : Nat → Prop) (LA : Option Addr) (lc : Nat) (xs : List Se) (FX : Nat → Prop) (w : World) (h : RdS RSe F w A c t) (hx : RdS RSe FX w LA lc xs) (hn : xs.length ≤ 1000) :
    Calls Try.prog 11 #[.agg #[.slice A t.length c], .slice LA xs.length lc] w (RefB F [.bool (seTakes xs)] (seLoaded xs t) w) := by
  obtain ⟨W2, hW2⟩ : ∃ W2, W2 = (w.alloc (.cells #[.slice A t.length c] 29)).alloc (.cells #[.slice none 0 0] 29) := ⟨_, rfl⟩
  have hb2 : Below w.heap.size w W2 := by rw [hW2]; exact ((Below.refl w.heap.size w).alloc (Nat.le_refl _) _).alloc (by simp) _
  have hs2 : W2.heap.size = w.heap.size + 2 := by rw [hW2]; simp
  have K0 : Bk W2 w.heap.size 29 [.slice A t.length c] := by rw [hW2]; exact (Bk.new w 29 [.slice A t.length c]).alloc _
  have K1 : Bk W2 (w.heap.size + 1) 29 [.slice none 0 0] := by rw [hW2]; exact bk_new2 w _ [.slice none 0 0] _
  have HKW := Lib.hid (fun X (hX : Below W2.heap.size W2 X) => (⟨(K0.kept hX).at_ rfl, (K1.kept hX).frozen 0, (K0.kept hX).frozen 0, K1.kept hX, K0.kept hX, hb2.trans (hX.mono (by omega))⟩ :
    X.cell? ⟨w.heap.size, 0, none⟩ = some (.slice A t.length c) ∧ X.frozen? ⟨w.heap.size + 1, 0, none⟩ = false ∧ X.frozen? ⟨w.heap.size, 0, none⟩ = false ∧ Bk X (w.heap.size + 1) 29 [.slice none 0 0] ∧ Bk X w.heap.size 29 [.slice A t.length c] ∧ Below w.heap.size w X))
  have HT := Lib.hid h
  have HX := Lib.hid hx
  have HWE := Lib.hid hW2
  have HS2 := Lib.hid hs2
  have HNL := Lib.hid hn
  obtain ⟨n, hnl⟩ : ∃ n, n = xs.length := ⟨_, rfl⟩
  have HL := Lib.hid hnl.symm
  have hn1 : n ≤ 1000 := by omega
  have HB0 := Lib.hid (Below.refl W2.heap.size W2)
  rw [← hnl]
  clear h hx hW2 hb2 hs2 K0 K1 hnl hn
  go_enter Try.func11, Try.ntmps11
  go_wp2_with fail
  rw [← HWE.out]
  go_wp2_with fail
  go_loopw [6] (fun si wr => ∃ (i : Nat), i ≤ n ∧ si = .int .i64 i ∧ SInv xs i ∧ Below W2.heap.size W2 wr) (fun si _ => n - (intOf si).toNat)
  case atStart => exact ⟨0, by omega, rfl, ⟨fun k x hk => by omega, fun k x y hk => by omega⟩, HB0.out⟩
  case round =>
    obtain ⟨i, hi, rfl, hli, hb⟩ := hrel
    by_cases hlt : i < n
    · have hix : i < xs.length := by have := HL.out; omega
      have hy : xs[i]? = some xs[i] := List.getElem?_eq_getElem hix
      have hbw := (HKW.out wr hb).2.2.2.2.2
      obtain ⟨a, rfl, hal, -, -, -⟩ := (HX.out.below hbw).se3 hy
      have HXI := Lib.hid hy
      generalize xs[i] = x at *
      have HR1 := Lib.hid (fun X (hX : Below W2.heap.size W2 X) => show RowE a i x X by
        obtain ⟨a', e, _, q0, q1, q2⟩ := (HX.out.below (HKW.out X hX).2.2.2.2.2).se3 hy
        obtain rfl := Option.some.inj e
        exact ⟨q0, q1, q2⟩)
      have HRG := Lib.hid (fun W => show Calls Try.prog 27 #[.agg #[.int .i64 x.client, .int .i64 x.span, .int .i64 x.seen]] W (Ans (.bool (seRight x)) W) from refRightE_any x W)
      have HB := Lib.hid hb
      have HLT := Lib.hid hlt
      have HLI := Lib.hid hli
      have y1 : (0 : Int) ≤ (i : Int) := by omega
      have y2 : (i : Int) < (n : Int) := by omega
      cases hr : seRight x with
      | false =>
        have HNO := Lib.hid (show ¬ SOk xs from fun hw => by have := hw.2 x (List.mem_of_getElem? HXI.out); rw [hr] at this; cases this)
        have HST := Lib.hid HR1.out
        rw [hr] at HRG
        clear hb hlt hli hy hix hbw hal hr hi
        go_wp2_with fail
        refine wp_region_held_drew (S := fun X => RowE a i x X) (by kernel_rfl) (HST.out _ (below_drewN HB.out 1)) (fun hHeld => ?_)
        refine wpAnyH_take (i := 0) (oi := ({ dst := some 13, op := Op.move (Operand.tmp 1), type := 23, pos := "ref.go:104", after := #[], guard := none } : Oper)) (v := ?_) rfl (by kernel_rfl) (by kernel_rfl) (by kernel_rfl) (fun _ _ _ h => h) (Or.inl ⟨by rfl, ?_⟩) (by assumption) ?_
        rotate_left
        · rintro w ⟨s0, s1, s2⟩; (try dsimp only); go_simp; first | done | with_reducible rfl
        try simp only [Act.put, List.setIfInBounds_toArray, List.set_cons_zero, List.set_cons_succ]
        refine wpAnyH_take (i := 1) (oi := ({ dst := some 14, op := Op.move (Operand.tmp 6), type := 3, pos := "ref.go:104", after := #[], guard := none } : Oper)) (v := ?_) rfl (by kernel_rfl) (by kernel_rfl) (by kernel_rfl) (fun _ _ _ h => h) (Or.inl ⟨by rfl, ?_⟩) (by assumption) ?_
        rotate_left
        · rintro w ⟨s0, s1, s2⟩; (try dsimp only); go_simp; first | done | with_reducible rfl
        try simp only [Act.put, List.setIfInBounds_toArray, List.set_cons_zero, List.set_cons_succ]
        refine wpAnyH_take (i := 2) (oi := ({ dst := some 15, op := Op.indexAddr 23 (Operand.tmp 13) (Operand.tmp 14), type := 0, pos := "ref.go:104", after := #[{ on := 0, ground := Ground.data }, { on := 1, ground := Ground.data }], guard := none } : Oper)) (v := ?_) rfl (by kernel_rfl) (by kernel_rfl) (by kernel_rfl) (fun _ _ _ h => h) (Or.inl ⟨by rfl, ?_⟩) (by assumption) ?_
        rotate_left
        · rintro w ⟨s0, s1, s2⟩; (try dsimp only); go_simp; first | done | with_reducible rfl
        try simp only [Act.put, List.setIfInBounds_toArray, List.set_cons_zero, List.set_cons_succ]
        refine wpAnyH_take (i := 3) (oi := ({ dst := some 16, op := Op.load 36 (Operand.tmp 15), type := 36, pos := "ref.go:104", after := #[{ on := 2, ground := Ground.data }], guard := none } : Oper)) (v := ?_) rfl (by kernel_rfl) (by kernel_rfl) (by kernel_rfl) (fun _ _ _ h => h) (Or.inl ⟨by rfl, ?_⟩) (by assumption) ?_
        rotate_left
        · rintro w ⟨s0, s1, s2⟩; (try dsimp only); go_simp; first | done | with_reducible rfl
        try simp only [Act.put, List.setIfInBounds_toArray, List.set_cons_zero, List.set_cons_succ]
        refine wpAnyH_ready (rs := [4]) (by kernel_rfl) (by simp) ?_
        refine AllReadyH.cons (o := ({ dst := some 17, op := Op.call { callee := Callee.value (Operand.func 27), args := #[Operand.tmp 16], argTypes := #[36] }, type := 4, pos := "ref.go:104", after := #[{ on := 3, ground := Ground.data }], guard := none } : Oper)) rfl (fun K hK => ?_) AllReadyH.nil
        go_simp
        refine (HRG.out _).mono ?_
        rintro e w5 ⟨rfl, hb5⟩
        have HB5 := Lib.hid (HB.out.trans ((below_undrawn (n := 1) hb5).mono HB.out.size))
        clear hb5
        go_wp2_with fail
        refine hK.out _ _ (HST.out _ HB5.out) (fun hHeld => ?_)
        clear hK K
        try simp only [Act.put, List.setIfInBounds_toArray, List.set_cons_zero, List.set_cons_succ]
        refine wpAnyH_take (i := 5) (oi := ({ dst := some 18, op := Op.unOp UnOp.not 4 (Operand.tmp 17), type := 4, pos := "ref.go:104", after := #[{ on := 4, ground := Ground.data }], guard := none } : Oper)) (v := ?_) rfl (by kernel_rfl) (by kernel_rfl) (by kernel_rfl) (fun _ _ _ h => h) (Or.inl ⟨by rfl, ?_⟩) (by assumption) ?_
        rotate_left
        · rintro w ⟨s0, s1, s2⟩; (try dsimp only); go_simp; first | done | with_reducible rfl
        try simp only [Act.put, List.setIfInBounds_toArray, List.set_cons_zero, List.set_cons_succ]
        refine wpAnyH_take (i := 6) (oi := ({ dst := some 19, op := Op.move (Operand.tmp 18), type := 4, pos := "ref.go:104", after := #[{ on := 5, ground := Ground.data }, { on := 4, ground := Ground.chain }], guard := none } : Oper)) (v := ?_) rfl (by kernel_rfl) (by kernel_rfl) (by kernel_rfl) (fun _ _ _ h => h) (Or.inl ⟨by rfl, ?_⟩) (by assumption) ?_
        rotate_left
        · rintro w ⟨s0, s1, s2⟩; (try dsimp only); go_simp; first | done | with_reducible rfl
        try simp only [Act.put, List.setIfInBounds_toArray, List.set_cons_zero, List.set_cons_succ]
        refine wpAnyH_take (i := 7) (oi := ({ dst := some 20, op := Op.move (Operand.tmp 6), type := 3, pos := "ref.go:104", after := #[{ on := 6, ground := Ground.guard }], guard := some (6, false) } : Oper)) (v := undef) rfl (by kernel_rfl) (by kernel_rfl) (by kernel_rfl) (fun _ _ _ h => h) (Or.inr ⟨by rfl, rfl⟩) (by assumption) ?_
        try simp only [Act.put, List.setIfInBounds_toArray, List.set_cons_zero, List.set_cons_succ]
        refine wpAnyH_take (i := 8) (oi := ({ dst := some 21, op := Op.binOp BinOp.gtr 3 (Operand.tmp 20) (Operand.const (Value.int IntKind.i64 0)) 3, type := 4, pos := "ref.go:104", after := #[{ on := 7, ground := Ground.data }, { on := 6, ground := Ground.guard }], guard := some (6, false) } : Oper)) (v := undef) rfl (by kernel_rfl) (by kernel_rfl) (by kernel_rfl) (fun _ _ _ h => h) (Or.inr ⟨by rfl, rfl⟩) (by assumption) ?_
        try simp only [Act.put, List.setIfInBounds_toArray, List.set_cons_zero, List.set_cons_succ]
        refine wpAnyH_take (i := 9) (oi := ({ dst := some 22, op := Op.move (Operand.tmp 21), type := 4, pos := "ref.go:104", after := #[{ on := 8, ground := Ground.data }, { on := 6, ground := Ground.chain }, { on := 6, ground := Ground.guard }], guard := some (6, false) } : Oper)) (v := undef) rfl (by kernel_rfl) (by kernel_rfl) (by kernel_rfl) (fun _ _ _ h => h) (Or.inr ⟨by rfl, rfl⟩) (by assumption) ?_
        try simp only [Act.put, List.setIfInBounds_toArray, List.set_cons_zero, List.set_cons_succ]
        refine wpAnyH_take (i := 10) (oi := ({ dst := some 23, op := Op.move (Operand.tmp 1), type := 23, pos := "ref.go:104", after := #[{ on := 9, ground := Ground.guard }], guard := some (9, true) } : Oper)) (v := undef) rfl (by kernel_rfl) (by kernel_rfl) (by kernel_rfl) (fun _ _ _ h => h) (Or.inr ⟨by rfl, rfl⟩) (by assumption) ?_
        try simp only [Act.put, List.setIfInBounds_toArray, List.set_cons_zero, List.set_cons_succ]
        refine wpAnyH_take (i := 11) (oi := ({ dst := some 24, op := Op.move (Operand.tmp 6), type := 3, pos := "ref.go:104", after := #[{ on := 9, ground := Ground.guard }], guard := some (9, true) } : Oper)) (v := undef) rfl (by kernel_rfl) (by kernel_rfl) (by kernel_rfl) (fun _ _ _ h => h) (Or.inr ⟨by rfl, rfl⟩) (by assumption) ?_
        try simp only [Act.put, List.setIfInBounds_toArray, List.set_cons_zero, List.set_cons_succ]
        refine wpAnyH_take (i := 12) (oi := ({ dst := some 25, op := Op.binOp BinOp.sub 3 (Operand.tmp 24) (Operand.const (Value.int IntKind.i64 1)) 3, type := 3, pos := "ref.go:104", after := #[{ on := 11, ground := Ground.data }, { on := 9, ground := Ground.guard }], guard := some (9, true) } : Oper)) (v := undef) rfl (by kernel_rfl) (by kernel_rfl) (by kernel_rfl) (fun _ _ _ h => h) (Or.inr ⟨by rfl, rfl⟩) (by assumption) ?_
        try simp only [Act.put, List.setIfInBounds_toArray, List.set_cons_zero, List.set_cons_succ]
        refine wpAnyH_take (i := 13) (oi := ({ dst := some 26, op := Op.indexAddr 23 (Operand.tmp 23) (Operand.tmp 25), type := 0, pos := "ref.go:104", after := #[{ on := 10, ground := Ground.data }, { on := 12, ground := Ground.data }, { on := 9, ground := Ground.guard }], guard := some (9, true) } : Oper)) (v := undef) rfl (by kernel_rfl) (by kernel_rfl) (by kernel_rfl) (fun _ _ _ h => h) (Or.inr ⟨by rfl, rfl⟩) (by assumption) ?_
        try simp only [Act.put, List.setIfInBounds_toArray, List.set_cons_zero, List.set_cons_succ]
        refine wpAnyH_take (i := 14) (oi := ({ dst := some 27, op := Op.fieldAddr 36 (Operand.tmp 26) 0, type := 0, pos := "ref.go:104", after := #[{ on := 13, ground := Ground.data }, { on := 9, ground := Ground.guard }], guard := some (9, true) } : Oper)) (v := undef) rfl (by kernel_rfl) (by kernel_rfl) (by kernel_rfl) (fun _ _ _ h => h) (Or.inr ⟨by rfl, rfl⟩) (by assumption) ?_
        try simp only [Act.put, List.setIfInBounds_toArray, List.set_cons_zero, List.set_cons_succ]
        refine wpAnyH_take (i := 15) (oi := ({ dst := some 28, op := Op.load 3 (Operand.tmp 27), type := 3, pos := "ref.go:104", after := #[{ on := 14, ground := Ground.data }, { on := 9, ground := Ground.guard }], guard := some (9, true) } : Oper)) (v := undef) rfl (by kernel_rfl) (by kernel_rfl) (by kernel_rfl) (fun _ _ _ h => h) (Or.inr ⟨by rfl, rfl⟩) (by assumption) ?_
        try simp only [Act.put, List.setIfInBounds_toArray, List.set_cons_zero, List.set_cons_succ]
        refine wpAnyH_take (i := 16) (oi := ({ dst := some 29, op := Op.move (Operand.tmp 1), type := 23, pos := "ref.go:104", after := #[{ on := 9, ground := Ground.guard }], guard := some (9, true) } : Oper)) (v := undef) rfl (by kernel_rfl) (by kernel_rfl) (by kernel_rfl) (fun _ _ _ h => h) (Or.inr ⟨by rfl, rfl⟩) (by assumption) ?_
        try simp only [Act.put, List.setIfInBounds_toArray, List.set_cons_zero, List.set_cons_succ]
        refine wpAnyH_take (i := 17) (oi := ({ dst := some 30, op := Op.move (Operand.tmp 6), type := 3, pos := "ref.go:104", after := #[{ on := 9, ground := Ground.guard }], guard := some (9, true) } : Oper)) (v := undef) rfl (by kernel_rfl) (by kernel_rfl) (by kernel_rfl) (fun _ _ _ h => h) (Or.inr ⟨by rfl, rfl⟩) (by assumption) ?_
        try simp only [Act.put, List.setIfInBounds_toArray, List.set_cons_zero, List.set_cons_succ]
        refine wpAnyH_take (i := 18) (oi := ({ dst := some 31, op := Op.indexAddr 23 (Operand.tmp 29) (Operand.tmp 30), type := 0, pos := "ref.go:104", after := #[{ on := 16, ground := Ground.data }, { on := 17, ground := Ground.data }, { on := 9, ground := Ground.guard }], guard := some (9, true) } : Oper)) (v := undef) rfl (by kernel_rfl) (by kernel_rfl) (by kernel_rfl) (fun _ _ _ h => h) (Or.inr ⟨by rfl, rfl⟩) (by assumption) ?_
        try simp only [Act.put, List.setIfInBounds_toArray, List.set_cons_zero, List.set_cons_succ]
        refine wpAnyH_take (i := 19) (oi := ({ dst := some 32, op := Op.fieldAddr 36 (Operand.tmp 31) 0, type := 0, pos := "ref.go:104", after := #[{ on := 18, ground := Ground.data }, { on := 9, ground := Ground.guard }], guard := some (9, true) } : Oper)) (v := undef) rfl (by kernel_rfl) (by kernel_rfl) (by kernel_rfl) (fun _ _ _ h => h) (Or.inr ⟨by rfl, rfl⟩) (by assumption) ?_
        try simp only [Act.put, List.setIfInBounds_toArray, List.set_cons_zero, List.set_cons_succ]
        refine wpAnyH_take (i := 20) (oi := ({ dst := some 33, op := Op.load 3 (Operand.tmp 32), type := 3, pos := "ref.go:104", after := #[{ on := 19, ground := Ground.data }, { on := 9, ground := Ground.guard }], guard := some (9, true) } : Oper)) (v := undef) rfl (by kernel_rfl) (by kernel_rfl) (by kernel_rfl) (fun _ _ _ h => h) (Or.inr ⟨by rfl, rfl⟩) (by assumption) ?_
        try simp only [Act.put, List.setIfInBounds_toArray, List.set_cons_zero, List.set_cons_succ]
        refine wpAnyH_take (i := 21) (oi := ({ dst := some 34, op := Op.binOp BinOp.geq 3 (Operand.tmp 28) (Operand.tmp 33) 3, type := 4, pos := "ref.go:104", after := #[{ on := 15, ground := Ground.data }, { on := 20, ground := Ground.data }, { on := 9, ground := Ground.guard }], guard := some (9, true) } : Oper)) (v := undef) rfl (by kernel_rfl) (by kernel_rfl) (by kernel_rfl) (fun _ _ _ h => h) (Or.inr ⟨by rfl, rfl⟩) (by assumption) ?_
        try simp only [Act.put, List.setIfInBounds_toArray, List.set_cons_zero, List.set_cons_succ]
        refine wpAnyH_take (i := 22) (oi := ({ dst := some 35, op := Op.pick (Operand.tmp 22) (Operand.tmp 34) (Operand.const (Value.bool false)), type := 4, pos := "ref.go:104", after := #[{ on := 9, ground := Ground.data }, { on := 21, ground := Ground.data }, { on := 6, ground := Ground.guard }], guard := some (6, false) } : Oper)) (v := undef) rfl (by kernel_rfl) (by kernel_rfl) (by kernel_rfl) (fun _ _ _ h => h) (Or.inr ⟨by rfl, rfl⟩) (by assumption) ?_
        try simp only [Act.put, List.setIfInBounds_toArray, List.set_cons_zero, List.set_cons_succ]
        refine wpAnyH_take (i := 23) (oi := ({ dst := some 36, op := Op.pick (Operand.tmp 19) (Operand.const (Value.bool true)) (Operand.tmp 35), type := 4, pos := "ref.go:104", after := #[{ on := 6, ground := Ground.data }, { on := 22, ground := Ground.data }], guard := none } : Oper)) (v := ?_) rfl (by kernel_rfl) (by kernel_rfl) (by kernel_rfl) (fun _ _ _ h => h) (Or.inl ⟨by rfl, ?_⟩) (by assumption) ?_
        rotate_left
        · rintro w ⟨s0, s1, s2⟩; (try dsimp only); go_simp; first | done | with_reducible rfl
        try simp only [Act.put, List.setIfInBounds_toArray, List.set_cons_zero, List.set_cons_succ]
        refine wpAnyH_done (by kernel_rfl) ?_ _
        obtain ⟨j9, z1, z0, kr, -, hbw⟩ := HKW.out _ HB5.out
        have HKR := Lib.hid kr
        have HBW := Lib.hid hbw
        have m2 := kr.at_ (i := 0) rfl
        clear kr hbw
        go_wp2_with fail
        have kk := HKR.out.set 0 (.slice A t.length c)
        refine bodyPost_ret_by (results_row_tmp rfl _ _ (w.heap.size + 1) 29 _ _ rfl kk Try.underlying29 rfl info_rbook1) rfl ?_
        rw [seLoaded, seTakes, decide_eq_false HNO.out, if_neg (by decide)]
        exact refb_exit HT.out HBW.out (by omega) _ [.bool false]
      | true =>
        have HRT := Lib.hid hr
        rw [hr] at HRG
        by_cases hi0 : i = 0
        · have hgt : decide ((0 : Int) < (i : Int)) = false := by simp [hi0]
          have hgn : decide (0 < i) = false := by simp [hi0]
          have HST := Lib.hid HR1.out
          have HLN := Lib.hid (HLI.out.next HXI.out HRT.out (.inl hi0))
          clear hb hlt hli hy hix hbw hal hr hi hi0
          go_wp2_with fail
          refine wp_region_held_drew (S := fun X => RowE a i x X) (by kernel_rfl) (HST.out _ (below_drewN HB.out 1)) (fun hHeld => ?_)
          refine wpAnyH_take (i := 0) (oi := ({ dst := some 13, op := Op.move (Operand.tmp 1), type := 23, pos := "ref.go:104", after := #[], guard := none } : Oper)) (v := ?_) rfl (by kernel_rfl) (by kernel_rfl) (by kernel_rfl) (fun _ _ _ h => h) (Or.inl ⟨by rfl, ?_⟩) (by assumption) ?_
          rotate_left
          · rintro w ⟨s0, s1, s2⟩; (try dsimp only); go_simp; first | done | with_reducible rfl
          try simp only [Act.put, List.setIfInBounds_toArray, List.set_cons_zero, List.set_cons_succ]
          refine wpAnyH_take (i := 1) (oi := ({ dst := some 14, op := Op.move (Operand.tmp 6), type := 3, pos := "ref.go:104", after := #[], guard := none } : Oper)) (v := ?_) rfl (by kernel_rfl) (by kernel_rfl) (by kernel_rfl) (fun _ _ _ h => h) (Or.inl ⟨by rfl, ?_⟩) (by assumption) ?_
          rotate_left
          · rintro w ⟨s0, s1, s2⟩; (try dsimp only); go_simp; first | done | with_reducible rfl
          try simp only [Act.put, List.setIfInBounds_toArray, List.set_cons_zero, List.set_cons_succ]
          refine wpAnyH_take (i := 2) (oi := ({ dst := some 15, op := Op.indexAddr 23 (Operand.tmp 13) (Operand.tmp 14), type := 0, pos := "ref.go:104", after := #[{ on := 0, ground := Ground.data }, { on := 1, ground := Ground.data }], guard := none } : Oper)) (v := ?_) rfl (by kernel_rfl) (by kernel_rfl) (by kernel_rfl) (fun _ _ _ h => h) (Or.inl ⟨by rfl, ?_⟩) (by assumption) ?_
          rotate_left
          · rintro w ⟨s0, s1, s2⟩; (try dsimp only); go_simp; first | done | with_reducible rfl
          try simp only [Act.put, List.setIfInBounds_toArray, List.set_cons_zero, List.set_cons_succ]
          refine wpAnyH_take (i := 3) (oi := ({ dst := some 16, op := Op.load 36 (Operand.tmp 15), type := 36, pos := "ref.go:104", after := #[{ on := 2, ground := Ground.data }], guard := none } : Oper)) (v := ?_) rfl (by kernel_rfl) (by kernel_rfl) (by kernel_rfl) (fun _ _ _ h => h) (Or.inl ⟨by rfl, ?_⟩) (by assumption) ?_
          rotate_left
          · rintro w ⟨s0, s1, s2⟩; (try dsimp only); go_simp; first | done | with_reducible rfl
          try simp only [Act.put, List.setIfInBounds_toArray, List.set_cons_zero, List.set_cons_succ]
          refine wpAnyH_ready (rs := [4]) (by kernel_rfl) (by simp) ?_
          refine AllReadyH.cons (o := ({ dst := some 17, op := Op.call { callee := Callee.value (Operand.func 27), args := #[Operand.tmp 16], argTypes := #[36] }, type := 4, pos := "ref.go:104", after := #[{ on := 3, ground := Ground.data }], guard := none } : Oper)) rfl (fun K hK => ?_) AllReadyH.nil
          go_simp
          refine (HRG.out _).mono ?_
          rintro e w5 ⟨rfl, hb5⟩
          have HB5 := Lib.hid (HB.out.trans ((below_undrawn (n := 1) hb5).mono HB.out.size))
          clear hb5
          go_wp2_with fail
          refine hK.out _ _ (HST.out _ HB5.out) (fun hHeld => ?_)
          clear hK K
          try simp only [Act.put, List.setIfInBounds_toArray, List.set_cons_zero, List.set_cons_succ]
          refine wpAnyH_take (i := 5) (oi := ({ dst := some 18, op := Op.unOp UnOp.not 4 (Operand.tmp 17), type := 4, pos := "ref.go:104", after := #[{ on := 4, ground := Ground.data }], guard := none } : Oper)) (v := ?_) rfl (by kernel_rfl) (by kernel_rfl) (by kernel_rfl) (fun _ _ _ h => h) (Or.inl ⟨by rfl, ?_⟩) (by assumption) ?_
          rotate_left
          · rintro w ⟨s0, s1, s2⟩; (try dsimp only); go_simp; first | done | with_reducible rfl
          try simp only [Act.put, List.setIfInBounds_toArray, List.set_cons_zero, List.set_cons_succ]
          refine wpAnyH_take (i := 6) (oi := ({ dst := some 19, op := Op.move (Operand.tmp 18), type := 4, pos := "ref.go:104", after := #[{ on := 5, ground := Ground.data }, { on := 4, ground := Ground.chain }], guard := none } : Oper)) (v := ?_) rfl (by kernel_rfl) (by kernel_rfl) (by kernel_rfl) (fun _ _ _ h => h) (Or.inl ⟨by rfl, ?_⟩) (by assumption) ?_
          rotate_left
          · rintro w ⟨s0, s1, s2⟩; (try dsimp only); go_simp; first | done | with_reducible rfl
          try simp only [Act.put, List.setIfInBounds_toArray, List.set_cons_zero, List.set_cons_succ]
          refine wpAnyH_take (i := 7) (oi := ({ dst := some 20, op := Op.move (Operand.tmp 6), type := 3, pos := "ref.go:104", after := #[{ on := 6, ground := Ground.guard }], guard := some (6, false) } : Oper)) (v := ?_) rfl (by kernel_rfl) (by kernel_rfl) (by kernel_rfl) (fun _ _ _ h => h) (Or.inl ⟨by rfl, ?_⟩) (by assumption) ?_
          rotate_left
          · rintro w ⟨s0, s1, s2⟩; (try dsimp only); go_simp; first | done | with_reducible rfl
          try simp only [Act.put, List.setIfInBounds_toArray, List.set_cons_zero, List.set_cons_succ]
          refine wpAnyH_take (i := 8) (oi := ({ dst := some 21, op := Op.binOp BinOp.gtr 3 (Operand.tmp 20) (Operand.const (Value.int IntKind.i64 0)) 3, type := 4, pos := "ref.go:104", after := #[{ on := 7, ground := Ground.data }, { on := 6, ground := Ground.guard }], guard := some (6, false) } : Oper)) (v := ?_) rfl (by kernel_rfl) (by kernel_rfl) (by kernel_rfl) (fun _ _ _ h => h) (Or.inl ⟨by rfl, ?_⟩) (by assumption) ?_
          rotate_left
          · rintro w ⟨s0, s1, s2⟩; (try dsimp only); go_simp; first | done | with_reducible rfl
          try simp only [Act.put, List.setIfInBounds_toArray, List.set_cons_zero, List.set_cons_succ]
          refine wpAnyH_take (i := 9) (oi := ({ dst := some 22, op := Op.move (Operand.tmp 21), type := 4, pos := "ref.go:104", after := #[{ on := 8, ground := Ground.data }, { on := 6, ground := Ground.chain }, { on := 6, ground := Ground.guard }], guard := some (6, false) } : Oper)) (v := ?_) rfl (by kernel_rfl) (by kernel_rfl) (by kernel_rfl) (fun _ _ _ h => h) (Or.inl ⟨by rfl, ?_⟩) (by assumption) ?_
          rotate_left
          · rintro w ⟨s0, s1, s2⟩; (try dsimp only); go_simp; first | done | with_reducible rfl
          try simp only [Act.put, List.setIfInBounds_toArray, List.set_cons_zero, List.set_cons_succ]
          refine wpAnyH_take (i := 10) (oi := ({ dst := some 23, op := Op.move (Operand.tmp 1), type := 23, pos := "ref.go:104", after := #[{ on := 9, ground := Ground.guard }], guard := some (9, true) } : Oper)) (v := undef) rfl (by kernel_rfl) (by kernel_rfl) (by kernel_rfl) (fun _ _ _ h => h) (Or.inr ⟨by rfl, rfl⟩) (by assumption) ?_
          try simp only [Act.put, List.setIfInBounds_toArray, List.set_cons_zero, List.set_cons_succ]
          refine wpAnyH_take (i := 11) (oi := ({ dst := some 24, op := Op.move (Operand.tmp 6), type := 3, pos := "ref.go:104", after := #[{ on := 9, ground := Ground.guard }], guard := some (9, true) } : Oper)) (v := undef) rfl (by kernel_rfl) (by kernel_rfl) (by kernel_rfl) (fun _ _ _ h => h) (Or.inr ⟨by rfl, rfl⟩) (by assumption) ?_
          try simp only [Act.put, List.setIfInBounds_toArray, List.set_cons_zero, List.set_cons_succ]
          refine wpAnyH_take (i := 12) (oi := ({ dst := some 25, op := Op.binOp BinOp.sub 3 (Operand.tmp 24) (Operand.const (Value.int IntKind.i64 1)) 3, type := 3, pos := "ref.go:104", after := #[{ on := 11, ground := Ground.data }, { on := 9, ground := Ground.guard }], guard := some (9, true) } : Oper)) (v := undef) rfl (by kernel_rfl) (by kernel_rfl) (by kernel_rfl) (fun _ _ _ h => h) (Or.inr ⟨by rfl, rfl⟩) (by assumption) ?_
          try simp only [Act.put, List.setIfInBounds_toArray, List.set_cons_zero, List.set_cons_succ]
          refine wpAnyH_take (i := 13) (oi := ({ dst := some 26, op := Op.indexAddr 23 (Operand.tmp 23) (Operand.tmp 25), type := 0, pos := "ref.go:104", after := #[{ on := 10, ground := Ground.data }, { on := 12, ground := Ground.data }, { on := 9, ground := Ground.guard }], guard := some (9, true) } : Oper)) (v := undef) rfl (by kernel_rfl) (by kernel_rfl) (by kernel_rfl) (fun _ _ _ h => h) (Or.inr ⟨by rfl, rfl⟩) (by assumption) ?_
          try simp only [Act.put, List.setIfInBounds_toArray, List.set_cons_zero, List.set_cons_succ]
          refine wpAnyH_take (i := 14) (oi := ({ dst := some 27, op := Op.fieldAddr 36 (Operand.tmp 26) 0, type := 0, pos := "ref.go:104", after := #[{ on := 13, ground := Ground.data }, { on := 9, ground := Ground.guard }], guard := some (9, true) } : Oper)) (v := undef) rfl (by kernel_rfl) (by kernel_rfl) (by kernel_rfl) (fun _ _ _ h => h) (Or.inr ⟨by rfl, rfl⟩) (by assumption) ?_
          try simp only [Act.put, List.setIfInBounds_toArray, List.set_cons_zero, List.set_cons_succ]
          refine wpAnyH_take (i := 15) (oi := ({ dst := some 28, op := Op.load 3 (Operand.tmp 27), type := 3, pos := "ref.go:104", after := #[{ on := 14, ground := Ground.data }, { on := 9, ground := Ground.guard }], guard := some (9, true) } : Oper)) (v := undef) rfl (by kernel_rfl) (by kernel_rfl) (by kernel_rfl) (fun _ _ _ h => h) (Or.inr ⟨by rfl, rfl⟩) (by assumption) ?_
          try simp only [Act.put, List.setIfInBounds_toArray, List.set_cons_zero, List.set_cons_succ]
          refine wpAnyH_take (i := 16) (oi := ({ dst := some 29, op := Op.move (Operand.tmp 1), type := 23, pos := "ref.go:104", after := #[{ on := 9, ground := Ground.guard }], guard := some (9, true) } : Oper)) (v := undef) rfl (by kernel_rfl) (by kernel_rfl) (by kernel_rfl) (fun _ _ _ h => h) (Or.inr ⟨by rfl, rfl⟩) (by assumption) ?_
          try simp only [Act.put, List.setIfInBounds_toArray, List.set_cons_zero, List.set_cons_succ]
          refine wpAnyH_take (i := 17) (oi := ({ dst := some 30, op := Op.move (Operand.tmp 6), type := 3, pos := "ref.go:104", after := #[{ on := 9, ground := Ground.guard }], guard := some (9, true) } : Oper)) (v := undef) rfl (by kernel_rfl) (by kernel_rfl) (by kernel_rfl) (fun _ _ _ h => h) (Or.inr ⟨by rfl, rfl⟩) (by assumption) ?_
          try simp only [Act.put, List.setIfInBounds_toArray, List.set_cons_zero, List.set_cons_succ]
          refine wpAnyH_take (i := 18) (oi := ({ dst := some 31, op := Op.indexAddr 23 (Operand.tmp 29) (Operand.tmp 30), type := 0, pos := "ref.go:104", after := #[{ on := 16, ground := Ground.data }, { on := 17, ground := Ground.data }, { on := 9, ground := Ground.guard }], guard := some (9, true) } : Oper)) (v := undef) rfl (by kernel_rfl) (by kernel_rfl) (by kernel_rfl) (fun _ _ _ h => h) (Or.inr ⟨by rfl, rfl⟩) (by assumption) ?_
          try simp only [Act.put, List.setIfInBounds_toArray, List.set_cons_zero, List.set_cons_succ]
          refine wpAnyH_take (i := 19) (oi := ({ dst := some 32, op := Op.fieldAddr 36 (Operand.tmp 31) 0, type := 0, pos := "ref.go:104", after := #[{ on := 18, ground := Ground.data }, { on := 9, ground := Ground.guard }], guard := some (9, true) } : Oper)) (v := undef) rfl (by kernel_rfl) (by kernel_rfl) (by kernel_rfl) (fun _ _ _ h => h) (Or.inr ⟨by rfl, rfl⟩) (by assumption) ?_
          try simp only [Act.put, List.setIfInBounds_toArray, List.set_cons_zero, List.set_cons_succ]
          refine wpAnyH_take (i := 20) (oi := ({ dst := some 33, op := Op.load 3 (Operand.tmp 32), type := 3, pos := "ref.go:104", after := #[{ on := 19, ground := Ground.data }, { on := 9, ground := Ground.guard }], guard := some (9, true) } : Oper)) (v := undef) rfl (by kernel_rfl) (by kernel_rfl) (by kernel_rfl) (fun _ _ _ h => h) (Or.inr ⟨by rfl, rfl⟩) (by assumption) ?_
          try simp only [Act.put, List.setIfInBounds_toArray, List.set_cons_zero, List.set_cons_succ]
          refine wpAnyH_take (i := 21) (oi := ({ dst := some 34, op := Op.binOp BinOp.geq 3 (Operand.tmp 28) (Operand.tmp 33) 3, type := 4, pos := "ref.go:104", after := #[{ on := 15, ground := Ground.data }, { on := 20, ground := Ground.data }, { on := 9, ground := Ground.guard }], guard := some (9, true) } : Oper)) (v := undef) rfl (by kernel_rfl) (by kernel_rfl) (by kernel_rfl) (fun _ _ _ h => h) (Or.inr ⟨by rfl, rfl⟩) (by assumption) ?_
          try simp only [Act.put, List.setIfInBounds_toArray, List.set_cons_zero, List.set_cons_succ]
          refine wpAnyH_take (i := 22) (oi := ({ dst := some 35, op := Op.pick (Operand.tmp 22) (Operand.tmp 34) (Operand.const (Value.bool false)), type := 4, pos := "ref.go:104", after := #[{ on := 9, ground := Ground.data }, { on := 21, ground := Ground.data }, { on := 6, ground := Ground.guard }], guard := some (6, false) } : Oper)) (v := ?_) rfl (by kernel_rfl) (by kernel_rfl) (by kernel_rfl) (fun _ _ _ h => h) (Or.inl ⟨by rfl, ?_⟩) (by assumption) ?_
          rotate_left
          · rintro w ⟨s0, s1, s2⟩; (try dsimp only); go_simp; first | done | with_reducible rfl
          try simp only [Act.put, List.setIfInBounds_toArray, List.set_cons_zero, List.set_cons_succ]
          refine wpAnyH_take (i := 23) (oi := ({ dst := some 36, op := Op.pick (Operand.tmp 19) (Operand.const (Value.bool true)) (Operand.tmp 35), type := 4, pos := "ref.go:104", after := #[{ on := 6, ground := Ground.data }, { on := 22, ground := Ground.data }], guard := none } : Oper)) (v := ?_) rfl (by kernel_rfl) (by kernel_rfl) (by kernel_rfl) (fun _ _ _ h => h) (Or.inl ⟨by rfl, ?_⟩) (by assumption) ?_
          rotate_left
          · rintro w ⟨s0, s1, s2⟩; (try dsimp only); go_simp; first | done | with_reducible rfl
          try simp only [Act.put, List.setIfInBounds_toArray, List.set_cons_zero, List.set_cons_succ]
          refine wpAnyH_done (by kernel_rfl) ?_ _
          go_wp2_with fail
          go_roundw
          case rel => exact ⟨i + 1, HLT.out, by go_num, HLN.out, HB5.out⟩
          case measure => have := HLT.out; simp [intOf]; omega
        · obtain ⟨j, hj⟩ : ∃ j, i = j + 1 := ⟨i - 1, by omega⟩
          have hjx : j < xs.length := by omega
          have hz : xs[j]? = some xs[j] := List.getElem?_eq_getElem hjx
          have hgt : decide ((0 : Int) < (i : Int)) = true := decide_eq_true (by omega)
          have hgn : decide (0 < i) = true := decide_eq_true (by omega)
          have y5 : 0 < i := by omega
          have hkj : IntKind.i64.wrap ((i : Int) - 1) = (j : Int) := by rw [IntKind.wrap_i64]; omega
          have y3 : (0 : Int) ≤ (j : Int) := by omega
          have y4 : (j : Int) < (n : Int) := by omega
          generalize xs[j] = y at *
          have HST := Lib.hid (fun X (hX : Below W2.heap.size W2 X) => show RowE a i x X ∧ RowE a j y X from ⟨HR1.out X hX, by
            obtain ⟨a', e, _, q0, q1, q2⟩ := (HX.out.below (HKW.out X hX).2.2.2.2.2).se3 hz
            obtain rfl := Option.some.inj e
            exact ⟨q0, q1, q2⟩⟩)
          by_cases hyx : seLt y x
          · have hge : decide (y.client ≥ x.client) = false := decide_eq_false (by unfold seLt at hyx; omega)
            have HLN := Lib.hid (HLI.out.next HXI.out HRT.out (.inr ⟨j, y, hj, hz, hyx⟩))
            clear hb hlt hli hy hix hbw hal hr hi hi0 hj hjx hz hyx
            go_wp2_with fail
            refine wp_region_held_drew (S := fun X => RowE a i x X ∧ RowE a j y X) (by kernel_rfl) (HST.out _ (below_drewN HB.out 1)) (fun hHeld => ?_)
            refine wpAnyH_take (i := 0) (oi := ({ dst := some 13, op := Op.move (Operand.tmp 1), type := 23, pos := "ref.go:104", after := #[], guard := none } : Oper)) (v := ?_) rfl (by kernel_rfl) (by kernel_rfl) (by kernel_rfl) (fun _ _ _ h => h) (Or.inl ⟨by rfl, ?_⟩) (by assumption) ?_
            rotate_left
            · rintro w ⟨⟨s0, s1, s2⟩, s3, s4, s5⟩; (try dsimp only); go_simp; first | done | with_reducible rfl
            try simp only [Act.put, List.setIfInBounds_toArray, List.set_cons_zero, List.set_cons_succ]
            refine wpAnyH_take (i := 1) (oi := ({ dst := some 14, op := Op.move (Operand.tmp 6), type := 3, pos := "ref.go:104", after := #[], guard := none } : Oper)) (v := ?_) rfl (by kernel_rfl) (by kernel_rfl) (by kernel_rfl) (fun _ _ _ h => h) (Or.inl ⟨by rfl, ?_⟩) (by assumption) ?_
            rotate_left
            · rintro w ⟨⟨s0, s1, s2⟩, s3, s4, s5⟩; (try dsimp only); go_simp; first | done | with_reducible rfl
            try simp only [Act.put, List.setIfInBounds_toArray, List.set_cons_zero, List.set_cons_succ]
            refine wpAnyH_take (i := 2) (oi := ({ dst := some 15, op := Op.indexAddr 23 (Operand.tmp 13) (Operand.tmp 14), type := 0, pos := "ref.go:104", after := #[{ on := 0, ground := Ground.data }, { on := 1, ground := Ground.data }], guard := none } : Oper)) (v := ?_) rfl (by kernel_rfl) (by kernel_rfl) (by kernel_rfl) (fun _ _ _ h => h) (Or.inl ⟨by rfl, ?_⟩) (by assumption) ?_
            rotate_left
            · rintro w ⟨⟨s0, s1, s2⟩, s3, s4, s5⟩; (try dsimp only); go_simp; first | done | with_reducible rfl
            try simp only [Act.put, List.setIfInBounds_toArray, List.set_cons_zero, List.set_cons_succ]
            refine wpAnyH_take (i := 3) (oi := ({ dst := some 16, op := Op.load 36 (Operand.tmp 15), type := 36, pos := "ref.go:104", after := #[{ on := 2, ground := Ground.data }], guard := none } : Oper)) (v := ?_) rfl (by kernel_rfl) (by kernel_rfl) (by kernel_rfl) (fun _ _ _ h => h) (Or.inl ⟨by rfl, ?_⟩) (by assumption) ?_
            rotate_left
            · rintro w ⟨⟨s0, s1, s2⟩, s3, s4, s5⟩; (try dsimp only); go_simp; first | done | with_reducible rfl
            try simp only [Act.put, List.setIfInBounds_toArray, List.set_cons_zero, List.set_cons_succ]
            refine wpAnyH_ready (rs := [4]) (by kernel_rfl) (by simp) ?_
            refine AllReadyH.cons (o := ({ dst := some 17, op := Op.call { callee := Callee.value (Operand.func 27), args := #[Operand.tmp 16], argTypes := #[36] }, type := 4, pos := "ref.go:104", after := #[{ on := 3, ground := Ground.data }], guard := none } : Oper)) rfl (fun K hK => ?_) AllReadyH.nil
            go_simp
            refine (HRG.out _).mono ?_
            rintro e w5 ⟨rfl, hb5⟩
            have HB5 := Lib.hid (HB.out.trans ((below_undrawn (n := 1) hb5).mono HB.out.size))
            clear hb5
            go_wp2_with fail
            refine hK.out _ _ (HST.out _ HB5.out) (fun hHeld => ?_)
            clear hK K
            try simp only [Act.put, List.setIfInBounds_toArray, List.set_cons_zero, List.set_cons_succ]
            refine wpAnyH_take (i := 5) (oi := ({ dst := some 18, op := Op.unOp UnOp.not 4 (Operand.tmp 17), type := 4, pos := "ref.go:104", after := #[{ on := 4, ground := Ground.data }], guard := none } : Oper)) (v := ?_) rfl (by kernel_rfl) (by kernel_rfl) (by kernel_rfl) (fun _ _ _ h => h) (Or.inl ⟨by rfl, ?_⟩) (by assumption) ?_
            rotate_left
            · rintro w ⟨⟨s0, s1, s2⟩, s3, s4, s5⟩; (try dsimp only); go_simp; first | done | with_reducible rfl
            try simp only [Act.put, List.setIfInBounds_toArray, List.set_cons_zero, List.set_cons_succ]
            refine wpAnyH_take (i := 6) (oi := ({ dst := some 19, op := Op.move (Operand.tmp 18), type := 4, pos := "ref.go:104", after := #[{ on := 5, ground := Ground.data }, { on := 4, ground := Ground.chain }], guard := none } : Oper)) (v := ?_) rfl (by kernel_rfl) (by kernel_rfl) (by kernel_rfl) (fun _ _ _ h => h) (Or.inl ⟨by rfl, ?_⟩) (by assumption) ?_
            rotate_left
            · rintro w ⟨⟨s0, s1, s2⟩, s3, s4, s5⟩; (try dsimp only); go_simp; first | done | with_reducible rfl
            try simp only [Act.put, List.setIfInBounds_toArray, List.set_cons_zero, List.set_cons_succ]
            refine wpAnyH_take (i := 7) (oi := ({ dst := some 20, op := Op.move (Operand.tmp 6), type := 3, pos := "ref.go:104", after := #[{ on := 6, ground := Ground.guard }], guard := some (6, false) } : Oper)) (v := ?_) rfl (by kernel_rfl) (by kernel_rfl) (by kernel_rfl) (fun _ _ _ h => h) (Or.inl ⟨by rfl, ?_⟩) (by assumption) ?_
            rotate_left
            · rintro w ⟨⟨s0, s1, s2⟩, s3, s4, s5⟩; (try dsimp only); go_simp; first | done | with_reducible rfl
            try simp only [Act.put, List.setIfInBounds_toArray, List.set_cons_zero, List.set_cons_succ]
            refine wpAnyH_take (i := 8) (oi := ({ dst := some 21, op := Op.binOp BinOp.gtr 3 (Operand.tmp 20) (Operand.const (Value.int IntKind.i64 0)) 3, type := 4, pos := "ref.go:104", after := #[{ on := 7, ground := Ground.data }, { on := 6, ground := Ground.guard }], guard := some (6, false) } : Oper)) (v := ?_) rfl (by kernel_rfl) (by kernel_rfl) (by kernel_rfl) (fun _ _ _ h => h) (Or.inl ⟨by rfl, ?_⟩) (by assumption) ?_
            rotate_left
            · rintro w ⟨⟨s0, s1, s2⟩, s3, s4, s5⟩; (try dsimp only); go_simp; first | done | with_reducible rfl
            try simp only [Act.put, List.setIfInBounds_toArray, List.set_cons_zero, List.set_cons_succ]
            refine wpAnyH_take (i := 9) (oi := ({ dst := some 22, op := Op.move (Operand.tmp 21), type := 4, pos := "ref.go:104", after := #[{ on := 8, ground := Ground.data }, { on := 6, ground := Ground.chain }, { on := 6, ground := Ground.guard }], guard := some (6, false) } : Oper)) (v := ?_) rfl (by kernel_rfl) (by kernel_rfl) (by kernel_rfl) (fun _ _ _ h => h) (Or.inl ⟨by rfl, ?_⟩) (by assumption) ?_
            rotate_left
            · rintro w ⟨⟨s0, s1, s2⟩, s3, s4, s5⟩; (try dsimp only); go_simp; first | done | with_reducible rfl
            try simp only [Act.put, List.setIfInBounds_toArray, List.set_cons_zero, List.set_cons_succ]
            refine wpAnyH_take (i := 10) (oi := ({ dst := some 23, op := Op.move (Operand.tmp 1), type := 23, pos := "ref.go:104", after := #[{ on := 9, ground := Ground.guard }], guard := some (9, true) } : Oper)) (v := ?_) rfl (by kernel_rfl) (by kernel_rfl) (by kernel_rfl) (fun _ _ _ h => h) (Or.inl ⟨by rfl, ?_⟩) (by assumption) ?_
            rotate_left
            · rintro w ⟨⟨s0, s1, s2⟩, s3, s4, s5⟩; (try dsimp only); go_simp; first | done | with_reducible rfl
            try simp only [Act.put, List.setIfInBounds_toArray, List.set_cons_zero, List.set_cons_succ]
            refine wpAnyH_take (i := 11) (oi := ({ dst := some 24, op := Op.move (Operand.tmp 6), type := 3, pos := "ref.go:104", after := #[{ on := 9, ground := Ground.guard }], guard := some (9, true) } : Oper)) (v := ?_) rfl (by kernel_rfl) (by kernel_rfl) (by kernel_rfl) (fun _ _ _ h => h) (Or.inl ⟨by rfl, ?_⟩) (by assumption) ?_
            rotate_left
            · rintro w ⟨⟨s0, s1, s2⟩, s3, s4, s5⟩; (try dsimp only); go_simp; first | done | with_reducible rfl
            try simp only [Act.put, List.setIfInBounds_toArray, List.set_cons_zero, List.set_cons_succ]
            refine wpAnyH_take (i := 12) (oi := ({ dst := some 25, op := Op.binOp BinOp.sub 3 (Operand.tmp 24) (Operand.const (Value.int IntKind.i64 1)) 3, type := 3, pos := "ref.go:104", after := #[{ on := 11, ground := Ground.data }, { on := 9, ground := Ground.guard }], guard := some (9, true) } : Oper)) (v := ?_) rfl (by kernel_rfl) (by kernel_rfl) (by kernel_rfl) (fun _ _ _ h => h) (Or.inl ⟨by rfl, ?_⟩) (by assumption) ?_
            rotate_left
            · rintro w ⟨⟨s0, s1, s2⟩, s3, s4, s5⟩; (try dsimp only); go_simp; first | done | with_reducible rfl
            try simp only [Act.put, List.setIfInBounds_toArray, List.set_cons_zero, List.set_cons_succ]
            refine wpAnyH_take (i := 13) (oi := ({ dst := some 26, op := Op.indexAddr 23 (Operand.tmp 23) (Operand.tmp 25), type := 0, pos := "ref.go:104", after := #[{ on := 10, ground := Ground.data }, { on := 12, ground := Ground.data }, { on := 9, ground := Ground.guard }], guard := some (9, true) } : Oper)) (v := ?_) rfl (by kernel_rfl) (by kernel_rfl) (by kernel_rfl) (fun _ _ _ h => h) (Or.inl ⟨by rfl, ?_⟩) (by assumption) ?_
            rotate_left
            · rintro w ⟨⟨s0, s1, s2⟩, s3, s4, s5⟩; (try dsimp only); go_simp; first | done | with_reducible rfl
            try simp only [Act.put, List.setIfInBounds_toArray, List.set_cons_zero, List.set_cons_succ]
            refine wpAnyH_take (i := 14) (oi := ({ dst := some 27, op := Op.fieldAddr 36 (Operand.tmp 26) 0, type := 0, pos := "ref.go:104", after := #[{ on := 13, ground := Ground.data }, { on := 9, ground := Ground.guard }], guard := some (9, true) } : Oper)) (v := ?_) rfl (by kernel_rfl) (by kernel_rfl) (by kernel_rfl) (fun _ _ _ h => h) (Or.inl ⟨by rfl, ?_⟩) (by assumption) ?_
            rotate_left
            · rintro w ⟨⟨s0, s1, s2⟩, s3, s4, s5⟩; (try dsimp only); go_simp; first | done | with_reducible rfl
            try simp only [Act.put, List.setIfInBounds_toArray, List.set_cons_zero, List.set_cons_succ]
            refine wpAnyH_take (i := 15) (oi := ({ dst := some 28, op := Op.load 3 (Operand.tmp 27), type := 3, pos := "ref.go:104", after := #[{ on := 14, ground := Ground.data }, { on := 9, ground := Ground.guard }], guard := some (9, true) } : Oper)) (v := ?_) rfl (by kernel_rfl) (by kernel_rfl) (by kernel_rfl) (fun _ _ _ h => h) (Or.inl ⟨by rfl, ?_⟩) (by assumption) ?_
            rotate_left
            · rintro w ⟨⟨s0, s1, s2⟩, s3, s4, s5⟩; (try dsimp only); go_simp; first | done | with_reducible rfl
            try simp only [Act.put, List.setIfInBounds_toArray, List.set_cons_zero, List.set_cons_succ]
            refine wpAnyH_take (i := 16) (oi := ({ dst := some 29, op := Op.move (Operand.tmp 1), type := 23, pos := "ref.go:104", after := #[{ on := 9, ground := Ground.guard }], guard := some (9, true) } : Oper)) (v := ?_) rfl (by kernel_rfl) (by kernel_rfl) (by kernel_rfl) (fun _ _ _ h => h) (Or.inl ⟨by rfl, ?_⟩) (by assumption) ?_
            rotate_left
            · rintro w ⟨⟨s0, s1, s2⟩, s3, s4, s5⟩; (try dsimp only); go_simp; first | done | with_reducible rfl
            try simp only [Act.put, List.setIfInBounds_toArray, List.set_cons_zero, List.set_cons_succ]
            refine wpAnyH_take (i := 17) (oi := ({ dst := some 30, op := Op.move (Operand.tmp 6), type := 3, pos := "ref.go:104", after := #[{ on := 9, ground := Ground.guard }], guard := some (9, true) } : Oper)) (v := ?_) rfl (by kernel_rfl) (by kernel_rfl) (by kernel_rfl) (fun _ _ _ h => h) (Or.inl ⟨by rfl, ?_⟩) (by assumption) ?_
            rotate_left
            · rintro w ⟨⟨s0, s1, s2⟩, s3, s4, s5⟩; (try dsimp only); go_simp; first | done | with_reducible rfl
            try simp only [Act.put, List.setIfInBounds_toArray, List.set_cons_zero, List.set_cons_succ]
            refine wpAnyH_take (i := 18) (oi := ({ dst := some 31, op := Op.indexAddr 23 (Operand.tmp 29) (Operand.tmp 30), type := 0, pos := "ref.go:104", after := #[{ on := 16, ground := Ground.data }, { on := 17, ground := Ground.data }, { on := 9, ground := Ground.guard }], guard := some (9, true) } : Oper)) (v := ?_) rfl (by kernel_rfl) (by kernel_rfl) (by kernel_rfl) (fun _ _ _ h => h) (Or.inl ⟨by rfl, ?_⟩) (by assumption) ?_
            rotate_left
            · rintro w ⟨⟨s0, s1, s2⟩, s3, s4, s5⟩; (try dsimp only); go_simp; first | done | with_reducible rfl
            try simp only [Act.put, List.setIfInBounds_toArray, List.set_cons_zero, List.set_cons_succ]
            refine wpAnyH_take (i := 19) (oi := ({ dst := some 32, op := Op.fieldAddr 36 (Operand.tmp 31) 0, type := 0, pos := "ref.go:104", after := #[{ on := 18, ground := Ground.data }, { on := 9, ground := Ground.guard }], guard := some (9, true) } : Oper)) (v := ?_) rfl (by kernel_rfl) (by kernel_rfl) (by kernel_rfl) (fun _ _ _ h => h) (Or.inl ⟨by rfl, ?_⟩) (by assumption) ?_
            rotate_left
            · rintro w ⟨⟨s0, s1, s2⟩, s3, s4, s5⟩; (try dsimp only); go_simp; first | done | with_reducible rfl
            try simp only [Act.put, List.setIfInBounds_toArray, List.set_cons_zero, List.set_cons_succ]
            refine wpAnyH_take (i := 20) (oi := ({ dst := some 33, op := Op.load 3 (Operand.tmp 32), type := 3, pos := "ref.go:104", after := #[{ on := 19, ground := Ground.data }, { on := 9, ground := Ground.guard }], guard := some (9, true) } : Oper)) (v := ?_) rfl (by kernel_rfl) (by kernel_rfl) (by kernel_rfl) (fun _ _ _ h => h) (Or.inl ⟨by rfl, ?_⟩) (by assumption) ?_
            rotate_left
            · rintro w ⟨⟨s0, s1, s2⟩, s3, s4, s5⟩; (try dsimp only); go_simp; first | done | with_reducible rfl
            try simp only [Act.put, List.setIfInBounds_toArray, List.set_cons_zero, List.set_cons_succ]
            refine wpAnyH_take (i := 21) (oi := ({ dst := some 34, op := Op.binOp BinOp.geq 3 (Operand.tmp 28) (Operand.tmp 33) 3, type := 4, pos := "ref.go:104", after := #[{ on := 15, ground := Ground.data }, { on := 20, ground := Ground.data }, { on := 9, ground := Ground.guard }], guard := some (9, true) } : Oper)) (v := ?_) rfl (by kernel_rfl) (by kernel_rfl) (by kernel_rfl) (fun _ _ _ h => h) (Or.inl ⟨by rfl, ?_⟩) (by assumption) ?_
            rotate_left
            · rintro w ⟨⟨s0, s1, s2⟩, s3, s4, s5⟩; (try dsimp only); go_simp; first | done | with_reducible rfl
            try simp only [Act.put, List.setIfInBounds_toArray, List.set_cons_zero, List.set_cons_succ]
            refine wpAnyH_take (i := 22) (oi := ({ dst := some 35, op := Op.pick (Operand.tmp 22) (Operand.tmp 34) (Operand.const (Value.bool false)), type := 4, pos := "ref.go:104", after := #[{ on := 9, ground := Ground.data }, { on := 21, ground := Ground.data }, { on := 6, ground := Ground.guard }], guard := some (6, false) } : Oper)) (v := ?_) rfl (by kernel_rfl) (by kernel_rfl) (by kernel_rfl) (fun _ _ _ h => h) (Or.inl ⟨by rfl, ?_⟩) (by assumption) ?_
            rotate_left
            · rintro w ⟨⟨s0, s1, s2⟩, s3, s4, s5⟩; (try dsimp only); go_simp; first | done | with_reducible rfl
            try simp only [Act.put, List.setIfInBounds_toArray, List.set_cons_zero, List.set_cons_succ]
            refine wpAnyH_take (i := 23) (oi := ({ dst := some 36, op := Op.pick (Operand.tmp 19) (Operand.const (Value.bool true)) (Operand.tmp 35), type := 4, pos := "ref.go:104", after := #[{ on := 6, ground := Ground.data }, { on := 22, ground := Ground.data }], guard := none } : Oper)) (v := ?_) rfl (by kernel_rfl) (by kernel_rfl) (by kernel_rfl) (fun _ _ _ h => h) (Or.inl ⟨by rfl, ?_⟩) (by assumption) ?_
            rotate_left
            · rintro w ⟨⟨s0, s1, s2⟩, s3, s4, s5⟩; (try dsimp only); go_simp; first | done | with_reducible rfl
            try simp only [Act.put, List.setIfInBounds_toArray, List.set_cons_zero, List.set_cons_succ]
            refine wpAnyH_done (by kernel_rfl) ?_ _
            go_wp2_with fail
            go_roundw
            case rel => exact ⟨i + 1, HLT.out, by go_num, HLN.out, HB5.out⟩
            case measure => have := HLT.out; simp [intOf]; omega
          · have hge : decide (y.client ≥ x.client) = true := decide_eq_true (by unfold seLt at hyx; omega)
            have HNO := Lib.hid (sload_bad (hj ▸ hy) hz hyx)
            clear hb hlt hli hy hix hbw hal hr hi hi0 hj hjx hz hyx
            go_wp2_with fail
            refine wp_region_held_drew (S := fun X => RowE a i x X ∧ RowE a j y X) (by kernel_rfl) (HST.out _ (below_drewN HB.out 1)) (fun hHeld => ?_)
            refine wpAnyH_take (i := 0) (oi := ({ dst := some 13, op := Op.move (Operand.tmp 1), type := 23, pos := "ref.go:104", after := #[], guard := none } : Oper)) (v := ?_) rfl (by kernel_rfl) (by kernel_rfl) (by kernel_rfl) (fun _ _ _ h => h) (Or.inl ⟨by rfl, ?_⟩) (by assumption) ?_
            rotate_left
            · rintro w ⟨⟨s0, s1, s2⟩, s3, s4, s5⟩; (try dsimp only); go_simp; first | done | with_reducible rfl
            try simp only [Act.put, List.setIfInBounds_toArray, List.set_cons_zero, List.set_cons_succ]
            refine wpAnyH_take (i := 1) (oi := ({ dst := some 14, op := Op.move (Operand.tmp 6), type := 3, pos := "ref.go:104", after := #[], guard := none } : Oper)) (v := ?_) rfl (by kernel_rfl) (by kernel_rfl) (by kernel_rfl) (fun _ _ _ h => h) (Or.inl ⟨by rfl, ?_⟩) (by assumption) ?_
            rotate_left
            · rintro w ⟨⟨s0, s1, s2⟩, s3, s4, s5⟩; (try dsimp only); go_simp; first | done | with_reducible rfl
            try simp only [Act.put, List.setIfInBounds_toArray, List.set_cons_zero, List.set_cons_succ]
            refine wpAnyH_take (i := 2) (oi := ({ dst := some 15, op := Op.indexAddr 23 (Operand.tmp 13) (Operand.tmp 14), type := 0, pos := "ref.go:104", after := #[{ on := 0, ground := Ground.data }, { on := 1, ground := Ground.data }], guard := none } : Oper)) (v := ?_) rfl (by kernel_rfl) (by kernel_rfl) (by kernel_rfl) (fun _ _ _ h => h) (Or.inl ⟨by rfl, ?_⟩) (by assumption) ?_
            rotate_left
            · rintro w ⟨⟨s0, s1, s2⟩, s3, s4, s5⟩; (try dsimp only); go_simp; first | done | with_reducible rfl
            try simp only [Act.put, List.setIfInBounds_toArray, List.set_cons_zero, List.set_cons_succ]
            refine wpAnyH_take (i := 3) (oi := ({ dst := some 16, op := Op.load 36 (Operand.tmp 15), type := 36, pos := "ref.go:104", after := #[{ on := 2, ground := Ground.data }], guard := none } : Oper)) (v := ?_) rfl (by kernel_rfl) (by kernel_rfl) (by kernel_rfl) (fun _ _ _ h => h) (Or.inl ⟨by rfl, ?_⟩) (by assumption) ?_
            rotate_left
            · rintro w ⟨⟨s0, s1, s2⟩, s3, s4, s5⟩; (try dsimp only); go_simp; first | done | with_reducible rfl
            try simp only [Act.put, List.setIfInBounds_toArray, List.set_cons_zero, List.set_cons_succ]
            refine wpAnyH_ready (rs := [4]) (by kernel_rfl) (by simp) ?_
            refine AllReadyH.cons (o := ({ dst := some 17, op := Op.call { callee := Callee.value (Operand.func 27), args := #[Operand.tmp 16], argTypes := #[36] }, type := 4, pos := "ref.go:104", after := #[{ on := 3, ground := Ground.data }], guard := none } : Oper)) rfl (fun K hK => ?_) AllReadyH.nil
            go_simp
            refine (HRG.out _).mono ?_
            rintro e w5 ⟨rfl, hb5⟩
            have HB5 := Lib.hid (HB.out.trans ((below_undrawn (n := 1) hb5).mono HB.out.size))
            clear hb5
            go_wp2_with fail
            refine hK.out _ _ (HST.out _ HB5.out) (fun hHeld => ?_)
            clear hK K
            try simp only [Act.put, List.setIfInBounds_toArray, List.set_cons_zero, List.set_cons_succ]
            refine wpAnyH_take (i := 5) (oi := ({ dst := some 18, op := Op.unOp UnOp.not 4 (Operand.tmp 17), type := 4, pos := "ref.go:104", after := #[{ on := 4, ground := Ground.data }], guard := none } : Oper)) (v := ?_) rfl (by kernel_rfl) (by kernel_rfl) (by kernel_rfl) (fun _ _ _ h => h) (Or.inl ⟨by rfl, ?_⟩) (by assumption) ?_
            rotate_left
            · rintro w ⟨⟨s0, s1, s2⟩, s3, s4, s5⟩; (try dsimp only); go_simp; first | done | with_reducible rfl
            try simp only [Act.put, List.setIfInBounds_toArray, List.set_cons_zero, List.set_cons_succ]
            refine wpAnyH_take (i := 6) (oi := ({ dst := some 19, op := Op.move (Operand.tmp 18), type := 4, pos := "ref.go:104", after := #[{ on := 5, ground := Ground.data }, { on := 4, ground := Ground.chain }], guard := none } : Oper)) (v := ?_) rfl (by kernel_rfl) (by kernel_rfl) (by kernel_rfl) (fun _ _ _ h => h) (Or.inl ⟨by rfl, ?_⟩) (by assumption) ?_
            rotate_left
            · rintro w ⟨⟨s0, s1, s2⟩, s3, s4, s5⟩; (try dsimp only); go_simp; first | done | with_reducible rfl
            try simp only [Act.put, List.setIfInBounds_toArray, List.set_cons_zero, List.set_cons_succ]
            refine wpAnyH_take (i := 7) (oi := ({ dst := some 20, op := Op.move (Operand.tmp 6), type := 3, pos := "ref.go:104", after := #[{ on := 6, ground := Ground.guard }], guard := some (6, false) } : Oper)) (v := ?_) rfl (by kernel_rfl) (by kernel_rfl) (by kernel_rfl) (fun _ _ _ h => h) (Or.inl ⟨by rfl, ?_⟩) (by assumption) ?_
            rotate_left
            · rintro w ⟨⟨s0, s1, s2⟩, s3, s4, s5⟩; (try dsimp only); go_simp; first | done | with_reducible rfl
            try simp only [Act.put, List.setIfInBounds_toArray, List.set_cons_zero, List.set_cons_succ]
            refine wpAnyH_take (i := 8) (oi := ({ dst := some 21, op := Op.binOp BinOp.gtr 3 (Operand.tmp 20) (Operand.const (Value.int IntKind.i64 0)) 3, type := 4, pos := "ref.go:104", after := #[{ on := 7, ground := Ground.data }, { on := 6, ground := Ground.guard }], guard := some (6, false) } : Oper)) (v := ?_) rfl (by kernel_rfl) (by kernel_rfl) (by kernel_rfl) (fun _ _ _ h => h) (Or.inl ⟨by rfl, ?_⟩) (by assumption) ?_
            rotate_left
            · rintro w ⟨⟨s0, s1, s2⟩, s3, s4, s5⟩; (try dsimp only); go_simp; first | done | with_reducible rfl
            try simp only [Act.put, List.setIfInBounds_toArray, List.set_cons_zero, List.set_cons_succ]
            refine wpAnyH_take (i := 9) (oi := ({ dst := some 22, op := Op.move (Operand.tmp 21), type := 4, pos := "ref.go:104", after := #[{ on := 8, ground := Ground.data }, { on := 6, ground := Ground.chain }, { on := 6, ground := Ground.guard }], guard := some (6, false) } : Oper)) (v := ?_) rfl (by kernel_rfl) (by kernel_rfl) (by kernel_rfl) (fun _ _ _ h => h) (Or.inl ⟨by rfl, ?_⟩) (by assumption) ?_
            rotate_left
            · rintro w ⟨⟨s0, s1, s2⟩, s3, s4, s5⟩; (try dsimp only); go_simp; first | done | with_reducible rfl
            try simp only [Act.put, List.setIfInBounds_toArray, List.set_cons_zero, List.set_cons_succ]
            refine wpAnyH_take (i := 10) (oi := ({ dst := some 23, op := Op.move (Operand.tmp 1), type := 23, pos := "ref.go:104", after := #[{ on := 9, ground := Ground.guard }], guard := some (9, true) } : Oper)) (v := ?_) rfl (by kernel_rfl) (by kernel_rfl) (by kernel_rfl) (fun _ _ _ h => h) (Or.inl ⟨by rfl, ?_⟩) (by assumption) ?_
            rotate_left
            · rintro w ⟨⟨s0, s1, s2⟩, s3, s4, s5⟩; (try dsimp only); go_simp; first | done | with_reducible rfl
            try simp only [Act.put, List.setIfInBounds_toArray, List.set_cons_zero, List.set_cons_succ]
            refine wpAnyH_take (i := 11) (oi := ({ dst := some 24, op := Op.move (Operand.tmp 6), type := 3, pos := "ref.go:104", after := #[{ on := 9, ground := Ground.guard }], guard := some (9, true) } : Oper)) (v := ?_) rfl (by kernel_rfl) (by kernel_rfl) (by kernel_rfl) (fun _ _ _ h => h) (Or.inl ⟨by rfl, ?_⟩) (by assumption) ?_
            rotate_left
            · rintro w ⟨⟨s0, s1, s2⟩, s3, s4, s5⟩; (try dsimp only); go_simp; first | done | with_reducible rfl
            try simp only [Act.put, List.setIfInBounds_toArray, List.set_cons_zero, List.set_cons_succ]
            refine wpAnyH_take (i := 12) (oi := ({ dst := some 25, op := Op.binOp BinOp.sub 3 (Operand.tmp 24) (Operand.const (Value.int IntKind.i64 1)) 3, type := 3, pos := "ref.go:104", after := #[{ on := 11, ground := Ground.data }, { on := 9, ground := Ground.guard }], guard := some (9, true) } : Oper)) (v := ?_) rfl (by kernel_rfl) (by kernel_rfl) (by kernel_rfl) (fun _ _ _ h => h) (Or.inl ⟨by rfl, ?_⟩) (by assumption) ?_
            rotate_left
            · rintro w ⟨⟨s0, s1, s2⟩, s3, s4, s5⟩; (try dsimp only); go_simp; first | done | with_reducible rfl
            try simp only [Act.put, List.setIfInBounds_toArray, List.set_cons_zero, List.set_cons_succ]
            refine wpAnyH_take (i := 13) (oi := ({ dst := some 26, op := Op.indexAddr 23 (Operand.tmp 23) (Operand.tmp 25), type := 0, pos := "ref.go:104", after := #[{ on := 10, ground := Ground.data }, { on := 12, ground := Ground.data }, { on := 9, ground := Ground.guard }], guard := some (9, true) } : Oper)) (v := ?_) rfl (by kernel_rfl) (by kernel_rfl) (by kernel_rfl) (fun _ _ _ h => h) (Or.inl ⟨by rfl, ?_⟩) (by assumption) ?_
            rotate_left
            · rintro w ⟨⟨s0, s1, s2⟩, s3, s4, s5⟩; (try dsimp only); go_simp; first | done | with_reducible rfl
            try simp only [Act.put, List.setIfInBounds_toArray, List.set_cons_zero, List.set_cons_succ]
            refine wpAnyH_take (i := 14) (oi := ({ dst := some 27, op := Op.fieldAddr 36 (Operand.tmp 26) 0, type := 0, pos := "ref.go:104", after := #[{ on := 13, ground := Ground.data }, { on := 9, ground := Ground.guard }], guard := some (9, true) } : Oper)) (v := ?_) rfl (by kernel_rfl) (by kernel_rfl) (by kernel_rfl) (fun _ _ _ h => h) (Or.inl ⟨by rfl, ?_⟩) (by assumption) ?_
            rotate_left
            · rintro w ⟨⟨s0, s1, s2⟩, s3, s4, s5⟩; (try dsimp only); go_simp; first | done | with_reducible rfl
            try simp only [Act.put, List.setIfInBounds_toArray, List.set_cons_zero, List.set_cons_succ]
            refine wpAnyH_take (i := 15) (oi := ({ dst := some 28, op := Op.load 3 (Operand.tmp 27), type := 3, pos := "ref.go:104", after := #[{ on := 14, ground := Ground.data }, { on := 9, ground := Ground.guard }], guard := some (9, true) } : Oper)) (v := ?_) rfl (by kernel_rfl) (by kernel_rfl) (by kernel_rfl) (fun _ _ _ h => h) (Or.inl ⟨by rfl, ?_⟩) (by assumption) ?_
            rotate_left
            · rintro w ⟨⟨s0, s1, s2⟩, s3, s4, s5⟩; (try dsimp only); go_simp; first | done | with_reducible rfl
            try simp only [Act.put, List.setIfInBounds_toArray, List.set_cons_zero, List.set_cons_succ]
            refine wpAnyH_take (i := 16) (oi := ({ dst := some 29, op := Op.move (Operand.tmp 1), type := 23, pos := "ref.go:104", after := #[{ on := 9, ground := Ground.guard }], guard := some (9, true) } : Oper)) (v := ?_) rfl (by kernel_rfl) (by kernel_rfl) (by kernel_rfl) (fun _ _ _ h => h) (Or.inl ⟨by rfl, ?_⟩) (by assumption) ?_
            rotate_left
            · rintro w ⟨⟨s0, s1, s2⟩, s3, s4, s5⟩; (try dsimp only); go_simp; first | done | with_reducible rfl
            try simp only [Act.put, List.setIfInBounds_toArray, List.set_cons_zero, List.set_cons_succ]
            refine wpAnyH_take (i := 17) (oi := ({ dst := some 30, op := Op.move (Operand.tmp 6), type := 3, pos := "ref.go:104", after := #[{ on := 9, ground := Ground.guard }], guard := some (9, true) } : Oper)) (v := ?_) rfl (by kernel_rfl) (by kernel_rfl) (by kernel_rfl) (fun _ _ _ h => h) (Or.inl ⟨by rfl, ?_⟩) (by assumption) ?_
            rotate_left
            · rintro w ⟨⟨s0, s1, s2⟩, s3, s4, s5⟩; (try dsimp only); go_simp; first | done | with_reducible rfl
            try simp only [Act.put, List.setIfInBounds_toArray, List.set_cons_zero, List.set_cons_succ]
            refine wpAnyH_take (i := 18) (oi := ({ dst := some 31, op := Op.indexAddr 23 (Operand.tmp 29) (Operand.tmp 30), type := 0, pos := "ref.go:104", after := #[{ on := 16, ground := Ground.data }, { on := 17, ground := Ground.data }, { on := 9, ground := Ground.guard }], guard := some (9, true) } : Oper)) (v := ?_) rfl (by kernel_rfl) (by kernel_rfl) (by kernel_rfl) (fun _ _ _ h => h) (Or.inl ⟨by rfl, ?_⟩) (by assumption) ?_
            rotate_left
            · rintro w ⟨⟨s0, s1, s2⟩, s3, s4, s5⟩; (try dsimp only); go_simp; first | done | with_reducible rfl
            try simp only [Act.put, List.setIfInBounds_toArray, List.set_cons_zero, List.set_cons_succ]
            refine wpAnyH_take (i := 19) (oi := ({ dst := some 32, op := Op.fieldAddr 36 (Operand.tmp 31) 0, type := 0, pos := "ref.go:104", after := #[{ on := 18, ground := Ground.data }, { on := 9, ground := Ground.guard }], guard := some (9, true) } : Oper)) (v := ?_) rfl (by kernel_rfl) (by kernel_rfl) (by kernel_rfl) (fun _ _ _ h => h) (Or.inl ⟨by rfl, ?_⟩) (by assumption) ?_
            rotate_left
            · rintro w ⟨⟨s0, s1, s2⟩, s3, s4, s5⟩; (try dsimp only); go_simp; first | done | with_reducible rfl
            try simp only [Act.put, List.setIfInBounds_toArray, List.set_cons_zero, List.set_cons_succ]
            refine wpAnyH_take (i := 20) (oi := ({ dst := some 33, op := Op.load 3 (Operand.tmp 32), type := 3, pos := "ref.go:104", after := #[{ on := 19, ground := Ground.data }, { on := 9, ground := Ground.guard }], guard := some (9, true) } : Oper)) (v := ?_) rfl (by kernel_rfl) (by kernel_rfl) (by kernel_rfl) (fun _ _ _ h => h) (Or.inl ⟨by rfl, ?_⟩) (by assumption) ?_
            rotate_left
            · rintro w ⟨⟨s0, s1, s2⟩, s3, s4, s5⟩; (try dsimp only); go_simp; first | done | with_reducible rfl
            try simp only [Act.put, List.setIfInBounds_toArray, List.set_cons_zero, List.set_cons_succ]
            refine wpAnyH_take (i := 21) (oi := ({ dst := some 34, op := Op.binOp BinOp.geq 3 (Operand.tmp 28) (Operand.tmp 33) 3, type := 4, pos := "ref.go:104", after := #[{ on := 15, ground := Ground.data }, { on := 20, ground := Ground.data }, { on := 9, ground := Ground.guard }], guard := some (9, true) } : Oper)) (v := ?_) rfl (by kernel_rfl) (by kernel_rfl) (by kernel_rfl) (fun _ _ _ h => h) (Or.inl ⟨by rfl, ?_⟩) (by assumption) ?_
            rotate_left
            · rintro w ⟨⟨s0, s1, s2⟩, s3, s4, s5⟩; (try dsimp only); go_simp; first | done | with_reducible rfl
            try simp only [Act.put, List.setIfInBounds_toArray, List.set_cons_zero, List.set_cons_succ]
            refine wpAnyH_take (i := 22) (oi := ({ dst := some 35, op := Op.pick (Operand.tmp 22) (Operand.tmp 34) (Operand.const (Value.bool false)), type := 4, pos := "ref.go:104", after := #[{ on := 9, ground := Ground.data }, { on := 21, ground := Ground.data }, { on := 6, ground := Ground.guard }], guard := some (6, false) } : Oper)) (v := ?_) rfl (by kernel_rfl) (by kernel_rfl) (by kernel_rfl) (fun _ _ _ h => h) (Or.inl ⟨by rfl, ?_⟩) (by assumption) ?_
            rotate_left
            · rintro w ⟨⟨s0, s1, s2⟩, s3, s4, s5⟩; (try dsimp only); go_simp; first | done | with_reducible rfl
            try simp only [Act.put, List.setIfInBounds_toArray, List.set_cons_zero, List.set_cons_succ]
            refine wpAnyH_take (i := 23) (oi := ({ dst := some 36, op := Op.pick (Operand.tmp 19) (Operand.const (Value.bool true)) (Operand.tmp 35), type := 4, pos := "ref.go:104", after := #[{ on := 6, ground := Ground.data }, { on := 22, ground := Ground.data }], guard := none } : Oper)) (v := ?_) rfl (by kernel_rfl) (by kernel_rfl) (by kernel_rfl) (fun _ _ _ h => h) (Or.inl ⟨by rfl, ?_⟩) (by assumption) ?_
            rotate_left
            · rintro w ⟨⟨s0, s1, s2⟩, s3, s4, s5⟩; (try dsimp only); go_simp; first | done | with_reducible rfl
            try simp only [Act.put, List.setIfInBounds_toArray, List.set_cons_zero, List.set_cons_succ]
            refine wpAnyH_done (by kernel_rfl) ?_ _
            obtain ⟨j9, z1, z0, kr, -, hbw⟩ := HKW.out _ HB5.out
            have HKR := Lib.hid kr
            have HBW := Lib.hid hbw
            have m2 := kr.at_ (i := 0) rfl
            clear kr hbw
            go_wp2_with fail
            have kk := HKR.out.set 0 (.slice A t.length c)
            refine bodyPost_ret_by (results_row_tmp rfl _ _ (w.heap.size + 1) 29 _ _ rfl kk Try.underlying29 rfl info_rbook1) rfl ?_
            rw [seLoaded, seTakes, decide_eq_false HNO.out, if_neg (by decide)]
            exact refb_exit HT.out HBW.out (by omega) _ [.bool false]
    · have HOK := Lib.hid (show SOk xs from SInv.done (by rw [show xs.length = i by have := HL.out; omega]; exact hli))
      obtain ⟨j0, z1, z0, kr, ks, hbw⟩ := HKW.out wr hb
      have HCP := Lib.hid (show Calls Try.prog 10 #[.slice LA n lc] wr (FreshE xs wr) from by
        have := copyE_any LA lc xs FX wr (HX.out.below hbw) (by have := HNL.out; omega)
        rwa [HL.out] at this)
      have HB := Lib.hid hb
      clear hb hli kr ks hbw hi j0 z0 z1
      go_wp2_with fail
      refine HCP.out.mono ?_
      rintro e w6 ⟨A6, c6, rfl, ho6, hb6⟩
      obtain ⟨j0, z1, z0, kr, ks, hbw⟩ := HKW.out w6 (HB.out.trans (hb6.mono HB.out.size))
      have HKR := Lib.hid kr
      have HBW := Lib.hid hbw
      have HO := Lib.hid (ho6.more HB.out.size)
      have m2 := kr.at_ (i := 0) rfl
      clear hb6 ho6 kr ks hbw HCP
      go_wp2_with fail
      have kk := (HKR.out.far (p := ⟨w.heap.size, 0, none⟩) (by show w.heap.size + 1 ≠ w.heap.size; omega) (.slice A6 xs.length c6)).set 0 (.slice A6 xs.length c6)
      refine bodyPost_ret_by (results_row_tmp rfl _ _ (w.heap.size + 1) 29 _ _ rfl kk Try.underlying29 rfl info_rbook1) rfl ?_
      rw [seLoaded, seTakes, decide_eq_true HOK.out, if_pos rfl]
      have g0 := grown_set (grown_refl w6 (some w.heap.size)) 0 (.slice A6 xs.length c6)
      have hs := HS2.out
      exact refb_done (HBW.out.grown g0 HBW.out.size (fun b hb => Nat.le_of_eq (Option.some.inj hb))) (World.ownsRow.kept HO.out g0 (.inr fun e => by have := HO.out.block _ e; omega)) (by omega) (show w.heap.size + 1 < W2.heap.size by omega) _ [.bool true]
end Go.Proofs.Ytfbdmemjojjgnaa
