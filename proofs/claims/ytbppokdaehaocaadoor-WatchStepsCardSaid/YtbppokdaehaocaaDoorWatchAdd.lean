/-
  Watches: a table is made; a watch is added. Walks; no statement.
-/
import Derived.Test.YtbppokdaehaocaaDoorWatchIns3
namespace Go.Proofs.YtbppokdaehaocaaDoor
set_option maxRecDepth 100000
open Go.RowKit
set_option linter.unusedVariables false

/-- a new table -/
def NewW (t : List Wt) (w : World) (e : Ending) (w' : World) : Prop :=
  ∃ g F, e = .returned (.pointer (some ⟨g, 0, none⟩)) ∧ TbAt F w' g t ∧ (∀ k, F k → w.heap.size ≤ k) ∧ Below w.heap.size w w'
theorem newW_any (w : World) : Calls Tryd.prog 10 #[] w (NewW [] w) := by
  have HK := Lib.hid (Bk.new w 59 [.slice none 0 0])
  have HB := Lib.hid ((Below.refl w.heap.size w).alloc (Nat.le_refl _) (.cells #[.slice none 0 0] 59))
  go_enter Tryd.func10, Tryd.ntmps10
  go_wp2_with fail
  go_ret
  exact ⟨w.heap.size, fun k => k = w.heap.size, rfl, ⟨none, 0, 0, HK.out, rfl, OwnW.nil_ _ _, fun b hb => by cases hb⟩, fun k hk => by omega, HB.out⟩
/-- the cells of a box of a watch -/
def Box3 (b : Nat) (x : Wt) (W : World) : Prop := W.cell? ⟨b, 0, none⟩ = some (.int .i64 x.client) ∧ W.cell? ⟨b, 1, none⟩ = some (.int .i64 x.kind) ∧ W.cell? ⟨b, 2, none⟩ = some (.string ⟨x.path.toArray⟩)
/-- behind the store: the table with one more -/
theorem addW_end {F : Nat → Prop} {g n c c' : Nat} {A A' : Option Addr} {t t' : List Wt} {x : Wt} {w w4 w5 w7 : World} (hb4 : Below w.heap.size w w4) (hb5 : Below w4.heap.size w4 w5) (hq4 : Bk w4 g 59 [.slice A n c])
    (ho4 : OwnW w 0 A n c t) (hrow : F g ∧ ∀ b, (Value.slice A n c).ownBlock = some b → F b ∧ b ≠ g) (ho7 : OwnW w7 0 A' (n + 1) c' t')
    (hg7 : (w5.alloc (.cells #[.int .i64 x.client, .int .i64 x.kind, .string ⟨x.path.toArray⟩] 31)).grownBy w7 (Value.slice A n c).ownBlock)
    (hr7 : (Value.slice A' (n + 1) c').ownBlock = (Value.slice A n c).ownBlock ∨ ∀ b, (Value.slice A' (n + 1) c').ownBlock = some b → (w5.alloc (.cells #[.int .i64 x.client, .int .i64 x.kind, .string ⟨x.path.toArray⟩] 31)).heap.size ≤ b)
    (hq7 : Bk w7 g 59 [.slice A n c]) : WDid F g t' (.int .i64 0) w (.returned (.int .i64 0)) (w7.setCell ⟨g, 0, none⟩ (.slice A' (n + 1) c')) := by
  have hb6 : Below w.heap.size w (w5.alloc (.cells #[.int .i64 x.client, .int .i64 x.kind, .string ⟨x.path.toArray⟩] 31)) := (hb4.trans (hb5.mono hb4.size)).alloc (Nat.le_trans hb4.size hb5.size) _
  have hgl : g < w4.heap.size := hq4.lt
  have hs6 : w4.heap.size ≤ (w5.alloc (.cells #[.int .i64 x.client, .int .i64 x.kind, .string ⟨x.path.toArray⟩] 31)).heap.size := by have := hb5.size; simp; omega
  have hne : ∀ b, (Value.slice A' (n + 1) c').ownBlock = some b → b ≠ g := fun b hb => by
    rcases hr7 with e | e
    · exact (hrow.2 b (by rw [← e]; exact hb)).2
    · have := e b hb; omega
  have hc7 : Chg F w w7 := (Chg.of_below F hb6).grown hg7 fun b hb => .inl (hrow.2 b hb).1
  refine ⟨rfl, fun k => F k ∨ w.heap.size ≤ k, ⟨A', n + 1, c', hq7.set 0 _, .inl hrow.1, ?_, fun b hb => ⟨?_, hne b hb⟩⟩, fun k hk => hk, hc7.set (.inl hrow.1) 0 _⟩
  · exact World.ownsRow.kept ho7 (grown_set (grown_refl w7 (some g)) 0 _) (.inr fun e => hne g e rfl)
  · rcases hr7 with e | e
    · exact .inl (hrow.2 b (by rw [← e]; exact hb)).1
    · right
      have h1 := e b hb
      have h2 := hb6.size
      omega
/-- the cells of a box of a watch and of a table's struct -/
def Box4 (b g : Nat) (x : Wt) (v : Value) (W : World) : Prop :=
  W.cell? ⟨b, 0, none⟩ = some (.int .i64 x.client) ∧ W.cell? ⟨b, 1, none⟩ = some (.int .i64 x.kind) ∧ W.cell? ⟨b, 2, none⟩ = some (.string ⟨x.path.toArray⟩) ∧ W.cell? ⟨g, 0, none⟩ = some v
theorem Box4.kept {b g : Nat} {x : Wt} {v : Value} {W W' : World} (h : Box4 b g x v W) (hb : Below W.heap.size W W') : Box4 b g x v W' :=
  ⟨cell_kept h.1 hb, cell_kept h.2.1 hb, cell_kept h.2.2.1 hb, cell_kept h.2.2.2 hb⟩
set_option maxHeartbeats 3200000 in
theorem addW_any (F : Nat → Prop) (g : Nat) (t : List Wt) (x : Wt) (w : World) (hE : Env w) (hT : TbAt F w g t) (hs : t.Pairwise wLt) (hn : t.length ≤ 1000) :
    Calls Tryd.prog 12 #[.pointer (some ⟨g, 0, none⟩), .agg (wtC x).toArray] w (WDid F g (wAdd x t).1 (.int .i64 (wAdd x t).2) w) := by
  show Calls _ _ #[_, .agg #[.int .i64 x.client, .int .i64 x.kind, .string ⟨x.path.toArray⟩]] _ _
  obtain ⟨W1, hW1⟩ : ∃ W1, W1 = w.alloc (.cells #[.int .i64 x.client, .int .i64 x.kind, .string ⟨x.path.toArray⟩] 31) := ⟨_, rfl⟩
  have hb1 : Below w.heap.size w W1 := by rw [hW1]; exact (Below.refl _ _).alloc (Nat.le_refl _) _
  have hk1 : Bk W1 w.heap.size 31 [.int .i64 x.client, .int .i64 x.kind, .string ⟨x.path.toArray⟩] := by rw [hW1]; exact Bk.new w 31 [.int .i64 x.client, .int .i64 x.kind, .string ⟨x.path.toArray⟩]
  have HWE := Lib.hid hW1
  have HB1 := Lib.hid hb1
  have HK1 := Lib.hid hk1
  have HT := Lib.hid hT
  have HS := Lib.hid hs
  have HN := Lib.hid hn
  have HR := Lib.hid (fun W (h : Below w.heap.size w W) => show Calls Tryd.prog 13 #[.agg #[.int .i64 x.client, .int .i64 x.kind, .string ⟨x.path.toArray⟩]] W (Ans (.bool (wRight x)) W) from right_any x W (hE.below h))
  obtain ⟨j0, j1, j2⟩ := hk1.three
  have hT1 := hT.below hb1
  cases hr : wRight x with
  | false =>
    have HA := Lib.hid (show wAdd x t = (t, 90) by unfold wAdd; rw [if_pos hr])
    rw [hr] at HR
    clear hb1 hk1 hW1 hT1 hT hs hn hE hr
    go_enter Tryd.func12, Tryd.ntmps12
    go_wp2_with fail
    rw [← HWE.out]
    refine (HR.out _ HB1.out).mono ?_
    rintro e w2 ⟨rfl, hb2⟩
    have HB2 := Lib.hid (HB1.out.trans (hb2.mono HB1.out.size))
    clear hb2
    go_wp2_with fail
    go_ret
    rw [HA.out]
    exact ⟨rfl, F, HT.out.below HB2.out, fun k hk => .inl hk, Chg.of_below F HB2.out⟩
  | true =>
    have HRT := Lib.hid hr
    rw [hr] at HR
    clear hb1 hk1 hW1 hT1 hT hs hn hr
    go_enter Tryd.func12, Tryd.ntmps12
    go_wp2_with fail
    rw [← HWE.out]
    refine (HR.out _ HB1.out).mono ?_
    rintro e w2 ⟨rfl, hb2⟩
    have HB2 := Lib.hid (HB1.out.trans (hb2.mono HB1.out.size))
    have HK2 := Lib.hid (HK1.out.kept hb2)
    obtain ⟨A, n, c, q00, hFg, how, hrow⟩ := HT.out
    have HOW := Lib.hid how
    have q0 := q00.kept HB2.out
    have ho := how.below HB2.out
    have HO := Lib.hid ho
    have HQ := Lib.hid q0
    have HROW := Lib.hid (And.intro hFg hrow)
    have hq := q0.at_ (i := 0) rfl
    obtain ⟨k0, k1, k2⟩ := HK2.out.three
    have HX4 := Lib.hid (show Box4 w.heap.size g x (.slice A n c) w2.drew from ⟨k0, k1, k2, hq⟩)
    have hlen : n ≤ 1000 := by have := ho.len; have := HN.out; omega
    have HSE := Lib.hid (fun W (h : Below w2.heap.size w2 W) => show Calls Tryd.prog 29 #[.slice A n c, .agg #[.int .i64 x.client, .int .i64 x.kind, .string ⟨x.path.toArray⟩], .func (.func 30) #[] #[]] W (Ans (.tuple #[.int .i64 (wAt x t : Nat), .bool (decide (x ∈ t))]) W) from search_any A n c t x W (ho.below h) HS.out (by omega))
    clear hb2 q0 q00 ho how hrow hFg j0 j1 j2
    by_cases hx : x ∈ t
    · have HA := Lib.hid (show wAdd x t = (t, 0) by unfold wAdd; rw [if_neg (by rw [HRT.out]; simp), if_pos hx])
      rw [show decide (x ∈ t) = true by simpa using hx] at HSE
      clear hx
      go_wp2_with fail
      go_region_held3 (fun W => W.cell? ⟨w.heap.size, 0, none⟩ = some (.int .i64 x.client) ∧ W.cell? ⟨w.heap.size, 1, none⟩ = some (.int .i64 x.kind) ∧ W.cell? ⟨w.heap.size, 2, none⟩ = some (.string ⟨x.path.toArray⟩) ∧ W.cell? ⟨g, 0, none⟩ = some (.slice A n c))
        (first | exact HX4.out | exact HX4.out.kept (by assumption))
        (first | (go_at_call 29; refine (HSE.out _ (below_drewN (Below.refl _ _) 1)).mono ?_; rintro e w3 ⟨rfl, hb3⟩))
      have HB3 := Lib.hid (HB2.out.trans ((below_undrawn (n := 1) hb3).mono HB2.out.size))
      clear hb3 k0 k1 k2
      go_wp2_with fail
      go_ret
      rw [HA.out]
      exact ⟨rfl, F, HT.out.below HB3.out, fun k hk => .inl hk, Chg.of_below F HB3.out⟩
    · have HNX := Lib.hid hx
      rw [show decide (x ∈ t) = false by simpa using hx] at HSE
      clear hx
      go_wp2_with fail
      go_region_held3 (fun W => W.cell? ⟨w.heap.size, 0, none⟩ = some (.int .i64 x.client) ∧ W.cell? ⟨w.heap.size, 1, none⟩ = some (.int .i64 x.kind) ∧ W.cell? ⟨w.heap.size, 2, none⟩ = some (.string ⟨x.path.toArray⟩) ∧ W.cell? ⟨g, 0, none⟩ = some (.slice A n c))
        (first | exact HX4.out | exact HX4.out.kept (by assumption))
        (first | (go_at_call 29; refine (HSE.out _ (below_drewN (Below.refl _ _) 1)).mono ?_; rintro e w3 ⟨rfl, hb3⟩))
      have HB3 := Lib.hid (HB2.out.trans ((below_undrawn (n := 1) hb3).mono HB2.out.size))
      have HK3 := Lib.hid (HK2.out.kept (below_undrawn (n := 1) hb3))
      have HO3 := Lib.hid (HO.out.below (below_undrawn (n := 1) hb3))
      have HQ3 := Lib.hid (HQ.out.kept (below_undrawn (n := 1) hb3))
      have HT3 := Lib.hid (HT.out.below HB3.out)
      have HCT := Lib.hid (count_any F g t x.client w3 HT3.out (by have := HN.out; omega))
      clear hb3 k0 k1 k2
      obtain ⟨m, hm⟩ : ∃ m : Nat, m = wOf x.client t := ⟨_, rfl⟩
      have hml : m ≤ 1000 := by have := wOf_le x.client t; have := HN.out; omega
      rw [← hm] at HCT
      by_cases h8 : 8 ≤ m
      · have HA := Lib.hid (show wAdd x t = (t, 104) by unfold wAdd; rw [if_neg (by rw [HRT.out]; simp), if_neg HNX.out, if_pos (by omega)])
        have hm8 : decide ((m : Int) ≥ 8) = true := decide_eq_true (by omega)
        clear hm
        go_wp2_with fail
        refine HCT.out.mono ?_
        rintro e w4 ⟨rfl, hb4⟩
        have HB4 := Lib.hid (HB3.out.trans (hb4.mono HB3.out.size))
        clear hb4
        go_wp2_with fail
        go_ret
        rw [HA.out]
        exact ⟨rfl, F, HT.out.below HB4.out, fun k hk => .inl hk, Chg.of_below F HB4.out⟩
      · have HA := Lib.hid (show wAdd x t = (wIns x t, 0) by unfold wAdd; rw [if_neg (by rw [HRT.out]; simp), if_neg HNX.out, if_neg (by omega)])
        have hm8 : decide ((m : Int) ≥ 8) = false := decide_eq_false (by omega)
        have HCP := Lib.hid (fun W => show Calls Tryd.prog 33 #[.agg #[.int .i64 x.client, .int .i64 x.kind, .string ⟨x.path.toArray⟩]] W (Ans (.agg #[.int .i64 x.client, .int .i64 x.kind, .string ⟨x.path.toArray⟩]) W) from copiedW_any x W (wRight_path HRT.out))
        clear hm
        go_wp2_with fail
        refine HCT.out.mono ?_
        rintro e w4 ⟨rfl, hb4⟩
        have HB4 := Lib.hid (HB3.out.trans (hb4.mono HB3.out.size))
        have HO4 := Lib.hid (HO3.out.below hb4)
        have HOC := Lib.hid (show OwnW w 0 A n c t from HOW.out)
        have HQ4 := Lib.hid (HQ3.out.kept hb4)
        have HK4 := Lib.hid (show Bk w4.drew w.heap.size 31 [.int .i64 x.client, .int .i64 x.kind, .string ⟨x.path.toArray⟩] from (HK3.out.kept hb4).drewN 1)
        have HB4d := Lib.hid (below_drewN (Below.refl w4.heap.size w4) 1)
        have HST := Lib.hid (fun X (h : Bk X w.heap.size 31 [.int .i64 x.client, .int .i64 x.kind, .string ⟨x.path.toArray⟩]) => (show Box3 w.heap.size x X from h.three))
        have m4 : w4.drew.cell? ⟨g, 0, none⟩ = some (.slice A n c) := HQ4.out.at_ rfl
        have HGW := Lib.hid (show w.heap.size ≠ g by have := HT.out.lt; omega)
        have HROWB := Lib.hid (show some w.heap.size ≠ (Value.slice A n c).ownBlock from fun e => by have := HOW.out.lt _ e.symm; omega)
        have HIN := Lib.hid (fun W (hW : Below w4.heap.size w4 W) => show Calls Tryd.prog 32 #[.slice A n c, .int .i64 (wAt x t : Nat), .slice (some ⟨W.heap.size, 0, none⟩) 1 1] (W.alloc (.cells #[.int .i64 x.client, .int .i64 x.kind, .string ⟨x.path.toArray⟩] 31)) (InsP A n c (wIns x t) (W.alloc (.cells #[.int .i64 x.client, .int .i64 x.kind, .string ⟨x.path.toArray⟩] 31))) from by
          rw [← wIns_at HS.out HNX.out]
          exact insert_any A n c (wAt x t) W.heap.size t x _ ((HO4.out.below hW).alloc _) (Bk.new W 31 (wtC x)) (fun b hb => by have h1 := HO4.out.lt b hb; have h2 := hW.size; omega) (by have := wAt_le x t; have := HO4.out.len; omega) (by omega))
        have HQ6 := Lib.hid (fun W (hW : Below w4.heap.size w4 W) W' (hg : (W.alloc (.cells #[.int .i64 x.client, .int .i64 x.kind, .string ⟨x.path.toArray⟩] 31)).grownBy W' (Value.slice A n c).ownBlock) => show Bk W' g 59 [.slice A n c] from ((HQ4.out.kept hW).alloc _).grown hg fun e => (HROW.out.2 g e.symm).2 rfl)
        clear hb4
        go_wp2_with fail
        refine wp_region_held_drew (S := fun X => Box3 w.heap.size x X) (by kernel_rfl) (HST.out _ HK4.out) (fun hHeld => ?_)
        refine wpAnyH_take (i := 0) (oi := ({ dst := some 25, op := Op.move (Operand.tmp 0), type := 25, pos := "watch.go:40", after := #[], guard := none } : Oper)) (v := ?_) rfl (by kernel_rfl) (by kernel_rfl) (by kernel_rfl) (fun _ _ _ h => h) (Or.inl ⟨by rfl, ?_⟩) (by assumption) ?_
        rotate_left
        · rintro w ⟨s0, s1, s2⟩; (try dsimp only); go_simp; first | done | with_reducible rfl
        try simp only [Act.put, List.setIfInBounds_toArray, List.set_cons_zero, List.set_cons_succ]
        refine wpAnyH_take (i := 1) (oi := ({ dst := some 26, op := Op.move (Operand.tmp 0), type := 25, pos := "watch.go:40", after := #[], guard := none } : Oper)) (v := ?_) rfl (by kernel_rfl) (by kernel_rfl) (by kernel_rfl) (fun _ _ _ h => h) (Or.inl ⟨by rfl, ?_⟩) (by assumption) ?_
        rotate_left
        · rintro w ⟨s0, s1, s2⟩; (try dsimp only); go_simp; first | done | with_reducible rfl
        try simp only [Act.put, List.setIfInBounds_toArray, List.set_cons_zero, List.set_cons_succ]
        refine wpAnyH_take (i := 2) (oi := ({ dst := some 27, op := Op.nilCheck (Operand.tmp 26), type := 0, pos := "watch.go:40", after := #[{ on := 1, ground := Ground.data }], guard := none } : Oper)) (v := ?_) rfl (by kernel_rfl) (by kernel_rfl) (by kernel_rfl) (fun _ _ _ h => h) (Or.inl ⟨by rfl, ?_⟩) (by assumption) ?_
        rotate_left
        · rintro w ⟨s0, s1, s2⟩; (try dsimp only); go_simp; first | done | with_reducible rfl
        try simp only [Act.put, List.setIfInBounds_toArray, List.set_cons_zero, List.set_cons_succ]
        refine wpAnyH_take (i := 3) (oi := ({ dst := some 28, op := Op.fieldAddr 59 (Operand.tmp 27) 0, type := 0, pos := "watch.go:40", after := #[{ on := 2, ground := Ground.data }], guard := none } : Oper)) (v := ?_) rfl (by kernel_rfl) (by kernel_rfl) (by kernel_rfl) (fun _ _ _ h => h) (Or.inl ⟨by rfl, ?_⟩) (by assumption) ?_
        rotate_left
        · rintro w ⟨s0, s1, s2⟩; (try dsimp only); go_simp; first | done | with_reducible rfl
        try simp only [Act.put, List.setIfInBounds_toArray, List.set_cons_zero, List.set_cons_succ]
        refine wpAnyH_take (i := 5) (oi := ({ dst := some 30, op := Op.move (Operand.tmp 5), type := 3, pos := "watch.go:40", after := #[], guard := none } : Oper)) (v := ?_) rfl (by kernel_rfl) (by kernel_rfl) (by kernel_rfl) (fun _ _ _ h => h) (Or.inl ⟨by rfl, ?_⟩) (by assumption) ?_
        rotate_left
        · rintro w ⟨s0, s1, s2⟩; (try dsimp only); go_simp; first | done | with_reducible rfl
        try simp only [Act.put, List.setIfInBounds_toArray, List.set_cons_zero, List.set_cons_succ]
        refine wpAnyH_take (i := 6) (oi := ({ dst := some 31, op := Op.load 31 (Operand.tmp 3), type := 31, pos := "watch.go:40", after := #[], guard := none } : Oper)) (v := ?_) rfl (by kernel_rfl) (by kernel_rfl) (by kernel_rfl) (fun _ _ _ h => h) (Or.inl ⟨by rfl, ?_⟩) (by assumption) ?_
        rotate_left
        · rintro w ⟨s0, s1, s2⟩; (try dsimp only); go_simp; first | done | with_reducible rfl
        try simp only [Act.put, List.setIfInBounds_toArray, List.set_cons_zero, List.set_cons_succ]
        refine wpAnyH_ready (rs := [4, 7]) (by kernel_rfl) (by simp) ?_
        refine AllReadyH.cons (o := ({ dst := some 29, op := Op.load 27 (Operand.tmp 28), type := 27, pos := "watch.go:40", after := #[{ on := 3, ground := Ground.data }], guard := none } : Oper)) rfl (fun K hK => ?_) (AllReadyH.cons (o := ({ dst := some 32, op := Op.call { callee := Callee.value (Operand.func 33), args := #[Operand.tmp 31], argTypes := #[31] }, type := 31, pos := "watch.go:40", after := #[{ on := 6, ground := Ground.data }], guard := none } : Oper)) rfl (fun K hK => ?_) AllReadyH.nil)
        · go_simp
          refine hK.out _ _ (HST.out _ HK4.out) (fun hHeld => ?_)
          clear hK K
          try simp only [Act.put, List.setIfInBounds_toArray, List.set_cons_zero, List.set_cons_succ]
          refine wpAnyH_ready (rs := [7]) (by kernel_rfl) (by simp) ?_
          refine AllReadyH.cons (o := ({ dst := some 32, op := Op.call { callee := Callee.value (Operand.func 33), args := #[Operand.tmp 31], argTypes := #[31] }, type := 31, pos := "watch.go:40", after := #[{ on := 6, ground := Ground.data }], guard := none } : Oper)) rfl (fun K hK => ?_) AllReadyH.nil
          go_simp
          refine (HCP.out _).mono ?_
          rintro e w5 ⟨rfl, hb5⟩
          have HB5 := Lib.hid (HB4d.out.trans (hb5.mono HB4d.out.size))
          have HK5 := Lib.hid (HK4.out.kept hb5)
          have m5 : w5.cell? ⟨g, 0, none⟩ = some (.slice A n c) := cell_kept m4 hb5
          have HK6 := Lib.hid (HK5.out.alloc (.cells #[.int .i64 x.client, .int .i64 x.kind, .string ⟨x.path.toArray⟩] 31))
          have m6 : (w5.alloc (.cells #[.int .i64 x.client, .int .i64 x.kind, .string ⟨x.path.toArray⟩] 31)).cell? ⟨g, 0, none⟩ = some (.slice A n c) := cell_kept m5 ((Below.refl _ _).alloc (Nat.le_refl _) _)
          clear hb5
          go_wp2_with fail
          refine hK.out _ _ (HST.out _ HK5.out) (fun hHeld => ?_)
          clear hK K
          try simp only [Act.put, List.setIfInBounds_toArray, List.set_cons_zero, List.set_cons_succ]
          refine wpAnyH_ready (rs := [8]) (by kernel_rfl) (by simp) ?_
          refine AllReadyH.cons (o := ({ dst := some 33, op := Op.buildSlice 27 1 #[(0, Operand.tmp 32)], type := 27, pos := "watch.go:40", after := #[{ on := 7, ground := Ground.data }], guard := none } : Oper)) rfl (fun K hK => ?_) AllReadyH.nil
          go_simp
          refine hK.out _ _ (HST.out _ HK6.out) (fun hHeld => ?_)
          clear hK K
          try simp only [Act.put, List.setIfInBounds_toArray, List.set_cons_zero, List.set_cons_succ]
          refine wpAnyH_ready (rs := [9]) (by kernel_rfl) (by simp) ?_
          refine AllReadyH.cons (o := ({ dst := some 34, op := Op.call { callee := Callee.value (Operand.func 32), args := #[Operand.tmp 29, Operand.tmp 30, Operand.tmp 33], argTypes := #[27, 3, 27] }, type := 27, pos := "watch.go:40", after := #[{ on := 4, ground := Ground.data }, { on := 5, ground := Ground.data }, { on := 8, ground := Ground.data }, { on := 7, ground := Ground.chain }], guard := none } : Oper)) rfl (fun K hK => ?_) AllReadyH.nil
          go_simp
          refine (HIN.out _ HB5.out).mono ?_
          rintro e w7 ⟨A', c', rfl, ho', hg', hr'⟩
          have HK7 := Lib.hid (HK6.out.grown hg' (HROWB.out))
          have HO7 := Lib.hid ho'
          have HG7 := Lib.hid hg'
          have HR7 := Lib.hid hr'
          have HQ7 := Lib.hid (HQ6.out w5 HB5.out w7 hg')
          have m7 : w7.cell? ⟨g, 0, none⟩ = some (.slice A n c) := HQ7.out.at_ rfl
          have z7 : w7.frozen? ⟨g, 0, none⟩ = false := HQ7.out.frozen 0
          clear ho' hg' hr'
          go_wp2_with fail
          refine hK.out _ _ (HST.out _ HK7.out) (fun hHeld => ?_)
          clear hK K
          try simp only [Act.put, List.setIfInBounds_toArray, List.set_cons_zero, List.set_cons_succ]
          refine wpAnyH_take (i := 10) (oi := ({ dst := some 35, op := Op.nilCheck (Operand.tmp 25), type := 0, pos := "watch.go:40", after := #[{ on := 0, ground := Ground.data }, { on := 0, ground := Ground.phase }, { on := 1, ground := Ground.phase }, { on := 2, ground := Ground.phase }, { on := 3, ground := Ground.phase }, { on := 4, ground := Ground.phase }, { on := 5, ground := Ground.phase }, { on := 6, ground := Ground.phase }, { on := 7, ground := Ground.phase }, { on := 8, ground := Ground.phase }, { on := 9, ground := Ground.phase }], guard := none } : Oper)) (v := ?_) rfl (by kernel_rfl) (by kernel_rfl) (by kernel_rfl) (fun _ _ _ h => h) (Or.inl ⟨by rfl, ?_⟩) (by assumption) ?_
          rotate_left
          · rintro w ⟨s0, s1, s2⟩; (try dsimp only); go_simp; first | done | with_reducible rfl
          try simp only [Act.put, List.setIfInBounds_toArray, List.set_cons_zero, List.set_cons_succ]
          refine wpAnyH_take (i := 11) (oi := ({ dst := some 36, op := Op.fieldAddr 59 (Operand.tmp 35) 0, type := 0, pos := "watch.go:40", after := #[{ on := 10, ground := Ground.data }, { on := 0, ground := Ground.phase }, { on := 1, ground := Ground.phase }, { on := 2, ground := Ground.phase }, { on := 3, ground := Ground.phase }, { on := 4, ground := Ground.phase }, { on := 5, ground := Ground.phase }, { on := 6, ground := Ground.phase }, { on := 7, ground := Ground.phase }, { on := 8, ground := Ground.phase }, { on := 9, ground := Ground.phase }], guard := none } : Oper)) (v := ?_) rfl (by kernel_rfl) (by kernel_rfl) (by kernel_rfl) (fun _ _ _ h => h) (Or.inl ⟨by rfl, ?_⟩) (by assumption) ?_
          rotate_left
          · rintro w ⟨s0, s1, s2⟩; (try dsimp only); go_simp; first | done | with_reducible rfl
          try simp only [Act.put, List.setIfInBounds_toArray, List.set_cons_zero, List.set_cons_succ]
          refine wpAnyH_ready (rs := [12]) (by kernel_rfl) (by simp) ?_
          refine AllReadyH.cons (o := ({ dst := none, op := Op.store 27 (Operand.tmp 36) (Operand.tmp 34), type := 0, pos := "watch.go:40", after := #[{ on := 11, ground := Ground.data }, { on := 9, ground := Ground.data }, { on := 9, ground := Ground.chain }, { on := 0, ground := Ground.phase }, { on := 1, ground := Ground.phase }, { on := 2, ground := Ground.phase }, { on := 3, ground := Ground.phase }, { on := 4, ground := Ground.phase }, { on := 5, ground := Ground.phase }, { on := 6, ground := Ground.phase }, { on := 7, ground := Ground.phase }, { on := 8, ground := Ground.phase }, { on := 9, ground := Ground.phase }], guard := none } : Oper)) rfl (fun K hK => ?_) AllReadyH.nil
          go_simp
          refine hK.out _ _ (HST.out _ (HK7.out.far (p := ⟨g, 0, none⟩) (HGW.out) _)) (fun hHeld => ?_)
          clear hK K
          try simp only [Act.put, List.setIfInBounds_toArray, List.set_cons_zero, List.set_cons_succ]
          refine wpAnyH_done (by kernel_rfl) ?_ _
          go_wp2_with fail
          go_ret
          rw [HA.out]
          exact addW_end HB4.out HB5.out HQ4.out HOC.out HROW.out HO7.out HG7.out HR7.out HQ7.out
        · go_simp
          refine (HCP.out _).mono ?_
          rintro e w5 ⟨rfl, hb5⟩
          have HB5 := Lib.hid (HB4d.out.trans (hb5.mono HB4d.out.size))
          have HK5 := Lib.hid (HK4.out.kept hb5)
          have m5 : w5.cell? ⟨g, 0, none⟩ = some (.slice A n c) := cell_kept m4 hb5
          have HK6 := Lib.hid (HK5.out.alloc (.cells #[.int .i64 x.client, .int .i64 x.kind, .string ⟨x.path.toArray⟩] 31))
          have m6 : (w5.alloc (.cells #[.int .i64 x.client, .int .i64 x.kind, .string ⟨x.path.toArray⟩] 31)).cell? ⟨g, 0, none⟩ = some (.slice A n c) := cell_kept m5 ((Below.refl _ _).alloc (Nat.le_refl _) _)
          clear hb5
          go_wp2_with fail
          refine hK.out _ _ (HST.out _ HK5.out) (fun hHeld => ?_)
          clear hK K
          try simp only [Act.put, List.setIfInBounds_toArray, List.set_cons_zero, List.set_cons_succ]
          refine wpAnyH_ready (rs := [4, 8]) (by kernel_rfl) (by simp) ?_
          refine AllReadyH.cons (o := ({ dst := some 29, op := Op.load 27 (Operand.tmp 28), type := 27, pos := "watch.go:40", after := #[{ on := 3, ground := Ground.data }], guard := none } : Oper)) rfl (fun K hK => ?_) (AllReadyH.cons (o := ({ dst := some 33, op := Op.buildSlice 27 1 #[(0, Operand.tmp 32)], type := 27, pos := "watch.go:40", after := #[{ on := 7, ground := Ground.data }], guard := none } : Oper)) rfl (fun K hK => ?_) AllReadyH.nil)
          · go_simp
            refine hK.out _ _ (HST.out _ HK5.out) (fun hHeld => ?_)
            clear hK K
            try simp only [Act.put, List.setIfInBounds_toArray, List.set_cons_zero, List.set_cons_succ]
            refine wpAnyH_ready (rs := [8]) (by kernel_rfl) (by simp) ?_
            refine AllReadyH.cons (o := ({ dst := some 33, op := Op.buildSlice 27 1 #[(0, Operand.tmp 32)], type := 27, pos := "watch.go:40", after := #[{ on := 7, ground := Ground.data }], guard := none } : Oper)) rfl (fun K hK => ?_) AllReadyH.nil
            go_simp
            refine hK.out _ _ (HST.out _ HK6.out) (fun hHeld => ?_)
            clear hK K
            try simp only [Act.put, List.setIfInBounds_toArray, List.set_cons_zero, List.set_cons_succ]
            refine wpAnyH_ready (rs := [9]) (by kernel_rfl) (by simp) ?_
            refine AllReadyH.cons (o := ({ dst := some 34, op := Op.call { callee := Callee.value (Operand.func 32), args := #[Operand.tmp 29, Operand.tmp 30, Operand.tmp 33], argTypes := #[27, 3, 27] }, type := 27, pos := "watch.go:40", after := #[{ on := 4, ground := Ground.data }, { on := 5, ground := Ground.data }, { on := 8, ground := Ground.data }, { on := 7, ground := Ground.chain }], guard := none } : Oper)) rfl (fun K hK => ?_) AllReadyH.nil
            go_simp
            refine (HIN.out _ HB5.out).mono ?_
            rintro e w7 ⟨A', c', rfl, ho', hg', hr'⟩
            have HK7 := Lib.hid (HK6.out.grown hg' (HROWB.out))
            have HO7 := Lib.hid ho'
            have HG7 := Lib.hid hg'
            have HR7 := Lib.hid hr'
            have HQ7 := Lib.hid (HQ6.out w5 HB5.out w7 hg')
            have m7 : w7.cell? ⟨g, 0, none⟩ = some (.slice A n c) := HQ7.out.at_ rfl
            have z7 : w7.frozen? ⟨g, 0, none⟩ = false := HQ7.out.frozen 0
            clear ho' hg' hr'
            go_wp2_with fail
            refine hK.out _ _ (HST.out _ HK7.out) (fun hHeld => ?_)
            clear hK K
            try simp only [Act.put, List.setIfInBounds_toArray, List.set_cons_zero, List.set_cons_succ]
            refine wpAnyH_take (i := 10) (oi := ({ dst := some 35, op := Op.nilCheck (Operand.tmp 25), type := 0, pos := "watch.go:40", after := #[{ on := 0, ground := Ground.data }, { on := 0, ground := Ground.phase }, { on := 1, ground := Ground.phase }, { on := 2, ground := Ground.phase }, { on := 3, ground := Ground.phase }, { on := 4, ground := Ground.phase }, { on := 5, ground := Ground.phase }, { on := 6, ground := Ground.phase }, { on := 7, ground := Ground.phase }, { on := 8, ground := Ground.phase }, { on := 9, ground := Ground.phase }], guard := none } : Oper)) (v := ?_) rfl (by kernel_rfl) (by kernel_rfl) (by kernel_rfl) (fun _ _ _ h => h) (Or.inl ⟨by rfl, ?_⟩) (by assumption) ?_
            rotate_left
            · rintro w ⟨s0, s1, s2⟩; (try dsimp only); go_simp; first | done | with_reducible rfl
            try simp only [Act.put, List.setIfInBounds_toArray, List.set_cons_zero, List.set_cons_succ]
            refine wpAnyH_take (i := 11) (oi := ({ dst := some 36, op := Op.fieldAddr 59 (Operand.tmp 35) 0, type := 0, pos := "watch.go:40", after := #[{ on := 10, ground := Ground.data }, { on := 0, ground := Ground.phase }, { on := 1, ground := Ground.phase }, { on := 2, ground := Ground.phase }, { on := 3, ground := Ground.phase }, { on := 4, ground := Ground.phase }, { on := 5, ground := Ground.phase }, { on := 6, ground := Ground.phase }, { on := 7, ground := Ground.phase }, { on := 8, ground := Ground.phase }, { on := 9, ground := Ground.phase }], guard := none } : Oper)) (v := ?_) rfl (by kernel_rfl) (by kernel_rfl) (by kernel_rfl) (fun _ _ _ h => h) (Or.inl ⟨by rfl, ?_⟩) (by assumption) ?_
            rotate_left
            · rintro w ⟨s0, s1, s2⟩; (try dsimp only); go_simp; first | done | with_reducible rfl
            try simp only [Act.put, List.setIfInBounds_toArray, List.set_cons_zero, List.set_cons_succ]
            refine wpAnyH_ready (rs := [12]) (by kernel_rfl) (by simp) ?_
            refine AllReadyH.cons (o := ({ dst := none, op := Op.store 27 (Operand.tmp 36) (Operand.tmp 34), type := 0, pos := "watch.go:40", after := #[{ on := 11, ground := Ground.data }, { on := 9, ground := Ground.data }, { on := 9, ground := Ground.chain }, { on := 0, ground := Ground.phase }, { on := 1, ground := Ground.phase }, { on := 2, ground := Ground.phase }, { on := 3, ground := Ground.phase }, { on := 4, ground := Ground.phase }, { on := 5, ground := Ground.phase }, { on := 6, ground := Ground.phase }, { on := 7, ground := Ground.phase }, { on := 8, ground := Ground.phase }, { on := 9, ground := Ground.phase }], guard := none } : Oper)) rfl (fun K hK => ?_) AllReadyH.nil
            go_simp
            refine hK.out _ _ (HST.out _ (HK7.out.far (p := ⟨g, 0, none⟩) (HGW.out) _)) (fun hHeld => ?_)
            clear hK K
            try simp only [Act.put, List.setIfInBounds_toArray, List.set_cons_zero, List.set_cons_succ]
            refine wpAnyH_done (by kernel_rfl) ?_ _
            go_wp2_with fail
            go_ret
            rw [HA.out]
            exact addW_end HB4.out HB5.out HQ4.out HOC.out HROW.out HO7.out HG7.out HR7.out HQ7.out
          · go_simp
            refine hK.out _ _ (HST.out _ HK6.out) (fun hHeld => ?_)
            clear hK K
            try simp only [Act.put, List.setIfInBounds_toArray, List.set_cons_zero, List.set_cons_succ]
            refine wpAnyH_ready (rs := [4]) (by kernel_rfl) (by simp) ?_
            refine AllReadyH.cons (o := ({ dst := some 29, op := Op.load 27 (Operand.tmp 28), type := 27, pos := "watch.go:40", after := #[{ on := 3, ground := Ground.data }], guard := none } : Oper)) rfl (fun K hK => ?_) AllReadyH.nil
            go_simp
            refine hK.out _ _ (HST.out _ HK6.out) (fun hHeld => ?_)
            clear hK K
            try simp only [Act.put, List.setIfInBounds_toArray, List.set_cons_zero, List.set_cons_succ]
            refine wpAnyH_ready (rs := [9]) (by kernel_rfl) (by simp) ?_
            refine AllReadyH.cons (o := ({ dst := some 34, op := Op.call { callee := Callee.value (Operand.func 32), args := #[Operand.tmp 29, Operand.tmp 30, Operand.tmp 33], argTypes := #[27, 3, 27] }, type := 27, pos := "watch.go:40", after := #[{ on := 4, ground := Ground.data }, { on := 5, ground := Ground.data }, { on := 8, ground := Ground.data }, { on := 7, ground := Ground.chain }], guard := none } : Oper)) rfl (fun K hK => ?_) AllReadyH.nil
            go_simp
            refine (HIN.out _ HB5.out).mono ?_
            rintro e w7 ⟨A', c', rfl, ho', hg', hr'⟩
            have HK7 := Lib.hid (HK6.out.grown hg' (HROWB.out))
            have HO7 := Lib.hid ho'
            have HG7 := Lib.hid hg'
            have HR7 := Lib.hid hr'
            have HQ7 := Lib.hid (HQ6.out w5 HB5.out w7 hg')
            have m7 : w7.cell? ⟨g, 0, none⟩ = some (.slice A n c) := HQ7.out.at_ rfl
            have z7 : w7.frozen? ⟨g, 0, none⟩ = false := HQ7.out.frozen 0
            clear ho' hg' hr'
            go_wp2_with fail
            refine hK.out _ _ (HST.out _ HK7.out) (fun hHeld => ?_)
            clear hK K
            try simp only [Act.put, List.setIfInBounds_toArray, List.set_cons_zero, List.set_cons_succ]
            refine wpAnyH_take (i := 10) (oi := ({ dst := some 35, op := Op.nilCheck (Operand.tmp 25), type := 0, pos := "watch.go:40", after := #[{ on := 0, ground := Ground.data }, { on := 0, ground := Ground.phase }, { on := 1, ground := Ground.phase }, { on := 2, ground := Ground.phase }, { on := 3, ground := Ground.phase }, { on := 4, ground := Ground.phase }, { on := 5, ground := Ground.phase }, { on := 6, ground := Ground.phase }, { on := 7, ground := Ground.phase }, { on := 8, ground := Ground.phase }, { on := 9, ground := Ground.phase }], guard := none } : Oper)) (v := ?_) rfl (by kernel_rfl) (by kernel_rfl) (by kernel_rfl) (fun _ _ _ h => h) (Or.inl ⟨by rfl, ?_⟩) (by assumption) ?_
            rotate_left
            · rintro w ⟨s0, s1, s2⟩; (try dsimp only); go_simp; first | done | with_reducible rfl
            try simp only [Act.put, List.setIfInBounds_toArray, List.set_cons_zero, List.set_cons_succ]
            refine wpAnyH_take (i := 11) (oi := ({ dst := some 36, op := Op.fieldAddr 59 (Operand.tmp 35) 0, type := 0, pos := "watch.go:40", after := #[{ on := 10, ground := Ground.data }, { on := 0, ground := Ground.phase }, { on := 1, ground := Ground.phase }, { on := 2, ground := Ground.phase }, { on := 3, ground := Ground.phase }, { on := 4, ground := Ground.phase }, { on := 5, ground := Ground.phase }, { on := 6, ground := Ground.phase }, { on := 7, ground := Ground.phase }, { on := 8, ground := Ground.phase }, { on := 9, ground := Ground.phase }], guard := none } : Oper)) (v := ?_) rfl (by kernel_rfl) (by kernel_rfl) (by kernel_rfl) (fun _ _ _ h => h) (Or.inl ⟨by rfl, ?_⟩) (by assumption) ?_
            rotate_left
            · rintro w ⟨s0, s1, s2⟩; (try dsimp only); go_simp; first | done | with_reducible rfl
            try simp only [Act.put, List.setIfInBounds_toArray, List.set_cons_zero, List.set_cons_succ]
            refine wpAnyH_ready (rs := [12]) (by kernel_rfl) (by simp) ?_
            refine AllReadyH.cons (o := ({ dst := none, op := Op.store 27 (Operand.tmp 36) (Operand.tmp 34), type := 0, pos := "watch.go:40", after := #[{ on := 11, ground := Ground.data }, { on := 9, ground := Ground.data }, { on := 9, ground := Ground.chain }, { on := 0, ground := Ground.phase }, { on := 1, ground := Ground.phase }, { on := 2, ground := Ground.phase }, { on := 3, ground := Ground.phase }, { on := 4, ground := Ground.phase }, { on := 5, ground := Ground.phase }, { on := 6, ground := Ground.phase }, { on := 7, ground := Ground.phase }, { on := 8, ground := Ground.phase }, { on := 9, ground := Ground.phase }], guard := none } : Oper)) rfl (fun K hK => ?_) AllReadyH.nil
            go_simp
            refine hK.out _ _ (HST.out _ (HK7.out.far (p := ⟨g, 0, none⟩) (HGW.out) _)) (fun hHeld => ?_)
            clear hK K
            try simp only [Act.put, List.setIfInBounds_toArray, List.set_cons_zero, List.set_cons_succ]
            refine wpAnyH_done (by kernel_rfl) ?_ _
            go_wp2_with fail
            go_ret
            rw [HA.out]
            exact addW_end HB4.out HB5.out HQ4.out HOC.out HROW.out HO7.out HG7.out HR7.out HQ7.out
end Go.Proofs.YtbppokdaehaocaaDoor
