/-
  Watches: a table is loaded anew. A walk; no statement.
-/
import Derived.Test.YtbppokdaehaocaaDoorWatchFire
import Derived.Test.YtbppokdaehaocaaDoorWatchAll
namespace Go.Proofs.YtbppokdaehaocaaDoor
set_option maxRecDepth 100000
open Go.RowKit
set_option linter.unusedVariables false

/-- the table behind Load, and what it answers -/
def wLoaded (xs t : List Wt) : List Wt := if WOk xs then xs else t
def wTakes (xs : List Wt) : Bool := decide (WOk xs)
theorem wIns_last {x : Wt} : ∀ {t : List Wt}, (∀ y ∈ t, wLt y x) → wIns x t = t ++ [x]
  | [], _ => rfl
  | y :: r, h => by
    unfold wIns
    rw [if_neg (wLt_asym (h y (List.mem_cons_self ..))), wIns_last fun z hz => h z (List.mem_cons_of_mem _ hz)]
    rfl
/-- the one ahead is ahead: so are all -/
theorem below_all {xs : List Wt} {k : Nat} {x : Wt} (h : WOk (xs.take k)) (hx : xs[k]? = some x) (hl : k = 0 ∨ ∃ j y, k = j + 1 ∧ xs[j]? = some y ∧ wLt y x) : ∀ z ∈ xs.take k, wLt z x := by
  intro z hz
  rcases hl with rfl | ⟨j, y, rfl, hy, hyx⟩
  · simp at hz
  · obtain ⟨i, hi, e⟩ := List.getElem_of_mem hz
    have hi' : i < j + 1 := by rw [List.length_take] at hi; omega
    rw [List.getElem_take] at e
    obtain ⟨hj, ej⟩ := List.getElem?_eq_some_iff.1 hy
    rcases Nat.lt_or_ge i j with q | q
    · have hp := List.pairwise_iff_getElem.1 h.1 i j (by rw [List.length_take]; omega) (by rw [List.length_take]; omega) q
      rw [List.getElem_take, List.getElem_take, e, ej] at hp
      exact wLt_trans hp hyx
    · obtain rfl : i = j := by omega
      rw [← e, ej]; exact hyx
theorem load_step {xs : List Wt} {k : Nat} {x : Wt} (h : WOk (xs.take k)) (hx : xs[k]? = some x) (hl : k = 0 ∨ ∃ j y, k = j + 1 ∧ xs[j]? = some y ∧ wLt y x) :
    ((wAdd x (xs.take k)).2 = 0 ∧ (wAdd x (xs.take k)).1 = xs.take (k + 1) ∧ WOk (xs.take (k + 1))) ∨ ((wAdd x (xs.take k)).2 ≠ 0 ∧ ¬ WOk xs) := by
  have ha := below_all h hx hl
  have hm : x ∉ xs.take k := fun hm => wLt_irr x (ha x hm)
  obtain ⟨hk, ek⟩ := List.getElem?_eq_some_iff.1 hx
  have ht : xs.take (k + 1) = xs.take k ++ [x] := by rw [take_snoc xs k hk, ek]
  by_cases hr : wRight x = true
  · by_cases h8 : 8 ≤ wOf x.client (xs.take k)
    · refine .inr ⟨by unfold wAdd; simp [hr, hm, h8], fun hw => ?_⟩
      have := wOf_all (hw.take (k + 1)) x.client
      rw [ht] at this
      unfold wOf at this h8
      rw [List.countP_append] at this
      simp at this
      omega
    · have e : wAdd x (xs.take k) = (wIns x (xs.take k), 0) := by unfold wAdd; simp [hr, hm, h8]
      refine .inl ⟨by rw [e], by rw [e, ht]; exact wIns_last ha, ?_⟩
      rw [ht, ← wIns_last ha]
      exact h.ins hr hm h8
  · refine .inr ⟨by unfold wAdd; simp [hr], fun hw => hr (hw.2.1 x (List.mem_of_getElem? hx))⟩
theorem load_bad {xs : List Wt} {j : Nat} {x y : Wt} (hx : xs[j + 1]? = some x) (hy : xs[j]? = some y) (h : ¬ wLt y x) : ¬ WOk xs := fun hw => by
  obtain ⟨h1, e1⟩ := List.getElem?_eq_some_iff.1 hx
  obtain ⟨h2, e2⟩ := List.getElem?_eq_some_iff.1 hy
  have := List.pairwise_iff_getElem.1 hw.1 j (j + 1) h2 h1 (by omega)
  rw [e1, e2] at this
  exact h this
theorem chg_cell {F : Nat → Prop} {w w' : World} {p : Addr} {v : Value} (h : Chg F w w') (hc : w.cell? p = some v) (hp : ¬ F p.block) : w'.cell? p = some v := by
  rw [World.cell?_of_block (w := w) (h.block _ (World.block_lt_of_cell? _ _ hc) hp)]
  exact hc
/-- the cells of a watch in a row -/
def Row3 (a : Addr) (j : Nat) (y : Wt) (W : World) : Prop := W.cell? (a.add (j * 3)) = some (.int .i64 y.client) ∧ W.cell? ⟨(a.add (j * 3)).block, (a.add (j * 3)).off + 1, none⟩ = some (.int .i64 y.kind) ∧ W.cell? ⟨(a.add (j * 3)).block, (a.add (j * 3)).off + 2, none⟩ = some (.string ⟨y.path.toArray⟩)
theorem Row3.chg {F : Nat → Prop} {a : Addr} {j : Nat} {y : Wt} {w w' : World} (h : Row3 a j y w) (hc : Chg F w w') (ha : ¬ F a.block) : Row3 a j y w' := by
  have hb : (a.add (j * 3)).block = a.block := add_block _ _
  exact ⟨chg_cell hc h.1 (by rw [hb]; exact ha), chg_cell hc h.2.1 (by show ¬ F (a.add (j * 3)).block; rw [hb]; exact ha), chg_cell hc h.2.2 (by show ¬ F (a.add (j * 3)).block; rw [hb]; exact ha)⟩
theorem Box3.chg {F : Nat → Prop} {b : Nat} {x : Wt} {w w' : World} (h : Box3 b x w) (hc : Chg F w w') (hb : ¬ F b) : Box3 b x w' := ⟨chg_cell hc h.1 hb, chg_cell hc h.2.1 hb, chg_cell hc h.2.2 hb⟩
/-- how the loop stands: the first k are in the new table -/
def LdAt (xs : List Wt) (w : World) (gl k : Nat) (F1 : Nat → Prop) (wr : World) : Prop := TbAt F1 wr gl (xs.take k) ∧ WOk (xs.take k) ∧ (∀ b, F1 b → w.heap.size ≤ b ∧ b < wr.heap.size) ∧ Below w.heap.size w wr
theorem LdAt.next {xs : List Wt} {w wr wa w6 : World} {gl k : Nat} {F1 : Nat → Prop} {v : Value} {e : Ending} (h : LdAt xs w gl k F1 wr) (hb : Below wr.heap.size wr wa) (hd : WDid F1 gl (xs.take (k + 1)) v wa e w6) (hw : WOk (xs.take (k + 1))) : ∃ F2, LdAt xs w gl (k + 1) F2 w6 := by
  obtain ⟨_, F2, h1, h2, h3⟩ := hd
  have hbw := h.2.2.2.trans (hb.mono h.2.2.2.size)
  refine ⟨fun b => F2 b ∧ b < w6.heap.size, h1.more fun k hk hl => ⟨hk, hl⟩, hw, fun b hb2 => ⟨?_, hb2.2⟩, hbw.trans (h3.below (fun i hi => (h.2.2.1 i hi).1) hbw.size)⟩
  rcases h2 b hb2.1 with q | q
  · exact (h.2.2.1 b q).1
  · exact Nat.le_trans hbw.size q
theorem load_no' {F : Nat → Prop} {g : Nat} {t xs : List Wt} {w w' : World} (hT : TbAt F w g t) (hn : ¬ WOk xs) (hb : Below w.heap.size w w') : WDid F g (wLoaded xs t) (.bool (wTakes xs)) w (.returned (.bool false)) w' := by
  rw [wLoaded, wTakes, if_neg hn, decide_eq_false hn]
  exact ⟨rfl, F, hT.below hb, fun k hk => .inl hk, Chg.of_below F hb⟩
theorem load_no {F F1 : Nat → Prop} {g gl k : Nat} {t t2 xs : List Wt} {v : Value} {e : Ending} {w wr wa w6 : World} (hT : TbAt F w g t) (hn : ¬ WOk xs) (h : LdAt xs w gl k F1 wr) (hb : Below wr.heap.size wr wa) (hd : WDid F1 gl t2 v wa e w6) :
    WDid F g (wLoaded xs t) (.bool (wTakes xs)) w (.returned (.bool false)) w6 := by
  have hbw := h.2.2.2.trans (hb.mono h.2.2.2.size)
  obtain ⟨_, F2, _, _, h3⟩ := hd
  exact load_no' hT hn (hbw.trans (h3.below (fun i hi => (h.2.2.1 i hi).1) hbw.size))
theorem load_yes {F F1 : Nat → Prop} {g gl n c : Nat} {A : Option Addr} {t xs : List Wt} {u : Value} {w wr : World} (hT : TbAt F w g t) (hw : WOk xs) (hb : Below w.heap.size w wr) (hq : Bk wr g 59 [u]) (ho : OwnW wr 0 A n c xs)
    (hr : ∀ b, (Value.slice A n c).ownBlock = some b → F1 b ∧ b ≠ gl) (hF : ∀ b, F1 b → w.heap.size ≤ b ∧ b < wr.heap.size) : WDid F g (wLoaded xs t) (.bool (wTakes xs)) w (.returned (.bool true)) (wr.setCell ⟨g, 0, none⟩ (.slice A n c)) := by
  rw [wLoaded, wTakes, if_pos hw, decide_eq_true hw]
  have hgl := hT.lt
  have hg : F g := by obtain ⟨_, _, _, _, h, _⟩ := hT; exact h
  have hne : ∀ b, (Value.slice A n c).ownBlock = some b → w.heap.size ≤ b := fun b hb => (hF b (hr b hb).1).1
  refine ⟨rfl, fun k => F k ∨ w.heap.size ≤ k, ⟨A, n, c, hq.set 0 _, .inl hg, World.ownsRow.kept ho (grown_set (grown_refl wr (some g)) 0 _) (.inr fun e => by have := hne g e; omega), fun b hb => ⟨.inr (hne b hb), by have := hne b hb; omega⟩⟩, fun k hk => hk, (Chg.of_below F hb).set (.inl hg) 0 _⟩
set_option maxHeartbeats 6400000 in
theorem loadW_any (F : Nat → Prop) (g : Nat) (t : List Wt) (LA : Option Addr) (lc : Nat) (xs : List Wt) (FX : Nat → Prop) (w : World) (hE : Env w) (hT : TbAt F w g t) (hx : RdS RWt FX w LA lc xs) (hlen : xs.length ≤ 1000) :
    Calls Tryd.prog 25 #[.pointer (some ⟨g, 0, none⟩), .slice LA xs.length lc] w (WDid F g (wLoaded xs t) (.bool (wTakes xs)) w) := by
  have HN := Lib.hid (newW_any w)
  have HT := Lib.hid hT
  have HX := Lib.hid hx
  have HE := Lib.hid hE
  have HLN := Lib.hid hlen
  obtain ⟨n, hn⟩ : ∃ n, n = xs.length := ⟨_, rfl⟩
  have HNX := Lib.hid hn
  rw [← hn]
  have hn1 : n ≤ 1000 := by omega
  clear hT hx hE hn hlen
  go_enter Tryd.func25, Tryd.ntmps25
  go_wp2_with fail
  refine HN.out.mono ?_
  rintro e w1 ⟨gl, F0, rfl, ht0, hf0, hb0⟩
  have HT0 := Lib.hid ht0
  have HF0 := Lib.hid hf0
  have HB0 := Lib.hid hb0
  clear ht0 hf0 hb0
  go_wp2_with fail
  go_loopw [11] (fun i wr => ∃ (k : Nat) (F1 : Nat → Prop), k ≤ n ∧ i = .int .i64 k ∧ LdAt xs w gl k F1 wr) (fun i _ => n - (intOf i).toNat)
  case atStart => exact ⟨0, fun b => F0 b ∧ b < w1.heap.size, by omega, rfl, HT0.out.more fun k hk hl => ⟨hk, hl⟩, wOk_nil, fun b hb => ⟨HF0.out b hb.1, hb.2⟩, HB0.out⟩
  case round =>
    obtain ⟨k, F1, hk, rfl, hld⟩ := hrel
    by_cases hlt : k < n
    · have hkx : k < xs.length := by have := HNX.out; omega
      have hx : xs[k]? = some xs[k] := List.getElem?_eq_getElem hkx
      have hbw := hld.2.2.2
      obtain ⟨a, rfl, hal, d0, d1, d2⟩ := (HX.out.below hbw).wt3 hx
      have hal0 : a.block < w.heap.size := by obtain ⟨a', e, hb, _⟩ := HX.out.wt3 hx; obtain rfl := Option.some.inj e; exact hb
      have HAF := Lib.hid (show ¬ F1 a.block from fun h => by have := hld.2.2.1 _ h; omega)
      have HAB := Lib.hid (show ¬ F1 wr.heap.size from fun h => by have := hld.2.2.1 _ h; omega)
      have HXK := Lib.hid hx
      have HLD := Lib.hid hld
      have HLT := Lib.hid hlt
      have hb1 : Below wr.heap.size wr (wr.alloc (.cells #[.int .i64 xs[k].client, .int .i64 xs[k].kind, .string ⟨xs[k].path.toArray⟩] 31)) := (Below.refl _ _).alloc (Nat.le_refl _) _
      generalize xs[k] = x at *
      have HB1 := Lib.hid hb1
      have HKB := Lib.hid (show Box3 wr.heap.size x (wr.alloc (.cells #[.int .i64 x.client, .int .i64 x.kind, .string ⟨x.path.toArray⟩] 31)) from (Bk.new wr 31 (wtC x)).three)
      have HAD := Lib.hid (fun W (hW : Below wr.heap.size wr W) => show Calls Tryd.prog 12 #[.pointer (some ⟨gl, 0, none⟩), .agg #[.int .i64 x.client, .int .i64 x.kind, .string ⟨x.path.toArray⟩]] W _ from addW_any F1 gl (xs.take k) x W (HE.out.below (hbw.trans (hW.mono hbw.size))) (hld.1.below hW) hld.2.1.1 (by rw [List.length_take]; omega))
      have y1 : (0 : Int) ≤ (k : Int) := by omega
      have y2 : (k : Int) < (n : Int) := by omega
      by_cases hk0 : k = 0
      · have hgt : decide ((0 : Int) < (k : Int)) = false := by simp [hk0]
        have hgn : decide (0 < k) = false := by simp [hk0]
        have HSTP := Lib.hid (load_step hld.2.1 hx (.inl hk0))
        have HST := Lib.hid (fun X (hX : Chg F1 (wr.alloc (.cells #[.int .i64 x.client, .int .i64 x.kind, .string ⟨x.path.toArray⟩] 31)) X) => (show Box3 wr.heap.size x X from HKB.out.chg hX HAB.out))
        clear hld hx hkx hlt hk hbw hal hal0 hb1 hk0
        rcases HSTP.out with ⟨e1, e2, e3⟩ | ⟨e1, e2⟩
        · rw [e1, e2] at HAD
          have HW3 := Lib.hid e3
          clear HSTP e1 e2 e3
          go_wp2_with fail
          refine wp_region_held_drew (S := fun X => Box3 wr.heap.size x X) (by kernel_rfl) (HST.out _ ((Chg.refl F1 (wr.alloc (.cells #[.int .i64 x.client, .int .i64 x.kind, .string ⟨x.path.toArray⟩] 31))).drewN 1)) (fun hHeld => ?_)
          refine wpAnyH_take (i := 0) (oi := ({ dst := some 16, op := Op.move (Operand.tmp 6), type := 3, pos := "watch.go:72", after := #[], guard := none } : Oper)) (v := ?_) rfl (by kernel_rfl) (by kernel_rfl) (by kernel_rfl) (fun _ _ _ h => h) (Or.inl ⟨by rfl, ?_⟩) (by assumption) ?_
          rotate_left
          · rintro w ⟨s0, s1, s2⟩; (try dsimp only); go_simp; first | done | with_reducible rfl
          try simp only [Act.put, List.setIfInBounds_toArray, List.set_cons_zero, List.set_cons_succ]
          refine wpAnyH_take (i := 1) (oi := ({ dst := some 17, op := Op.binOp BinOp.gtr 3 (Operand.tmp 16) (Operand.const (Value.int IntKind.i64 0)) 3, type := 4, pos := "watch.go:72", after := #[{ on := 0, ground := Ground.data }], guard := none } : Oper)) (v := ?_) rfl (by kernel_rfl) (by kernel_rfl) (by kernel_rfl) (fun _ _ _ h => h) (Or.inl ⟨by rfl, ?_⟩) (by assumption) ?_
          rotate_left
          · rintro w ⟨s0, s1, s2⟩; (try dsimp only); go_simp; first | done | with_reducible rfl
          try simp only [Act.put, List.setIfInBounds_toArray, List.set_cons_zero, List.set_cons_succ]
          refine wpAnyH_take (i := 2) (oi := ({ dst := some 18, op := Op.move (Operand.tmp 17), type := 4, pos := "watch.go:72", after := #[{ on := 1, ground := Ground.data }], guard := none } : Oper)) (v := ?_) rfl (by kernel_rfl) (by kernel_rfl) (by kernel_rfl) (fun _ _ _ h => h) (Or.inl ⟨by rfl, ?_⟩) (by assumption) ?_
          rotate_left
          · rintro w ⟨s0, s1, s2⟩; (try dsimp only); go_simp; first | done | with_reducible rfl
          try simp only [Act.put, List.setIfInBounds_toArray, List.set_cons_zero, List.set_cons_succ]
          refine wpAnyH_take (i := 3) (oi := ({ dst := some 19, op := Op.move (Operand.tmp 1), type := 27, pos := "watch.go:72", after := #[{ on := 2, ground := Ground.guard }], guard := some (2, true) } : Oper)) (v := undef) rfl (by kernel_rfl) (by kernel_rfl) (by kernel_rfl) (fun _ _ _ h => h) (Or.inr ⟨by rfl, rfl⟩) (by assumption) ?_
          try simp only [Act.put, List.setIfInBounds_toArray, List.set_cons_zero, List.set_cons_succ]
          refine wpAnyH_take (i := 4) (oi := ({ dst := some 20, op := Op.move (Operand.tmp 6), type := 3, pos := "watch.go:72", after := #[{ on := 2, ground := Ground.guard }], guard := some (2, true) } : Oper)) (v := undef) rfl (by kernel_rfl) (by kernel_rfl) (by kernel_rfl) (fun _ _ _ h => h) (Or.inr ⟨by rfl, rfl⟩) (by assumption) ?_
          try simp only [Act.put, List.setIfInBounds_toArray, List.set_cons_zero, List.set_cons_succ]
          refine wpAnyH_take (i := 5) (oi := ({ dst := some 21, op := Op.binOp BinOp.sub 3 (Operand.tmp 20) (Operand.const (Value.int IntKind.i64 1)) 3, type := 3, pos := "watch.go:72", after := #[{ on := 4, ground := Ground.data }, { on := 2, ground := Ground.guard }], guard := some (2, true) } : Oper)) (v := undef) rfl (by kernel_rfl) (by kernel_rfl) (by kernel_rfl) (fun _ _ _ h => h) (Or.inr ⟨by rfl, rfl⟩) (by assumption) ?_
          try simp only [Act.put, List.setIfInBounds_toArray, List.set_cons_zero, List.set_cons_succ]
          refine wpAnyH_take (i := 6) (oi := ({ dst := some 22, op := Op.indexAddr 27 (Operand.tmp 19) (Operand.tmp 21), type := 0, pos := "watch.go:72", after := #[{ on := 3, ground := Ground.data }, { on := 5, ground := Ground.data }, { on := 2, ground := Ground.guard }], guard := some (2, true) } : Oper)) (v := undef) rfl (by kernel_rfl) (by kernel_rfl) (by kernel_rfl) (fun _ _ _ h => h) (Or.inr ⟨by rfl, rfl⟩) (by assumption) ?_
          try simp only [Act.put, List.setIfInBounds_toArray, List.set_cons_zero, List.set_cons_succ]
          refine wpAnyH_take (i := 7) (oi := ({ dst := some 23, op := Op.load 31 (Operand.tmp 22), type := 31, pos := "watch.go:72", after := #[{ on := 6, ground := Ground.data }, { on := 2, ground := Ground.guard }], guard := some (2, true) } : Oper)) (v := undef) rfl (by kernel_rfl) (by kernel_rfl) (by kernel_rfl) (fun _ _ _ h => h) (Or.inr ⟨by rfl, rfl⟩) (by assumption) ?_
          try simp only [Act.put, List.setIfInBounds_toArray, List.set_cons_zero, List.set_cons_succ]
          refine wpAnyH_take (i := 8) (oi := ({ dst := some 24, op := Op.load 31 (Operand.tmp 7), type := 31, pos := "watch.go:72", after := #[{ on := 2, ground := Ground.guard }], guard := some (2, true) } : Oper)) (v := undef) rfl (by kernel_rfl) (by kernel_rfl) (by kernel_rfl) (fun _ _ _ h => h) (Or.inr ⟨by rfl, rfl⟩) (by assumption) ?_
          try simp only [Act.put, List.setIfInBounds_toArray, List.set_cons_zero, List.set_cons_succ]
          refine wpAnyH_take (i := 9) (oi := ({ dst := some 25, op := Op.call { callee := Callee.value (Operand.func 30), args := #[Operand.tmp 23, Operand.tmp 24], argTypes := #[31, 31] }, type := 3, pos := "watch.go:72", after := #[{ on := 7, ground := Ground.data }, { on := 8, ground := Ground.data }, { on := 2, ground := Ground.chain }, { on := 2, ground := Ground.guard }], guard := some (2, true) } : Oper)) (v := undef) rfl (by kernel_rfl) (by kernel_rfl) (by kernel_rfl) (fun _ _ _ h => h) (Or.inr ⟨by rfl, rfl⟩) (by assumption) ?_
          try simp only [Act.put, List.setIfInBounds_toArray, List.set_cons_zero, List.set_cons_succ]
          refine wpAnyH_take (i := 10) (oi := ({ dst := some 26, op := Op.binOp BinOp.geq 3 (Operand.tmp 25) (Operand.const (Value.int IntKind.i64 0)) 3, type := 4, pos := "watch.go:72", after := #[{ on := 9, ground := Ground.data }, { on := 2, ground := Ground.guard }], guard := some (2, true) } : Oper)) (v := undef) rfl (by kernel_rfl) (by kernel_rfl) (by kernel_rfl) (fun _ _ _ h => h) (Or.inr ⟨by rfl, rfl⟩) (by assumption) ?_
          try simp only [Act.put, List.setIfInBounds_toArray, List.set_cons_zero, List.set_cons_succ]
          refine wpAnyH_take (i := 11) (oi := ({ dst := some 27, op := Op.pick (Operand.tmp 18) (Operand.tmp 26) (Operand.const (Value.bool false)), type := 4, pos := "watch.go:72", after := #[{ on := 2, ground := Ground.data }, { on := 10, ground := Ground.data }], guard := none } : Oper)) (v := ?_) rfl (by kernel_rfl) (by kernel_rfl) (by kernel_rfl) (fun _ _ _ h => h) (Or.inl ⟨by rfl, ?_⟩) (by assumption) ?_
          rotate_left
          · rintro w ⟨s0, s1, s2⟩; (try dsimp only); go_simp; first | done | with_reducible rfl
          try simp only [Act.put, List.setIfInBounds_toArray, List.set_cons_zero, List.set_cons_succ]
          refine wpAnyH_take (i := 12) (oi := ({ dst := some 28, op := Op.move (Operand.tmp 27), type := 4, pos := "watch.go:72", after := #[{ on := 11, ground := Ground.data }, { on := 9, ground := Ground.chain }], guard := none } : Oper)) (v := ?_) rfl (by kernel_rfl) (by kernel_rfl) (by kernel_rfl) (fun _ _ _ h => h) (Or.inl ⟨by rfl, ?_⟩) (by assumption) ?_
          rotate_left
          · rintro w ⟨s0, s1, s2⟩; (try dsimp only); go_simp; first | done | with_reducible rfl
          try simp only [Act.put, List.setIfInBounds_toArray, List.set_cons_zero, List.set_cons_succ]
          refine wpAnyH_take (i := 13) (oi := ({ dst := some 29, op := Op.move (Operand.tmp 5), type := 25, pos := "watch.go:72", after := #[{ on := 12, ground := Ground.guard }], guard := some (12, false) } : Oper)) (v := ?_) rfl (by kernel_rfl) (by kernel_rfl) (by kernel_rfl) (fun _ _ _ h => h) (Or.inl ⟨by rfl, ?_⟩) (by assumption) ?_
          rotate_left
          · rintro w ⟨s0, s1, s2⟩; (try dsimp only); go_simp; first | done | with_reducible rfl
          try simp only [Act.put, List.setIfInBounds_toArray, List.set_cons_zero, List.set_cons_succ]
          refine wpAnyH_take (i := 14) (oi := ({ dst := some 30, op := Op.load 31 (Operand.tmp 7), type := 31, pos := "watch.go:72", after := #[{ on := 12, ground := Ground.guard }], guard := some (12, false) } : Oper)) (v := ?_) rfl (by kernel_rfl) (by kernel_rfl) (by kernel_rfl) (fun _ _ _ h => h) (Or.inl ⟨by rfl, ?_⟩) (by assumption) ?_
          rotate_left
          · rintro w ⟨s0, s1, s2⟩; (try dsimp only); go_simp; first | done | with_reducible rfl
          try simp only [Act.put, List.setIfInBounds_toArray, List.set_cons_zero, List.set_cons_succ]
          refine wpAnyH_ready (rs := [15]) (by kernel_rfl) (by simp) ?_
          refine AllReadyH.cons (o := ({ dst := some 31, op := Op.call { callee := Callee.value (Operand.func 12), args := #[Operand.tmp 29, Operand.tmp 30], argTypes := #[25, 31] }, type := 36, pos := "watch.go:72", after := #[{ on := 13, ground := Ground.data }, { on := 14, ground := Ground.data }, { on := 12, ground := Ground.chain }, { on := 12, ground := Ground.guard }], guard := some (12, false) } : Oper)) rfl (fun K hK => ?_) AllReadyH.nil
          go_simp
          refine (HAD.out (wr.alloc (.cells #[.int .i64 x.client, .int .i64 x.kind, .string ⟨x.path.toArray⟩] 31)).drew (HB1.out.trans ((below_drewN (Below.refl _ _) 1).mono HB1.out.size))).mono ?_
          rintro e w6 hd6
          have HD6 := Lib.hid hd6
          obtain ⟨rfl, F2, hT2, hF2, hC2⟩ := hd6
          have HC6 := Lib.hid (((Chg.refl F1 (wr.alloc (.cells #[.int .i64 x.client, .int .i64 x.kind, .string ⟨x.path.toArray⟩] 31))).drewN 1).same hC2)
          clear hT2 hF2 hC2
          go_wp2_with fail
          refine hK.out _ _ (HST.out _ HC6.out) (fun hHeld => ?_)
          clear hK K
          try simp only [Act.put, List.setIfInBounds_toArray, List.set_cons_zero, List.set_cons_succ]
          refine wpAnyH_take (i := 16) (oi := ({ dst := some 32, op := Op.binOp BinOp.neq 36 (Operand.tmp 31) (Operand.const (Value.int IntKind.i64 0)) 36, type := 4, pos := "watch.go:72", after := #[{ on := 15, ground := Ground.data }, { on := 12, ground := Ground.guard }], guard := some (12, false) } : Oper)) (v := ?_) rfl (by kernel_rfl) (by kernel_rfl) (by kernel_rfl) (fun _ _ _ h => h) (Or.inl ⟨by rfl, ?_⟩) (by assumption) ?_
          rotate_left
          · rintro w ⟨s0, s1, s2⟩; (try dsimp only); go_simp; first | done | with_reducible rfl
          try simp only [Act.put, List.setIfInBounds_toArray, List.set_cons_zero, List.set_cons_succ]
          refine wpAnyH_take (i := 17) (oi := ({ dst := some 33, op := Op.pick (Operand.tmp 28) (Operand.const (Value.bool true)) (Operand.tmp 32), type := 4, pos := "watch.go:72", after := #[{ on := 12, ground := Ground.data }, { on := 16, ground := Ground.data }], guard := none } : Oper)) (v := ?_) rfl (by kernel_rfl) (by kernel_rfl) (by kernel_rfl) (fun _ _ _ h => h) (Or.inl ⟨by rfl, ?_⟩) (by assumption) ?_
          rotate_left
          · rintro w ⟨s0, s1, s2⟩; (try dsimp only); go_simp; first | done | with_reducible rfl
          try simp only [Act.put, List.setIfInBounds_toArray, List.set_cons_zero, List.set_cons_succ]
          refine wpAnyH_done (by kernel_rfl) ?_ _
          go_wp2_with fail
          go_roundw
          case rel =>
            obtain ⟨F2, hF2⟩ := HLD.out.next (HB1.out.trans (below_drewN (Below.refl _ _) 1 |>.mono HB1.out.size)) HD6.out HW3.out
            exact ⟨k + 1, F2, HLT.out, by go_num, hF2⟩
          case measure => have := HLT.out; simp [intOf]; omega
        · obtain ⟨v, hv⟩ : ∃ v, v = (wAdd x (xs.take k)).2 := ⟨_, rfl⟩
          rw [← hv] at HAD e1
          have hv1 : (v != 0) = true := by simpa using e1
          have HNO := Lib.hid e2
          clear HSTP e1 e2 hv
          go_wp2_with fail
          refine wp_region_held_drew (S := fun X => Box3 wr.heap.size x X) (by kernel_rfl) (HST.out _ ((Chg.refl F1 (wr.alloc (.cells #[.int .i64 x.client, .int .i64 x.kind, .string ⟨x.path.toArray⟩] 31))).drewN 1)) (fun hHeld => ?_)
          refine wpAnyH_take (i := 0) (oi := ({ dst := some 16, op := Op.move (Operand.tmp 6), type := 3, pos := "watch.go:72", after := #[], guard := none } : Oper)) (v := ?_) rfl (by kernel_rfl) (by kernel_rfl) (by kernel_rfl) (fun _ _ _ h => h) (Or.inl ⟨by rfl, ?_⟩) (by assumption) ?_
          rotate_left
          · rintro w ⟨s0, s1, s2⟩; (try dsimp only); go_simp; first | done | with_reducible rfl
          try simp only [Act.put, List.setIfInBounds_toArray, List.set_cons_zero, List.set_cons_succ]
          refine wpAnyH_take (i := 1) (oi := ({ dst := some 17, op := Op.binOp BinOp.gtr 3 (Operand.tmp 16) (Operand.const (Value.int IntKind.i64 0)) 3, type := 4, pos := "watch.go:72", after := #[{ on := 0, ground := Ground.data }], guard := none } : Oper)) (v := ?_) rfl (by kernel_rfl) (by kernel_rfl) (by kernel_rfl) (fun _ _ _ h => h) (Or.inl ⟨by rfl, ?_⟩) (by assumption) ?_
          rotate_left
          · rintro w ⟨s0, s1, s2⟩; (try dsimp only); go_simp; first | done | with_reducible rfl
          try simp only [Act.put, List.setIfInBounds_toArray, List.set_cons_zero, List.set_cons_succ]
          refine wpAnyH_take (i := 2) (oi := ({ dst := some 18, op := Op.move (Operand.tmp 17), type := 4, pos := "watch.go:72", after := #[{ on := 1, ground := Ground.data }], guard := none } : Oper)) (v := ?_) rfl (by kernel_rfl) (by kernel_rfl) (by kernel_rfl) (fun _ _ _ h => h) (Or.inl ⟨by rfl, ?_⟩) (by assumption) ?_
          rotate_left
          · rintro w ⟨s0, s1, s2⟩; (try dsimp only); go_simp; first | done | with_reducible rfl
          try simp only [Act.put, List.setIfInBounds_toArray, List.set_cons_zero, List.set_cons_succ]
          refine wpAnyH_take (i := 3) (oi := ({ dst := some 19, op := Op.move (Operand.tmp 1), type := 27, pos := "watch.go:72", after := #[{ on := 2, ground := Ground.guard }], guard := some (2, true) } : Oper)) (v := undef) rfl (by kernel_rfl) (by kernel_rfl) (by kernel_rfl) (fun _ _ _ h => h) (Or.inr ⟨by rfl, rfl⟩) (by assumption) ?_
          try simp only [Act.put, List.setIfInBounds_toArray, List.set_cons_zero, List.set_cons_succ]
          refine wpAnyH_take (i := 4) (oi := ({ dst := some 20, op := Op.move (Operand.tmp 6), type := 3, pos := "watch.go:72", after := #[{ on := 2, ground := Ground.guard }], guard := some (2, true) } : Oper)) (v := undef) rfl (by kernel_rfl) (by kernel_rfl) (by kernel_rfl) (fun _ _ _ h => h) (Or.inr ⟨by rfl, rfl⟩) (by assumption) ?_
          try simp only [Act.put, List.setIfInBounds_toArray, List.set_cons_zero, List.set_cons_succ]
          refine wpAnyH_take (i := 5) (oi := ({ dst := some 21, op := Op.binOp BinOp.sub 3 (Operand.tmp 20) (Operand.const (Value.int IntKind.i64 1)) 3, type := 3, pos := "watch.go:72", after := #[{ on := 4, ground := Ground.data }, { on := 2, ground := Ground.guard }], guard := some (2, true) } : Oper)) (v := undef) rfl (by kernel_rfl) (by kernel_rfl) (by kernel_rfl) (fun _ _ _ h => h) (Or.inr ⟨by rfl, rfl⟩) (by assumption) ?_
          try simp only [Act.put, List.setIfInBounds_toArray, List.set_cons_zero, List.set_cons_succ]
          refine wpAnyH_take (i := 6) (oi := ({ dst := some 22, op := Op.indexAddr 27 (Operand.tmp 19) (Operand.tmp 21), type := 0, pos := "watch.go:72", after := #[{ on := 3, ground := Ground.data }, { on := 5, ground := Ground.data }, { on := 2, ground := Ground.guard }], guard := some (2, true) } : Oper)) (v := undef) rfl (by kernel_rfl) (by kernel_rfl) (by kernel_rfl) (fun _ _ _ h => h) (Or.inr ⟨by rfl, rfl⟩) (by assumption) ?_
          try simp only [Act.put, List.setIfInBounds_toArray, List.set_cons_zero, List.set_cons_succ]
          refine wpAnyH_take (i := 7) (oi := ({ dst := some 23, op := Op.load 31 (Operand.tmp 22), type := 31, pos := "watch.go:72", after := #[{ on := 6, ground := Ground.data }, { on := 2, ground := Ground.guard }], guard := some (2, true) } : Oper)) (v := undef) rfl (by kernel_rfl) (by kernel_rfl) (by kernel_rfl) (fun _ _ _ h => h) (Or.inr ⟨by rfl, rfl⟩) (by assumption) ?_
          try simp only [Act.put, List.setIfInBounds_toArray, List.set_cons_zero, List.set_cons_succ]
          refine wpAnyH_take (i := 8) (oi := ({ dst := some 24, op := Op.load 31 (Operand.tmp 7), type := 31, pos := "watch.go:72", after := #[{ on := 2, ground := Ground.guard }], guard := some (2, true) } : Oper)) (v := undef) rfl (by kernel_rfl) (by kernel_rfl) (by kernel_rfl) (fun _ _ _ h => h) (Or.inr ⟨by rfl, rfl⟩) (by assumption) ?_
          try simp only [Act.put, List.setIfInBounds_toArray, List.set_cons_zero, List.set_cons_succ]
          refine wpAnyH_take (i := 9) (oi := ({ dst := some 25, op := Op.call { callee := Callee.value (Operand.func 30), args := #[Operand.tmp 23, Operand.tmp 24], argTypes := #[31, 31] }, type := 3, pos := "watch.go:72", after := #[{ on := 7, ground := Ground.data }, { on := 8, ground := Ground.data }, { on := 2, ground := Ground.chain }, { on := 2, ground := Ground.guard }], guard := some (2, true) } : Oper)) (v := undef) rfl (by kernel_rfl) (by kernel_rfl) (by kernel_rfl) (fun _ _ _ h => h) (Or.inr ⟨by rfl, rfl⟩) (by assumption) ?_
          try simp only [Act.put, List.setIfInBounds_toArray, List.set_cons_zero, List.set_cons_succ]
          refine wpAnyH_take (i := 10) (oi := ({ dst := some 26, op := Op.binOp BinOp.geq 3 (Operand.tmp 25) (Operand.const (Value.int IntKind.i64 0)) 3, type := 4, pos := "watch.go:72", after := #[{ on := 9, ground := Ground.data }, { on := 2, ground := Ground.guard }], guard := some (2, true) } : Oper)) (v := undef) rfl (by kernel_rfl) (by kernel_rfl) (by kernel_rfl) (fun _ _ _ h => h) (Or.inr ⟨by rfl, rfl⟩) (by assumption) ?_
          try simp only [Act.put, List.setIfInBounds_toArray, List.set_cons_zero, List.set_cons_succ]
          refine wpAnyH_take (i := 11) (oi := ({ dst := some 27, op := Op.pick (Operand.tmp 18) (Operand.tmp 26) (Operand.const (Value.bool false)), type := 4, pos := "watch.go:72", after := #[{ on := 2, ground := Ground.data }, { on := 10, ground := Ground.data }], guard := none } : Oper)) (v := ?_) rfl (by kernel_rfl) (by kernel_rfl) (by kernel_rfl) (fun _ _ _ h => h) (Or.inl ⟨by rfl, ?_⟩) (by assumption) ?_
          rotate_left
          · rintro w ⟨s0, s1, s2⟩; (try dsimp only); go_simp; first | done | with_reducible rfl
          try simp only [Act.put, List.setIfInBounds_toArray, List.set_cons_zero, List.set_cons_succ]
          refine wpAnyH_take (i := 12) (oi := ({ dst := some 28, op := Op.move (Operand.tmp 27), type := 4, pos := "watch.go:72", after := #[{ on := 11, ground := Ground.data }, { on := 9, ground := Ground.chain }], guard := none } : Oper)) (v := ?_) rfl (by kernel_rfl) (by kernel_rfl) (by kernel_rfl) (fun _ _ _ h => h) (Or.inl ⟨by rfl, ?_⟩) (by assumption) ?_
          rotate_left
          · rintro w ⟨s0, s1, s2⟩; (try dsimp only); go_simp; first | done | with_reducible rfl
          try simp only [Act.put, List.setIfInBounds_toArray, List.set_cons_zero, List.set_cons_succ]
          refine wpAnyH_take (i := 13) (oi := ({ dst := some 29, op := Op.move (Operand.tmp 5), type := 25, pos := "watch.go:72", after := #[{ on := 12, ground := Ground.guard }], guard := some (12, false) } : Oper)) (v := ?_) rfl (by kernel_rfl) (by kernel_rfl) (by kernel_rfl) (fun _ _ _ h => h) (Or.inl ⟨by rfl, ?_⟩) (by assumption) ?_
          rotate_left
          · rintro w ⟨s0, s1, s2⟩; (try dsimp only); go_simp; first | done | with_reducible rfl
          try simp only [Act.put, List.setIfInBounds_toArray, List.set_cons_zero, List.set_cons_succ]
          refine wpAnyH_take (i := 14) (oi := ({ dst := some 30, op := Op.load 31 (Operand.tmp 7), type := 31, pos := "watch.go:72", after := #[{ on := 12, ground := Ground.guard }], guard := some (12, false) } : Oper)) (v := ?_) rfl (by kernel_rfl) (by kernel_rfl) (by kernel_rfl) (fun _ _ _ h => h) (Or.inl ⟨by rfl, ?_⟩) (by assumption) ?_
          rotate_left
          · rintro w ⟨s0, s1, s2⟩; (try dsimp only); go_simp; first | done | with_reducible rfl
          try simp only [Act.put, List.setIfInBounds_toArray, List.set_cons_zero, List.set_cons_succ]
          refine wpAnyH_ready (rs := [15]) (by kernel_rfl) (by simp) ?_
          refine AllReadyH.cons (o := ({ dst := some 31, op := Op.call { callee := Callee.value (Operand.func 12), args := #[Operand.tmp 29, Operand.tmp 30], argTypes := #[25, 31] }, type := 36, pos := "watch.go:72", after := #[{ on := 13, ground := Ground.data }, { on := 14, ground := Ground.data }, { on := 12, ground := Ground.chain }, { on := 12, ground := Ground.guard }], guard := some (12, false) } : Oper)) rfl (fun K hK => ?_) AllReadyH.nil
          go_simp
          refine (HAD.out (wr.alloc (.cells #[.int .i64 x.client, .int .i64 x.kind, .string ⟨x.path.toArray⟩] 31)).drew (HB1.out.trans ((below_drewN (Below.refl _ _) 1).mono HB1.out.size))).mono ?_
          rintro e w6 hd6
          have HD6 := Lib.hid hd6
          obtain ⟨rfl, F2, hT2, hF2, hC2⟩ := hd6
          have HC6 := Lib.hid (((Chg.refl F1 (wr.alloc (.cells #[.int .i64 x.client, .int .i64 x.kind, .string ⟨x.path.toArray⟩] 31))).drewN 1).same hC2)
          clear hT2 hF2 hC2
          go_wp2_with fail
          refine hK.out _ _ (HST.out _ HC6.out) (fun hHeld => ?_)
          clear hK K
          try simp only [Act.put, List.setIfInBounds_toArray, List.set_cons_zero, List.set_cons_succ]
          refine wpAnyH_take (i := 16) (oi := ({ dst := some 32, op := Op.binOp BinOp.neq 36 (Operand.tmp 31) (Operand.const (Value.int IntKind.i64 0)) 36, type := 4, pos := "watch.go:72", after := #[{ on := 15, ground := Ground.data }, { on := 12, ground := Ground.guard }], guard := some (12, false) } : Oper)) (v := ?_) rfl (by kernel_rfl) (by kernel_rfl) (by kernel_rfl) (fun _ _ _ h => h) (Or.inl ⟨by rfl, ?_⟩) (by assumption) ?_
          rotate_left
          · rintro w ⟨s0, s1, s2⟩; (try dsimp only); go_simp; first | done | with_reducible rfl
          try simp only [Act.put, List.setIfInBounds_toArray, List.set_cons_zero, List.set_cons_succ]
          refine wpAnyH_take (i := 17) (oi := ({ dst := some 33, op := Op.pick (Operand.tmp 28) (Operand.const (Value.bool true)) (Operand.tmp 32), type := 4, pos := "watch.go:72", after := #[{ on := 12, ground := Ground.data }, { on := 16, ground := Ground.data }], guard := none } : Oper)) (v := ?_) rfl (by kernel_rfl) (by kernel_rfl) (by kernel_rfl) (fun _ _ _ h => h) (Or.inl ⟨by rfl, ?_⟩) (by assumption) ?_
          rotate_left
          · rintro w ⟨s0, s1, s2⟩; (try dsimp only); go_simp; first | done | with_reducible rfl
          try simp only [Act.put, List.setIfInBounds_toArray, List.set_cons_zero, List.set_cons_succ]
          refine wpAnyH_done (by kernel_rfl) ?_ _
          go_wp2_with fail
          go_ret
          exact load_no HT.out HNO.out HLD.out (HB1.out.trans (below_drewN (Below.refl _ _) 1 |>.mono HB1.out.size)) HD6.out
      · obtain ⟨j, hj⟩ : ∃ j, k = j + 1 := ⟨k - 1, by omega⟩
        have hjx : j < xs.length := by omega
        have hy : xs[j]? = some xs[j] := List.getElem?_eq_getElem hjx
        obtain ⟨a', ea, _, f0, f1, f2⟩ := (HX.out.below hbw).wt3 hy
        obtain rfl := Option.some.inj ea
        have hgt : decide ((0 : Int) < (k : Int)) = true := decide_eq_true (by omega)
        have hgn : decide (0 < k) = true := decide_eq_true (by omega)
        have y5 : 0 < k := by omega
        have hkj : IntKind.i64.wrap ((k : Int) - 1) = (j : Int) := by rw [IntKind.wrap_i64]; omega
        have y3 : (0 : Int) ≤ (j : Int) := by omega
        have y4 : (j : Int) < (n : Int) := by omega
        generalize xs[j] = y at *
        have HR3 := Lib.hid (show Row3 a j y wr from ⟨f0, f1, f2⟩)
        have HST := Lib.hid (fun X (hX : Chg F1 (wr.alloc (.cells #[.int .i64 x.client, .int .i64 x.kind, .string ⟨x.path.toArray⟩] 31)) X) => (show Box3 wr.heap.size x X ∧ Row3 a j y X from ⟨HKB.out.chg hX HAB.out, (HR3.out.chg (Chg.of_below F1 hb1) HAF.out).chg hX HAF.out⟩))
        have HCM := Lib.hid (fun W => show Calls Tryd.prog 30 #[.agg #[.int .i64 y.client, .int .i64 y.kind, .string ⟨y.path.toArray⟩], .agg #[.int .i64 x.client, .int .i64 x.kind, .string ⟨x.path.toArray⟩]] W (Ans (.int .i64 (wCmp y x)) W) from compareW_any y x W)
        by_cases hyx : wLt y x
        · have HSTP := Lib.hid (load_step hld.2.1 hx (.inr ⟨j, y, hj, hy, hyx⟩))
          obtain ⟨cv, hcv⟩ : ∃ cv, cv = wCmp y x := ⟨_, rfl⟩
          rw [← hcv] at HCM
          have hc1 : decide (cv ≥ 0) = false := decide_eq_false (by have := wCmp_lt.2 hyx; omega)
          clear hld hx hkx hlt hk hbw hal hal0 hb1 hk0 hj hjx hy f0 f1 f2 hcv hyx
          rcases HSTP.out with ⟨e1, e2, e3⟩ | ⟨e1, e2⟩
          · rw [e1, e2] at HAD
            have HW3 := Lib.hid e3
            clear HSTP e1 e2 e3
            go_wp2_with fail
            refine wp_region_held_drew (S := fun X => Box3 wr.heap.size x X ∧ Row3 a j y X) (by kernel_rfl) (HST.out _ ((Chg.refl F1 (wr.alloc (.cells #[.int .i64 x.client, .int .i64 x.kind, .string ⟨x.path.toArray⟩] 31))).drewN 1)) (fun hHeld => ?_)
            refine wpAnyH_take (i := 0) (oi := ({ dst := some 16, op := Op.move (Operand.tmp 6), type := 3, pos := "watch.go:72", after := #[], guard := none } : Oper)) (v := ?_) rfl (by kernel_rfl) (by kernel_rfl) (by kernel_rfl) (fun _ _ _ h => h) (Or.inl ⟨by rfl, ?_⟩) (by assumption) ?_
            rotate_left
            · rintro w ⟨⟨s0, s1, s2⟩, s3, s4, s5⟩; (try dsimp only); go_simp; first | done | with_reducible rfl
            try simp only [Act.put, List.setIfInBounds_toArray, List.set_cons_zero, List.set_cons_succ]
            refine wpAnyH_take (i := 1) (oi := ({ dst := some 17, op := Op.binOp BinOp.gtr 3 (Operand.tmp 16) (Operand.const (Value.int IntKind.i64 0)) 3, type := 4, pos := "watch.go:72", after := #[{ on := 0, ground := Ground.data }], guard := none } : Oper)) (v := ?_) rfl (by kernel_rfl) (by kernel_rfl) (by kernel_rfl) (fun _ _ _ h => h) (Or.inl ⟨by rfl, ?_⟩) (by assumption) ?_
            rotate_left
            · rintro w ⟨⟨s0, s1, s2⟩, s3, s4, s5⟩; (try dsimp only); go_simp; first | done | with_reducible rfl
            try simp only [Act.put, List.setIfInBounds_toArray, List.set_cons_zero, List.set_cons_succ]
            refine wpAnyH_take (i := 2) (oi := ({ dst := some 18, op := Op.move (Operand.tmp 17), type := 4, pos := "watch.go:72", after := #[{ on := 1, ground := Ground.data }], guard := none } : Oper)) (v := ?_) rfl (by kernel_rfl) (by kernel_rfl) (by kernel_rfl) (fun _ _ _ h => h) (Or.inl ⟨by rfl, ?_⟩) (by assumption) ?_
            rotate_left
            · rintro w ⟨⟨s0, s1, s2⟩, s3, s4, s5⟩; (try dsimp only); go_simp; first | done | with_reducible rfl
            try simp only [Act.put, List.setIfInBounds_toArray, List.set_cons_zero, List.set_cons_succ]
            refine wpAnyH_take (i := 3) (oi := ({ dst := some 19, op := Op.move (Operand.tmp 1), type := 27, pos := "watch.go:72", after := #[{ on := 2, ground := Ground.guard }], guard := some (2, true) } : Oper)) (v := ?_) rfl (by kernel_rfl) (by kernel_rfl) (by kernel_rfl) (fun _ _ _ h => h) (Or.inl ⟨by rfl, ?_⟩) (by assumption) ?_
            rotate_left
            · rintro w ⟨⟨s0, s1, s2⟩, s3, s4, s5⟩; (try dsimp only); go_simp; first | done | with_reducible rfl
            try simp only [Act.put, List.setIfInBounds_toArray, List.set_cons_zero, List.set_cons_succ]
            refine wpAnyH_take (i := 4) (oi := ({ dst := some 20, op := Op.move (Operand.tmp 6), type := 3, pos := "watch.go:72", after := #[{ on := 2, ground := Ground.guard }], guard := some (2, true) } : Oper)) (v := ?_) rfl (by kernel_rfl) (by kernel_rfl) (by kernel_rfl) (fun _ _ _ h => h) (Or.inl ⟨by rfl, ?_⟩) (by assumption) ?_
            rotate_left
            · rintro w ⟨⟨s0, s1, s2⟩, s3, s4, s5⟩; (try dsimp only); go_simp; first | done | with_reducible rfl
            try simp only [Act.put, List.setIfInBounds_toArray, List.set_cons_zero, List.set_cons_succ]
            refine wpAnyH_take (i := 5) (oi := ({ dst := some 21, op := Op.binOp BinOp.sub 3 (Operand.tmp 20) (Operand.const (Value.int IntKind.i64 1)) 3, type := 3, pos := "watch.go:72", after := #[{ on := 4, ground := Ground.data }, { on := 2, ground := Ground.guard }], guard := some (2, true) } : Oper)) (v := ?_) rfl (by kernel_rfl) (by kernel_rfl) (by kernel_rfl) (fun _ _ _ h => h) (Or.inl ⟨by rfl, ?_⟩) (by assumption) ?_
            rotate_left
            · rintro w ⟨⟨s0, s1, s2⟩, s3, s4, s5⟩; (try dsimp only); go_simp; first | done | with_reducible rfl
            try simp only [Act.put, List.setIfInBounds_toArray, List.set_cons_zero, List.set_cons_succ]
            refine wpAnyH_take (i := 6) (oi := ({ dst := some 22, op := Op.indexAddr 27 (Operand.tmp 19) (Operand.tmp 21), type := 0, pos := "watch.go:72", after := #[{ on := 3, ground := Ground.data }, { on := 5, ground := Ground.data }, { on := 2, ground := Ground.guard }], guard := some (2, true) } : Oper)) (v := ?_) rfl (by kernel_rfl) (by kernel_rfl) (by kernel_rfl) (fun _ _ _ h => h) (Or.inl ⟨by rfl, ?_⟩) (by assumption) ?_
            rotate_left
            · rintro w ⟨⟨s0, s1, s2⟩, s3, s4, s5⟩; (try dsimp only); go_simp; first | done | with_reducible rfl
            try simp only [Act.put, List.setIfInBounds_toArray, List.set_cons_zero, List.set_cons_succ]
            refine wpAnyH_take (i := 7) (oi := ({ dst := some 23, op := Op.load 31 (Operand.tmp 22), type := 31, pos := "watch.go:72", after := #[{ on := 6, ground := Ground.data }, { on := 2, ground := Ground.guard }], guard := some (2, true) } : Oper)) (v := ?_) rfl (by kernel_rfl) (by kernel_rfl) (by kernel_rfl) (fun _ _ _ h => h) (Or.inl ⟨by rfl, ?_⟩) (by assumption) ?_
            rotate_left
            · rintro w ⟨⟨s0, s1, s2⟩, s3, s4, s5⟩; (try dsimp only); go_simp; first | done | with_reducible rfl
            try simp only [Act.put, List.setIfInBounds_toArray, List.set_cons_zero, List.set_cons_succ]
            refine wpAnyH_take (i := 8) (oi := ({ dst := some 24, op := Op.load 31 (Operand.tmp 7), type := 31, pos := "watch.go:72", after := #[{ on := 2, ground := Ground.guard }], guard := some (2, true) } : Oper)) (v := ?_) rfl (by kernel_rfl) (by kernel_rfl) (by kernel_rfl) (fun _ _ _ h => h) (Or.inl ⟨by rfl, ?_⟩) (by assumption) ?_
            rotate_left
            · rintro w ⟨⟨s0, s1, s2⟩, s3, s4, s5⟩; (try dsimp only); go_simp; first | done | with_reducible rfl
            try simp only [Act.put, List.setIfInBounds_toArray, List.set_cons_zero, List.set_cons_succ]
            refine wpAnyH_ready (rs := [9]) (by kernel_rfl) (by simp) ?_
            refine AllReadyH.cons (o := ({ dst := some 25, op := Op.call { callee := Callee.value (Operand.func 30), args := #[Operand.tmp 23, Operand.tmp 24], argTypes := #[31, 31] }, type := 3, pos := "watch.go:72", after := #[{ on := 7, ground := Ground.data }, { on := 8, ground := Ground.data }, { on := 2, ground := Ground.chain }, { on := 2, ground := Ground.guard }], guard := some (2, true) } : Oper)) rfl (fun K hK => ?_) AllReadyH.nil
            go_simp
            refine (HCM.out _).mono ?_
            rintro e w5 ⟨rfl, hb5⟩
            have HB5a := Lib.hid (show Below (wr.alloc (.cells #[.int .i64 x.client, .int .i64 x.kind, .string ⟨x.path.toArray⟩] 31)).heap.size (wr.alloc (.cells #[.int .i64 x.client, .int .i64 x.kind, .string ⟨x.path.toArray⟩] 31)) w5 from (below_undrawn (n := 1) hb5))
            have HB5 := Lib.hid (HB1.out.trans (HB5a.out.mono HB1.out.size))
            clear hb5
            go_wp2_with fail
            refine hK.out _ _ (HST.out _ (Chg.of_below F1 HB5a.out)) (fun hHeld => ?_)
            clear hK K
            try simp only [Act.put, List.setIfInBounds_toArray, List.set_cons_zero, List.set_cons_succ]
            refine wpAnyH_take (i := 10) (oi := ({ dst := some 26, op := Op.binOp BinOp.geq 3 (Operand.tmp 25) (Operand.const (Value.int IntKind.i64 0)) 3, type := 4, pos := "watch.go:72", after := #[{ on := 9, ground := Ground.data }, { on := 2, ground := Ground.guard }], guard := some (2, true) } : Oper)) (v := ?_) rfl (by kernel_rfl) (by kernel_rfl) (by kernel_rfl) (fun _ _ _ h => h) (Or.inl ⟨by rfl, ?_⟩) (by assumption) ?_
            rotate_left
            · rintro w ⟨⟨s0, s1, s2⟩, s3, s4, s5⟩; (try dsimp only); go_simp; first | done | with_reducible rfl
            try simp only [Act.put, List.setIfInBounds_toArray, List.set_cons_zero, List.set_cons_succ]
            refine wpAnyH_take (i := 11) (oi := ({ dst := some 27, op := Op.pick (Operand.tmp 18) (Operand.tmp 26) (Operand.const (Value.bool false)), type := 4, pos := "watch.go:72", after := #[{ on := 2, ground := Ground.data }, { on := 10, ground := Ground.data }], guard := none } : Oper)) (v := ?_) rfl (by kernel_rfl) (by kernel_rfl) (by kernel_rfl) (fun _ _ _ h => h) (Or.inl ⟨by rfl, ?_⟩) (by assumption) ?_
            rotate_left
            · rintro w ⟨⟨s0, s1, s2⟩, s3, s4, s5⟩; (try dsimp only); go_simp; first | done | with_reducible rfl
            try simp only [Act.put, List.setIfInBounds_toArray, List.set_cons_zero, List.set_cons_succ]
            refine wpAnyH_take (i := 12) (oi := ({ dst := some 28, op := Op.move (Operand.tmp 27), type := 4, pos := "watch.go:72", after := #[{ on := 11, ground := Ground.data }, { on := 9, ground := Ground.chain }], guard := none } : Oper)) (v := ?_) rfl (by kernel_rfl) (by kernel_rfl) (by kernel_rfl) (fun _ _ _ h => h) (Or.inl ⟨by rfl, ?_⟩) (by assumption) ?_
            rotate_left
            · rintro w ⟨⟨s0, s1, s2⟩, s3, s4, s5⟩; (try dsimp only); go_simp; first | done | with_reducible rfl
            try simp only [Act.put, List.setIfInBounds_toArray, List.set_cons_zero, List.set_cons_succ]
            refine wpAnyH_take (i := 13) (oi := ({ dst := some 29, op := Op.move (Operand.tmp 5), type := 25, pos := "watch.go:72", after := #[{ on := 12, ground := Ground.guard }], guard := some (12, false) } : Oper)) (v := ?_) rfl (by kernel_rfl) (by kernel_rfl) (by kernel_rfl) (fun _ _ _ h => h) (Or.inl ⟨by rfl, ?_⟩) (by assumption) ?_
            rotate_left
            · rintro w ⟨⟨s0, s1, s2⟩, s3, s4, s5⟩; (try dsimp only); go_simp; first | done | with_reducible rfl
            try simp only [Act.put, List.setIfInBounds_toArray, List.set_cons_zero, List.set_cons_succ]
            refine wpAnyH_take (i := 14) (oi := ({ dst := some 30, op := Op.load 31 (Operand.tmp 7), type := 31, pos := "watch.go:72", after := #[{ on := 12, ground := Ground.guard }], guard := some (12, false) } : Oper)) (v := ?_) rfl (by kernel_rfl) (by kernel_rfl) (by kernel_rfl) (fun _ _ _ h => h) (Or.inl ⟨by rfl, ?_⟩) (by assumption) ?_
            rotate_left
            · rintro w ⟨⟨s0, s1, s2⟩, s3, s4, s5⟩; (try dsimp only); go_simp; first | done | with_reducible rfl
            try simp only [Act.put, List.setIfInBounds_toArray, List.set_cons_zero, List.set_cons_succ]
            refine wpAnyH_ready (rs := [15]) (by kernel_rfl) (by simp) ?_
            refine AllReadyH.cons (o := ({ dst := some 31, op := Op.call { callee := Callee.value (Operand.func 12), args := #[Operand.tmp 29, Operand.tmp 30], argTypes := #[25, 31] }, type := 36, pos := "watch.go:72", after := #[{ on := 13, ground := Ground.data }, { on := 14, ground := Ground.data }, { on := 12, ground := Ground.chain }, { on := 12, ground := Ground.guard }], guard := some (12, false) } : Oper)) rfl (fun K hK => ?_) AllReadyH.nil
            go_simp
            refine (HAD.out w5 HB5.out).mono ?_
            rintro e w6 hd6
            have HD6 := Lib.hid hd6
            obtain ⟨rfl, F2, hT2, hF2, hC2⟩ := hd6
            have HC6 := Lib.hid ((Chg.of_below F1 HB5a.out).same hC2)
            clear hT2 hF2 hC2
            go_wp2_with fail
            refine hK.out _ _ (HST.out _ HC6.out) (fun hHeld => ?_)
            clear hK K
            try simp only [Act.put, List.setIfInBounds_toArray, List.set_cons_zero, List.set_cons_succ]
            refine wpAnyH_take (i := 16) (oi := ({ dst := some 32, op := Op.binOp BinOp.neq 36 (Operand.tmp 31) (Operand.const (Value.int IntKind.i64 0)) 36, type := 4, pos := "watch.go:72", after := #[{ on := 15, ground := Ground.data }, { on := 12, ground := Ground.guard }], guard := some (12, false) } : Oper)) (v := ?_) rfl (by kernel_rfl) (by kernel_rfl) (by kernel_rfl) (fun _ _ _ h => h) (Or.inl ⟨by rfl, ?_⟩) (by assumption) ?_
            rotate_left
            · rintro w ⟨⟨s0, s1, s2⟩, s3, s4, s5⟩; (try dsimp only); go_simp; first | done | with_reducible rfl
            try simp only [Act.put, List.setIfInBounds_toArray, List.set_cons_zero, List.set_cons_succ]
            refine wpAnyH_take (i := 17) (oi := ({ dst := some 33, op := Op.pick (Operand.tmp 28) (Operand.const (Value.bool true)) (Operand.tmp 32), type := 4, pos := "watch.go:72", after := #[{ on := 12, ground := Ground.data }, { on := 16, ground := Ground.data }], guard := none } : Oper)) (v := ?_) rfl (by kernel_rfl) (by kernel_rfl) (by kernel_rfl) (fun _ _ _ h => h) (Or.inl ⟨by rfl, ?_⟩) (by assumption) ?_
            rotate_left
            · rintro w ⟨⟨s0, s1, s2⟩, s3, s4, s5⟩; (try dsimp only); go_simp; first | done | with_reducible rfl
            try simp only [Act.put, List.setIfInBounds_toArray, List.set_cons_zero, List.set_cons_succ]
            refine wpAnyH_done (by kernel_rfl) ?_ _
            go_wp2_with fail
            go_roundw
            case rel =>
              obtain ⟨F2, hF2⟩ := HLD.out.next HB5.out HD6.out HW3.out
              exact ⟨k + 1, F2, HLT.out, by go_num, hF2⟩
            case measure => have := HLT.out; simp [intOf]; omega
          · obtain ⟨v, hv⟩ : ∃ v, v = (wAdd x (xs.take k)).2 := ⟨_, rfl⟩
            rw [← hv] at HAD e1
            have hv1 : (v != 0) = true := by simpa using e1
            have HNO := Lib.hid e2
            clear HSTP e1 e2 hv
            go_wp2_with fail
            refine wp_region_held_drew (S := fun X => Box3 wr.heap.size x X ∧ Row3 a j y X) (by kernel_rfl) (HST.out _ ((Chg.refl F1 (wr.alloc (.cells #[.int .i64 x.client, .int .i64 x.kind, .string ⟨x.path.toArray⟩] 31))).drewN 1)) (fun hHeld => ?_)
            refine wpAnyH_take (i := 0) (oi := ({ dst := some 16, op := Op.move (Operand.tmp 6), type := 3, pos := "watch.go:72", after := #[], guard := none } : Oper)) (v := ?_) rfl (by kernel_rfl) (by kernel_rfl) (by kernel_rfl) (fun _ _ _ h => h) (Or.inl ⟨by rfl, ?_⟩) (by assumption) ?_
            rotate_left
            · rintro w ⟨⟨s0, s1, s2⟩, s3, s4, s5⟩; (try dsimp only); go_simp; first | done | with_reducible rfl
            try simp only [Act.put, List.setIfInBounds_toArray, List.set_cons_zero, List.set_cons_succ]
            refine wpAnyH_take (i := 1) (oi := ({ dst := some 17, op := Op.binOp BinOp.gtr 3 (Operand.tmp 16) (Operand.const (Value.int IntKind.i64 0)) 3, type := 4, pos := "watch.go:72", after := #[{ on := 0, ground := Ground.data }], guard := none } : Oper)) (v := ?_) rfl (by kernel_rfl) (by kernel_rfl) (by kernel_rfl) (fun _ _ _ h => h) (Or.inl ⟨by rfl, ?_⟩) (by assumption) ?_
            rotate_left
            · rintro w ⟨⟨s0, s1, s2⟩, s3, s4, s5⟩; (try dsimp only); go_simp; first | done | with_reducible rfl
            try simp only [Act.put, List.setIfInBounds_toArray, List.set_cons_zero, List.set_cons_succ]
            refine wpAnyH_take (i := 2) (oi := ({ dst := some 18, op := Op.move (Operand.tmp 17), type := 4, pos := "watch.go:72", after := #[{ on := 1, ground := Ground.data }], guard := none } : Oper)) (v := ?_) rfl (by kernel_rfl) (by kernel_rfl) (by kernel_rfl) (fun _ _ _ h => h) (Or.inl ⟨by rfl, ?_⟩) (by assumption) ?_
            rotate_left
            · rintro w ⟨⟨s0, s1, s2⟩, s3, s4, s5⟩; (try dsimp only); go_simp; first | done | with_reducible rfl
            try simp only [Act.put, List.setIfInBounds_toArray, List.set_cons_zero, List.set_cons_succ]
            refine wpAnyH_take (i := 3) (oi := ({ dst := some 19, op := Op.move (Operand.tmp 1), type := 27, pos := "watch.go:72", after := #[{ on := 2, ground := Ground.guard }], guard := some (2, true) } : Oper)) (v := ?_) rfl (by kernel_rfl) (by kernel_rfl) (by kernel_rfl) (fun _ _ _ h => h) (Or.inl ⟨by rfl, ?_⟩) (by assumption) ?_
            rotate_left
            · rintro w ⟨⟨s0, s1, s2⟩, s3, s4, s5⟩; (try dsimp only); go_simp; first | done | with_reducible rfl
            try simp only [Act.put, List.setIfInBounds_toArray, List.set_cons_zero, List.set_cons_succ]
            refine wpAnyH_take (i := 4) (oi := ({ dst := some 20, op := Op.move (Operand.tmp 6), type := 3, pos := "watch.go:72", after := #[{ on := 2, ground := Ground.guard }], guard := some (2, true) } : Oper)) (v := ?_) rfl (by kernel_rfl) (by kernel_rfl) (by kernel_rfl) (fun _ _ _ h => h) (Or.inl ⟨by rfl, ?_⟩) (by assumption) ?_
            rotate_left
            · rintro w ⟨⟨s0, s1, s2⟩, s3, s4, s5⟩; (try dsimp only); go_simp; first | done | with_reducible rfl
            try simp only [Act.put, List.setIfInBounds_toArray, List.set_cons_zero, List.set_cons_succ]
            refine wpAnyH_take (i := 5) (oi := ({ dst := some 21, op := Op.binOp BinOp.sub 3 (Operand.tmp 20) (Operand.const (Value.int IntKind.i64 1)) 3, type := 3, pos := "watch.go:72", after := #[{ on := 4, ground := Ground.data }, { on := 2, ground := Ground.guard }], guard := some (2, true) } : Oper)) (v := ?_) rfl (by kernel_rfl) (by kernel_rfl) (by kernel_rfl) (fun _ _ _ h => h) (Or.inl ⟨by rfl, ?_⟩) (by assumption) ?_
            rotate_left
            · rintro w ⟨⟨s0, s1, s2⟩, s3, s4, s5⟩; (try dsimp only); go_simp; first | done | with_reducible rfl
            try simp only [Act.put, List.setIfInBounds_toArray, List.set_cons_zero, List.set_cons_succ]
            refine wpAnyH_take (i := 6) (oi := ({ dst := some 22, op := Op.indexAddr 27 (Operand.tmp 19) (Operand.tmp 21), type := 0, pos := "watch.go:72", after := #[{ on := 3, ground := Ground.data }, { on := 5, ground := Ground.data }, { on := 2, ground := Ground.guard }], guard := some (2, true) } : Oper)) (v := ?_) rfl (by kernel_rfl) (by kernel_rfl) (by kernel_rfl) (fun _ _ _ h => h) (Or.inl ⟨by rfl, ?_⟩) (by assumption) ?_
            rotate_left
            · rintro w ⟨⟨s0, s1, s2⟩, s3, s4, s5⟩; (try dsimp only); go_simp; first | done | with_reducible rfl
            try simp only [Act.put, List.setIfInBounds_toArray, List.set_cons_zero, List.set_cons_succ]
            refine wpAnyH_take (i := 7) (oi := ({ dst := some 23, op := Op.load 31 (Operand.tmp 22), type := 31, pos := "watch.go:72", after := #[{ on := 6, ground := Ground.data }, { on := 2, ground := Ground.guard }], guard := some (2, true) } : Oper)) (v := ?_) rfl (by kernel_rfl) (by kernel_rfl) (by kernel_rfl) (fun _ _ _ h => h) (Or.inl ⟨by rfl, ?_⟩) (by assumption) ?_
            rotate_left
            · rintro w ⟨⟨s0, s1, s2⟩, s3, s4, s5⟩; (try dsimp only); go_simp; first | done | with_reducible rfl
            try simp only [Act.put, List.setIfInBounds_toArray, List.set_cons_zero, List.set_cons_succ]
            refine wpAnyH_take (i := 8) (oi := ({ dst := some 24, op := Op.load 31 (Operand.tmp 7), type := 31, pos := "watch.go:72", after := #[{ on := 2, ground := Ground.guard }], guard := some (2, true) } : Oper)) (v := ?_) rfl (by kernel_rfl) (by kernel_rfl) (by kernel_rfl) (fun _ _ _ h => h) (Or.inl ⟨by rfl, ?_⟩) (by assumption) ?_
            rotate_left
            · rintro w ⟨⟨s0, s1, s2⟩, s3, s4, s5⟩; (try dsimp only); go_simp; first | done | with_reducible rfl
            try simp only [Act.put, List.setIfInBounds_toArray, List.set_cons_zero, List.set_cons_succ]
            refine wpAnyH_ready (rs := [9]) (by kernel_rfl) (by simp) ?_
            refine AllReadyH.cons (o := ({ dst := some 25, op := Op.call { callee := Callee.value (Operand.func 30), args := #[Operand.tmp 23, Operand.tmp 24], argTypes := #[31, 31] }, type := 3, pos := "watch.go:72", after := #[{ on := 7, ground := Ground.data }, { on := 8, ground := Ground.data }, { on := 2, ground := Ground.chain }, { on := 2, ground := Ground.guard }], guard := some (2, true) } : Oper)) rfl (fun K hK => ?_) AllReadyH.nil
            go_simp
            refine (HCM.out _).mono ?_
            rintro e w5 ⟨rfl, hb5⟩
            have HB5a := Lib.hid (show Below (wr.alloc (.cells #[.int .i64 x.client, .int .i64 x.kind, .string ⟨x.path.toArray⟩] 31)).heap.size (wr.alloc (.cells #[.int .i64 x.client, .int .i64 x.kind, .string ⟨x.path.toArray⟩] 31)) w5 from (below_undrawn (n := 1) hb5))
            have HB5 := Lib.hid (HB1.out.trans (HB5a.out.mono HB1.out.size))
            clear hb5
            go_wp2_with fail
            refine hK.out _ _ (HST.out _ (Chg.of_below F1 HB5a.out)) (fun hHeld => ?_)
            clear hK K
            try simp only [Act.put, List.setIfInBounds_toArray, List.set_cons_zero, List.set_cons_succ]
            refine wpAnyH_take (i := 10) (oi := ({ dst := some 26, op := Op.binOp BinOp.geq 3 (Operand.tmp 25) (Operand.const (Value.int IntKind.i64 0)) 3, type := 4, pos := "watch.go:72", after := #[{ on := 9, ground := Ground.data }, { on := 2, ground := Ground.guard }], guard := some (2, true) } : Oper)) (v := ?_) rfl (by kernel_rfl) (by kernel_rfl) (by kernel_rfl) (fun _ _ _ h => h) (Or.inl ⟨by rfl, ?_⟩) (by assumption) ?_
            rotate_left
            · rintro w ⟨⟨s0, s1, s2⟩, s3, s4, s5⟩; (try dsimp only); go_simp; first | done | with_reducible rfl
            try simp only [Act.put, List.setIfInBounds_toArray, List.set_cons_zero, List.set_cons_succ]
            refine wpAnyH_take (i := 11) (oi := ({ dst := some 27, op := Op.pick (Operand.tmp 18) (Operand.tmp 26) (Operand.const (Value.bool false)), type := 4, pos := "watch.go:72", after := #[{ on := 2, ground := Ground.data }, { on := 10, ground := Ground.data }], guard := none } : Oper)) (v := ?_) rfl (by kernel_rfl) (by kernel_rfl) (by kernel_rfl) (fun _ _ _ h => h) (Or.inl ⟨by rfl, ?_⟩) (by assumption) ?_
            rotate_left
            · rintro w ⟨⟨s0, s1, s2⟩, s3, s4, s5⟩; (try dsimp only); go_simp; first | done | with_reducible rfl
            try simp only [Act.put, List.setIfInBounds_toArray, List.set_cons_zero, List.set_cons_succ]
            refine wpAnyH_take (i := 12) (oi := ({ dst := some 28, op := Op.move (Operand.tmp 27), type := 4, pos := "watch.go:72", after := #[{ on := 11, ground := Ground.data }, { on := 9, ground := Ground.chain }], guard := none } : Oper)) (v := ?_) rfl (by kernel_rfl) (by kernel_rfl) (by kernel_rfl) (fun _ _ _ h => h) (Or.inl ⟨by rfl, ?_⟩) (by assumption) ?_
            rotate_left
            · rintro w ⟨⟨s0, s1, s2⟩, s3, s4, s5⟩; (try dsimp only); go_simp; first | done | with_reducible rfl
            try simp only [Act.put, List.setIfInBounds_toArray, List.set_cons_zero, List.set_cons_succ]
            refine wpAnyH_take (i := 13) (oi := ({ dst := some 29, op := Op.move (Operand.tmp 5), type := 25, pos := "watch.go:72", after := #[{ on := 12, ground := Ground.guard }], guard := some (12, false) } : Oper)) (v := ?_) rfl (by kernel_rfl) (by kernel_rfl) (by kernel_rfl) (fun _ _ _ h => h) (Or.inl ⟨by rfl, ?_⟩) (by assumption) ?_
            rotate_left
            · rintro w ⟨⟨s0, s1, s2⟩, s3, s4, s5⟩; (try dsimp only); go_simp; first | done | with_reducible rfl
            try simp only [Act.put, List.setIfInBounds_toArray, List.set_cons_zero, List.set_cons_succ]
            refine wpAnyH_take (i := 14) (oi := ({ dst := some 30, op := Op.load 31 (Operand.tmp 7), type := 31, pos := "watch.go:72", after := #[{ on := 12, ground := Ground.guard }], guard := some (12, false) } : Oper)) (v := ?_) rfl (by kernel_rfl) (by kernel_rfl) (by kernel_rfl) (fun _ _ _ h => h) (Or.inl ⟨by rfl, ?_⟩) (by assumption) ?_
            rotate_left
            · rintro w ⟨⟨s0, s1, s2⟩, s3, s4, s5⟩; (try dsimp only); go_simp; first | done | with_reducible rfl
            try simp only [Act.put, List.setIfInBounds_toArray, List.set_cons_zero, List.set_cons_succ]
            refine wpAnyH_ready (rs := [15]) (by kernel_rfl) (by simp) ?_
            refine AllReadyH.cons (o := ({ dst := some 31, op := Op.call { callee := Callee.value (Operand.func 12), args := #[Operand.tmp 29, Operand.tmp 30], argTypes := #[25, 31] }, type := 36, pos := "watch.go:72", after := #[{ on := 13, ground := Ground.data }, { on := 14, ground := Ground.data }, { on := 12, ground := Ground.chain }, { on := 12, ground := Ground.guard }], guard := some (12, false) } : Oper)) rfl (fun K hK => ?_) AllReadyH.nil
            go_simp
            refine (HAD.out w5 HB5.out).mono ?_
            rintro e w6 hd6
            have HD6 := Lib.hid hd6
            obtain ⟨rfl, F2, hT2, hF2, hC2⟩ := hd6
            have HC6 := Lib.hid ((Chg.of_below F1 HB5a.out).same hC2)
            clear hT2 hF2 hC2
            go_wp2_with fail
            refine hK.out _ _ (HST.out _ HC6.out) (fun hHeld => ?_)
            clear hK K
            try simp only [Act.put, List.setIfInBounds_toArray, List.set_cons_zero, List.set_cons_succ]
            refine wpAnyH_take (i := 16) (oi := ({ dst := some 32, op := Op.binOp BinOp.neq 36 (Operand.tmp 31) (Operand.const (Value.int IntKind.i64 0)) 36, type := 4, pos := "watch.go:72", after := #[{ on := 15, ground := Ground.data }, { on := 12, ground := Ground.guard }], guard := some (12, false) } : Oper)) (v := ?_) rfl (by kernel_rfl) (by kernel_rfl) (by kernel_rfl) (fun _ _ _ h => h) (Or.inl ⟨by rfl, ?_⟩) (by assumption) ?_
            rotate_left
            · rintro w ⟨⟨s0, s1, s2⟩, s3, s4, s5⟩; (try dsimp only); go_simp; first | done | with_reducible rfl
            try simp only [Act.put, List.setIfInBounds_toArray, List.set_cons_zero, List.set_cons_succ]
            refine wpAnyH_take (i := 17) (oi := ({ dst := some 33, op := Op.pick (Operand.tmp 28) (Operand.const (Value.bool true)) (Operand.tmp 32), type := 4, pos := "watch.go:72", after := #[{ on := 12, ground := Ground.data }, { on := 16, ground := Ground.data }], guard := none } : Oper)) (v := ?_) rfl (by kernel_rfl) (by kernel_rfl) (by kernel_rfl) (fun _ _ _ h => h) (Or.inl ⟨by rfl, ?_⟩) (by assumption) ?_
            rotate_left
            · rintro w ⟨⟨s0, s1, s2⟩, s3, s4, s5⟩; (try dsimp only); go_simp; first | done | with_reducible rfl
            try simp only [Act.put, List.setIfInBounds_toArray, List.set_cons_zero, List.set_cons_succ]
            refine wpAnyH_done (by kernel_rfl) ?_ _
            go_wp2_with fail
            go_ret
            exact load_no HT.out HNO.out HLD.out HB5.out HD6.out
        · have HNO := Lib.hid (load_bad (hj ▸ hx) hy hyx)
          obtain ⟨cv, hcv⟩ : ∃ cv, cv = wCmp y x := ⟨_, rfl⟩
          rw [← hcv] at HCM
          have hc1 : decide (cv ≥ 0) = true := decide_eq_true (by rw [hcv]; exact Int.not_lt.1 fun q => hyx (wCmp_lt.1 q))
          clear hld hx hkx hlt hk hbw hal hal0 hb1 hk0 hj hjx hy f0 f1 f2 hcv hyx
          go_wp2_with fail
          refine wp_region_held_drew (S := fun X => Box3 wr.heap.size x X ∧ Row3 a j y X) (by kernel_rfl) (HST.out _ ((Chg.refl F1 (wr.alloc (.cells #[.int .i64 x.client, .int .i64 x.kind, .string ⟨x.path.toArray⟩] 31))).drewN 1)) (fun hHeld => ?_)
          refine wpAnyH_take (i := 0) (oi := ({ dst := some 16, op := Op.move (Operand.tmp 6), type := 3, pos := "watch.go:72", after := #[], guard := none } : Oper)) (v := ?_) rfl (by kernel_rfl) (by kernel_rfl) (by kernel_rfl) (fun _ _ _ h => h) (Or.inl ⟨by rfl, ?_⟩) (by assumption) ?_
          rotate_left
          · rintro w ⟨⟨s0, s1, s2⟩, s3, s4, s5⟩; (try dsimp only); go_simp; first | done | with_reducible rfl
          try simp only [Act.put, List.setIfInBounds_toArray, List.set_cons_zero, List.set_cons_succ]
          refine wpAnyH_take (i := 1) (oi := ({ dst := some 17, op := Op.binOp BinOp.gtr 3 (Operand.tmp 16) (Operand.const (Value.int IntKind.i64 0)) 3, type := 4, pos := "watch.go:72", after := #[{ on := 0, ground := Ground.data }], guard := none } : Oper)) (v := ?_) rfl (by kernel_rfl) (by kernel_rfl) (by kernel_rfl) (fun _ _ _ h => h) (Or.inl ⟨by rfl, ?_⟩) (by assumption) ?_
          rotate_left
          · rintro w ⟨⟨s0, s1, s2⟩, s3, s4, s5⟩; (try dsimp only); go_simp; first | done | with_reducible rfl
          try simp only [Act.put, List.setIfInBounds_toArray, List.set_cons_zero, List.set_cons_succ]
          refine wpAnyH_take (i := 2) (oi := ({ dst := some 18, op := Op.move (Operand.tmp 17), type := 4, pos := "watch.go:72", after := #[{ on := 1, ground := Ground.data }], guard := none } : Oper)) (v := ?_) rfl (by kernel_rfl) (by kernel_rfl) (by kernel_rfl) (fun _ _ _ h => h) (Or.inl ⟨by rfl, ?_⟩) (by assumption) ?_
          rotate_left
          · rintro w ⟨⟨s0, s1, s2⟩, s3, s4, s5⟩; (try dsimp only); go_simp; first | done | with_reducible rfl
          try simp only [Act.put, List.setIfInBounds_toArray, List.set_cons_zero, List.set_cons_succ]
          refine wpAnyH_take (i := 3) (oi := ({ dst := some 19, op := Op.move (Operand.tmp 1), type := 27, pos := "watch.go:72", after := #[{ on := 2, ground := Ground.guard }], guard := some (2, true) } : Oper)) (v := ?_) rfl (by kernel_rfl) (by kernel_rfl) (by kernel_rfl) (fun _ _ _ h => h) (Or.inl ⟨by rfl, ?_⟩) (by assumption) ?_
          rotate_left
          · rintro w ⟨⟨s0, s1, s2⟩, s3, s4, s5⟩; (try dsimp only); go_simp; first | done | with_reducible rfl
          try simp only [Act.put, List.setIfInBounds_toArray, List.set_cons_zero, List.set_cons_succ]
          refine wpAnyH_take (i := 4) (oi := ({ dst := some 20, op := Op.move (Operand.tmp 6), type := 3, pos := "watch.go:72", after := #[{ on := 2, ground := Ground.guard }], guard := some (2, true) } : Oper)) (v := ?_) rfl (by kernel_rfl) (by kernel_rfl) (by kernel_rfl) (fun _ _ _ h => h) (Or.inl ⟨by rfl, ?_⟩) (by assumption) ?_
          rotate_left
          · rintro w ⟨⟨s0, s1, s2⟩, s3, s4, s5⟩; (try dsimp only); go_simp; first | done | with_reducible rfl
          try simp only [Act.put, List.setIfInBounds_toArray, List.set_cons_zero, List.set_cons_succ]
          refine wpAnyH_take (i := 5) (oi := ({ dst := some 21, op := Op.binOp BinOp.sub 3 (Operand.tmp 20) (Operand.const (Value.int IntKind.i64 1)) 3, type := 3, pos := "watch.go:72", after := #[{ on := 4, ground := Ground.data }, { on := 2, ground := Ground.guard }], guard := some (2, true) } : Oper)) (v := ?_) rfl (by kernel_rfl) (by kernel_rfl) (by kernel_rfl) (fun _ _ _ h => h) (Or.inl ⟨by rfl, ?_⟩) (by assumption) ?_
          rotate_left
          · rintro w ⟨⟨s0, s1, s2⟩, s3, s4, s5⟩; (try dsimp only); go_simp; first | done | with_reducible rfl
          try simp only [Act.put, List.setIfInBounds_toArray, List.set_cons_zero, List.set_cons_succ]
          refine wpAnyH_take (i := 6) (oi := ({ dst := some 22, op := Op.indexAddr 27 (Operand.tmp 19) (Operand.tmp 21), type := 0, pos := "watch.go:72", after := #[{ on := 3, ground := Ground.data }, { on := 5, ground := Ground.data }, { on := 2, ground := Ground.guard }], guard := some (2, true) } : Oper)) (v := ?_) rfl (by kernel_rfl) (by kernel_rfl) (by kernel_rfl) (fun _ _ _ h => h) (Or.inl ⟨by rfl, ?_⟩) (by assumption) ?_
          rotate_left
          · rintro w ⟨⟨s0, s1, s2⟩, s3, s4, s5⟩; (try dsimp only); go_simp; first | done | with_reducible rfl
          try simp only [Act.put, List.setIfInBounds_toArray, List.set_cons_zero, List.set_cons_succ]
          refine wpAnyH_take (i := 7) (oi := ({ dst := some 23, op := Op.load 31 (Operand.tmp 22), type := 31, pos := "watch.go:72", after := #[{ on := 6, ground := Ground.data }, { on := 2, ground := Ground.guard }], guard := some (2, true) } : Oper)) (v := ?_) rfl (by kernel_rfl) (by kernel_rfl) (by kernel_rfl) (fun _ _ _ h => h) (Or.inl ⟨by rfl, ?_⟩) (by assumption) ?_
          rotate_left
          · rintro w ⟨⟨s0, s1, s2⟩, s3, s4, s5⟩; (try dsimp only); go_simp; first | done | with_reducible rfl
          try simp only [Act.put, List.setIfInBounds_toArray, List.set_cons_zero, List.set_cons_succ]
          refine wpAnyH_take (i := 8) (oi := ({ dst := some 24, op := Op.load 31 (Operand.tmp 7), type := 31, pos := "watch.go:72", after := #[{ on := 2, ground := Ground.guard }], guard := some (2, true) } : Oper)) (v := ?_) rfl (by kernel_rfl) (by kernel_rfl) (by kernel_rfl) (fun _ _ _ h => h) (Or.inl ⟨by rfl, ?_⟩) (by assumption) ?_
          rotate_left
          · rintro w ⟨⟨s0, s1, s2⟩, s3, s4, s5⟩; (try dsimp only); go_simp; first | done | with_reducible rfl
          try simp only [Act.put, List.setIfInBounds_toArray, List.set_cons_zero, List.set_cons_succ]
          refine wpAnyH_ready (rs := [9]) (by kernel_rfl) (by simp) ?_
          refine AllReadyH.cons (o := ({ dst := some 25, op := Op.call { callee := Callee.value (Operand.func 30), args := #[Operand.tmp 23, Operand.tmp 24], argTypes := #[31, 31] }, type := 3, pos := "watch.go:72", after := #[{ on := 7, ground := Ground.data }, { on := 8, ground := Ground.data }, { on := 2, ground := Ground.chain }, { on := 2, ground := Ground.guard }], guard := some (2, true) } : Oper)) rfl (fun K hK => ?_) AllReadyH.nil
          go_simp
          refine (HCM.out _).mono ?_
          rintro e w5 ⟨rfl, hb5⟩
          have HB5a := Lib.hid (show Below (wr.alloc (.cells #[.int .i64 x.client, .int .i64 x.kind, .string ⟨x.path.toArray⟩] 31)).heap.size (wr.alloc (.cells #[.int .i64 x.client, .int .i64 x.kind, .string ⟨x.path.toArray⟩] 31)) w5 from (below_undrawn (n := 1) hb5))
          have HB5 := Lib.hid (HB1.out.trans (HB5a.out.mono HB1.out.size))
          clear hb5
          go_wp2_with fail
          refine hK.out _ _ (HST.out _ (Chg.of_below F1 HB5a.out)) (fun hHeld => ?_)
          clear hK K
          try simp only [Act.put, List.setIfInBounds_toArray, List.set_cons_zero, List.set_cons_succ]
          refine wpAnyH_take (i := 10) (oi := ({ dst := some 26, op := Op.binOp BinOp.geq 3 (Operand.tmp 25) (Operand.const (Value.int IntKind.i64 0)) 3, type := 4, pos := "watch.go:72", after := #[{ on := 9, ground := Ground.data }, { on := 2, ground := Ground.guard }], guard := some (2, true) } : Oper)) (v := ?_) rfl (by kernel_rfl) (by kernel_rfl) (by kernel_rfl) (fun _ _ _ h => h) (Or.inl ⟨by rfl, ?_⟩) (by assumption) ?_
          rotate_left
          · rintro w ⟨⟨s0, s1, s2⟩, s3, s4, s5⟩; (try dsimp only); go_simp; first | done | with_reducible rfl
          try simp only [Act.put, List.setIfInBounds_toArray, List.set_cons_zero, List.set_cons_succ]
          refine wpAnyH_take (i := 11) (oi := ({ dst := some 27, op := Op.pick (Operand.tmp 18) (Operand.tmp 26) (Operand.const (Value.bool false)), type := 4, pos := "watch.go:72", after := #[{ on := 2, ground := Ground.data }, { on := 10, ground := Ground.data }], guard := none } : Oper)) (v := ?_) rfl (by kernel_rfl) (by kernel_rfl) (by kernel_rfl) (fun _ _ _ h => h) (Or.inl ⟨by rfl, ?_⟩) (by assumption) ?_
          rotate_left
          · rintro w ⟨⟨s0, s1, s2⟩, s3, s4, s5⟩; (try dsimp only); go_simp; first | done | with_reducible rfl
          try simp only [Act.put, List.setIfInBounds_toArray, List.set_cons_zero, List.set_cons_succ]
          refine wpAnyH_take (i := 12) (oi := ({ dst := some 28, op := Op.move (Operand.tmp 27), type := 4, pos := "watch.go:72", after := #[{ on := 11, ground := Ground.data }, { on := 9, ground := Ground.chain }], guard := none } : Oper)) (v := ?_) rfl (by kernel_rfl) (by kernel_rfl) (by kernel_rfl) (fun _ _ _ h => h) (Or.inl ⟨by rfl, ?_⟩) (by assumption) ?_
          rotate_left
          · rintro w ⟨⟨s0, s1, s2⟩, s3, s4, s5⟩; (try dsimp only); go_simp; first | done | with_reducible rfl
          try simp only [Act.put, List.setIfInBounds_toArray, List.set_cons_zero, List.set_cons_succ]
          refine wpAnyH_take (i := 13) (oi := ({ dst := some 29, op := Op.move (Operand.tmp 5), type := 25, pos := "watch.go:72", after := #[{ on := 12, ground := Ground.guard }], guard := some (12, false) } : Oper)) (v := undef) rfl (by kernel_rfl) (by kernel_rfl) (by kernel_rfl) (fun _ _ _ h => h) (Or.inr ⟨by rfl, rfl⟩) (by assumption) ?_
          try simp only [Act.put, List.setIfInBounds_toArray, List.set_cons_zero, List.set_cons_succ]
          refine wpAnyH_take (i := 14) (oi := ({ dst := some 30, op := Op.load 31 (Operand.tmp 7), type := 31, pos := "watch.go:72", after := #[{ on := 12, ground := Ground.guard }], guard := some (12, false) } : Oper)) (v := undef) rfl (by kernel_rfl) (by kernel_rfl) (by kernel_rfl) (fun _ _ _ h => h) (Or.inr ⟨by rfl, rfl⟩) (by assumption) ?_
          try simp only [Act.put, List.setIfInBounds_toArray, List.set_cons_zero, List.set_cons_succ]
          refine wpAnyH_take (i := 15) (oi := ({ dst := some 31, op := Op.call { callee := Callee.value (Operand.func 12), args := #[Operand.tmp 29, Operand.tmp 30], argTypes := #[25, 31] }, type := 36, pos := "watch.go:72", after := #[{ on := 13, ground := Ground.data }, { on := 14, ground := Ground.data }, { on := 12, ground := Ground.chain }, { on := 12, ground := Ground.guard }], guard := some (12, false) } : Oper)) (v := undef) rfl (by kernel_rfl) (by kernel_rfl) (by kernel_rfl) (fun _ _ _ h => h) (Or.inr ⟨by rfl, rfl⟩) (by assumption) ?_
          try simp only [Act.put, List.setIfInBounds_toArray, List.set_cons_zero, List.set_cons_succ]
          refine wpAnyH_take (i := 16) (oi := ({ dst := some 32, op := Op.binOp BinOp.neq 36 (Operand.tmp 31) (Operand.const (Value.int IntKind.i64 0)) 36, type := 4, pos := "watch.go:72", after := #[{ on := 15, ground := Ground.data }, { on := 12, ground := Ground.guard }], guard := some (12, false) } : Oper)) (v := undef) rfl (by kernel_rfl) (by kernel_rfl) (by kernel_rfl) (fun _ _ _ h => h) (Or.inr ⟨by rfl, rfl⟩) (by assumption) ?_
          try simp only [Act.put, List.setIfInBounds_toArray, List.set_cons_zero, List.set_cons_succ]
          refine wpAnyH_take (i := 17) (oi := ({ dst := some 33, op := Op.pick (Operand.tmp 28) (Operand.const (Value.bool true)) (Operand.tmp 32), type := 4, pos := "watch.go:72", after := #[{ on := 12, ground := Ground.data }, { on := 16, ground := Ground.data }], guard := none } : Oper)) (v := ?_) rfl (by kernel_rfl) (by kernel_rfl) (by kernel_rfl) (fun _ _ _ h => h) (Or.inl ⟨by rfl, ?_⟩) (by assumption) ?_
          rotate_left
          · rintro w ⟨⟨s0, s1, s2⟩, s3, s4, s5⟩; (try dsimp only); go_simp; first | done | with_reducible rfl
          try simp only [Act.put, List.setIfInBounds_toArray, List.set_cons_zero, List.set_cons_succ]
          refine wpAnyH_done (by kernel_rfl) ?_ _
          go_wp2_with fail
          go_ret
          exact load_no' HT.out HNO.out (HLD.out.2.2.2.trans (HB5.out.mono HLD.out.2.2.2.size))
    · have HKE := Lib.hid (show xs.take k = xs from List.take_of_length_le (by have := HNX.out; omega))
      obtain ⟨A9, n9, c9, hq9, hf9, ho9, hr9⟩ := hld.1
      have m0 := hq9.at_ (i := 0) rfl
      have htw := HT.out.below hld.2.2.2
      obtain ⟨A8, n8, c8, hq8, _, _, _⟩ := htw
      have m1 := hq8.at_ (i := 0) rfl
      have z1 := hq8.frozen 0
      have HQ8 := Lib.hid hq8
      have HO9 := Lib.hid ho9
      have HR9 := Lib.hid hr9
      have HLD := Lib.hid hld
      clear hld hq8 hq9 ho9 hr9 hf9
      go_wp2_with fail
      go_ret
      have hw := HLD.out.2.1
      rw [HKE.out] at hw
      have ho := HO9.out
      rw [HKE.out] at ho
      exact load_yes HT.out hw HLD.out.2.2.2 HQ8.out ho HR9.out HLD.out.2.2.1
end Go.Proofs.YtbppokdaehaocaaDoor
