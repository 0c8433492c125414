/-
  Sessions: a book is loaded anew; what the laws ask of the calls. A walk; no statement.
-/
import Derived.Test.YtfbdmemjojjgnaaSessDev4
import Derived.Test.YtfbdmemjojjgnaaSessRef4
namespace Go.Proofs.Ytfbdmemjojjgnaa
set_option maxRecDepth 100000
open Go.RowKit
set_option linter.unusedVariables false
set_option maxRecDepth 100000

theorem seIns_last {x : Se} : ∀ {t : List Se}, (∀ y ∈ t, y.client < x.client) → seIns x t = t ++ [x]
  | [], _ => rfl
  | y :: r, h => by
    unfold seIns
    have := h y (List.mem_cons_self ..)
    rw [if_neg (by omega), seIns_last fun z hz => h z (List.mem_cons_of_mem _ hz)]
    rfl
/-- the one ahead is ahead: so are all -/
theorem below_allE {xs : List Se} {k : Nat} {x : Se} (h : SOk (xs.take k)) (hx : xs[k]? = some x) (hl : k = 0 ∨ ∃ j y, k = j + 1 ∧ xs[j]? = some y ∧ seLt y x) : ∀ z ∈ xs.take k, z.client < x.client := by
  intro z hz
  rcases hl with rfl | ⟨j, y, rfl, hy, hyx⟩
  · simp at hz
  · obtain ⟨i, hi, e⟩ := List.getElem_of_mem hz
    have hi' : i < j + 1 := by rw [List.length_take] at hi; omega
    rw [List.getElem_take] at e
    obtain ⟨hj, ej⟩ := List.getElem?_eq_some_iff.1 hy
    rcases Nat.lt_or_ge i j with q | q
    · have hp := List.pairwise_iff_getElem.1 h.1 i j (by rw [List.length_take]; omega) (by rw [List.length_take]; omega) q
      rw [List.getElem_take, List.getElem_take, e, ej] at hp
      exact Int.lt_trans hp hyx
    · obtain rfl : i = j := by omega
      rw [← e, ej]; exact hyx
theorem load_stepE {xs : List Se} {k : Nat} {x : Se} (h : SOk (xs.take k)) (hx : xs[k]? = some x) (hl : k = 0 ∨ ∃ j y, k = j + 1 ∧ xs[j]? = some y ∧ seLt y x) :
    ((seOpen x (xs.take k)).2 = 0 ∧ (seOpen x (xs.take k)).1 = xs.take (k + 1)) ∨ ((seOpen x (xs.take k)).2 ≠ 0 ∧ ¬ SOk xs) := by
  have ha := below_allE h hx hl
  by_cases hr : seRight x = true
  · have hv : seLive x.client (xs.take k) = false := by
      unfold seLive
      rw [List.any_eq_false]
      intro z hz e
      have := ha z hz
      have e2 : z.client = x.client := by simpa using e
      omega
    refine .inl ?_
    unfold seOpen
    rw [hr, hv, if_neg (by simp), if_neg (by simp)]
    exact ⟨rfl, by rw [se_take_next hx]; exact seIns_last ha⟩
  · refine .inr ⟨by unfold seOpen; rw [if_pos (by simpa using hr)]; show (120 : Int) ≠ 0; decide, fun hw => hr (hw.2 x (List.mem_of_getElem? hx))⟩
/-- a session in its box -/
def BoxE (b : Nat) (x : Se) (W : World) : Prop := W.cell? ⟨b, 0, none⟩ = some (.int .i64 x.client) ∧ W.cell? ⟨b, 1, none⟩ = some (.int .i64 x.span) ∧ W.cell? ⟨b, 2, none⟩ = some (.int .i64 x.seen)
theorem chg_cellE {F : Nat → Prop} {w w' : World} {p : Addr} {v : Value} (h : Chg F w w') (hc : w.cell? p = some v) (hp : ¬ F p.block) : w'.cell? p = some v := by
  rw [World.cell?_of_block (w := w) (h.block _ (World.block_lt_of_cell? _ _ hc) hp)]
  exact hc
theorem BoxE.chg {F : Nat → Prop} {b : Nat} {x : Se} {w w' : World} (h : BoxE b x w) (hc : Chg F w w') (hb : ¬ F b) : BoxE b x w' := ⟨chg_cellE hc h.1 hb, chg_cellE hc h.2.1 hb, chg_cellE hc h.2.2 hb⟩
theorem RowE.chg {F : Nat → Prop} {a : Addr} {j : Nat} {y : Se} {w w' : World} (h : RowE a j y w) (hc : Chg F w w') (ha : ¬ F a.block) : RowE a j y w' := by
  have hb : (a.add (j * 3)).block = a.block := add_block _ _
  exact ⟨chg_cellE hc h.1 (by rw [hb]; exact ha), chg_cellE hc h.2.1 (by show ¬ F (a.add (j * 3)).block; rw [hb]; exact ha), chg_cellE hc h.2.2 (by show ¬ F (a.add (j * 3)).block; rw [hb]; exact ha)⟩
theorem load_noE {F : Nat → Prop} {g : Nat} {t xs : List Se} {w w' : World} (hT : SeAt F w g t) (hn : ¬ SOk xs) (hb : Below w.heap.size w w') : SDid F g (seLoaded xs t) (.bool (seTakes xs)) w (.returned (.bool false)) w' := by
  rw [seLoaded, seTakes, decide_eq_false hn, if_neg (by simp)]
  exact sdid_same _ hT hb
theorem load_no2E {F F1 : Nat → Prop} {g gl : Nat} {t t1 t2 xs : List Se} {v : Value} {e : Ending} {w wr wa w6 : World} (hT : SeAt F w g t) (hn : ¬ SOk xs) (h : SOn F1 w gl t1 wr) (hb : Below wr.heap.size wr wa) (hd : SDid F1 gl t2 v wa e w6) :
    SDid F g (seLoaded xs t) (.bool (seTakes xs)) w (.returned (.bool false)) w6 := by
  have hbw := h.be.trans (hb.mono h.be.size)
  obtain ⟨_, F2, _, _, h3⟩ := hd
  exact load_noE hT hn (hbw.trans (h3.below (fun i hi => (h.low i hi).1) hbw.size))
theorem load_nextE {F1 : Nat → Prop} {gl : Nat} {t t2 : List Se} {v : Value} {e : Ending} {w wr wa w6 : World} (h : SOn F1 w gl t wr) (hb : Below wr.heap.size wr wa) (hd : SDid F1 gl t2 v wa e w6) (hk : SOk t2) : ∃ F2, SOn F2 w gl t2 w6 := by
  obtain ⟨_, F2, h2, _⟩ := (h.kept hb).did hd hk
  exact ⟨F2, h2⟩
theorem load_yesE {F F1 : Nat → Prop} {g gl b : Nat} {t xs : List Se} {u : Value} {w wr : World} (hT : SeAt F w g t) (h : SOn F1 w gl xs wr) (hb : F1 b ∧ MpS wr b xs) (hq : Bk wr g 61 [u]) :
    SDid F g (seLoaded xs t) (.bool (seTakes xs)) w (.returned (.bool true)) (wr.setCell ⟨g, 0, none⟩ (.map (some b))) := by
  rw [seLoaded, seTakes, decide_eq_true h.ok, if_pos rfl]
  have hg : F g := by obtain ⟨_, _, h, _⟩ := hT; exact h
  have hgl := hT.lt
  have hl := (h.low b hb.1).1
  have g1 := grown_set (grown_refl wr (some g)) 0 (.map (some b))
  have c1 : Chg (fun i => i = g) wr (wr.setCell ⟨g, 0, none⟩ (.map (some b))) := (Chg.refl _ _).grown g1 fun i e => .inl (Option.some.inj e).symm
  refine ⟨rfl, fun k => k = g ∨ k = b, ⟨b, hq.set 0 _, .inl rfl, .inr rfl, hb.2.chg c1 (by omega)⟩, fun k hk => ?_, (Chg.of_below F h.be).grown g1 fun i e => .inl (by obtain rfl := Option.some.inj e; exact hg)⟩
  rcases hk with rfl | rfl
  · exact .inl hg
  · exact .inr hl
set_option maxHeartbeats 6400000 in
theorem loadE_any (F : Nat → Prop) (g : Nat) (t : List Se) (LA : Option Addr) (lc : Nat) (xs : List Se) (FX : Nat → Prop) (w : World) (hT : SeAt F w g t) (hx : RdS RSe FX w LA lc xs) (hlen : xs.length ≤ 1000) :
    Calls Try.prog 12 #[.pointer (some ⟨g, 0, none⟩), .slice LA xs.length lc] w (SDid F g (seLoaded xs t) (.bool (seTakes xs)) w) := by
  have HN := Lib.hid (newE_any w)
  have HT := Lib.hid hT
  have HX := Lib.hid hx
  have HLN := Lib.hid hlen
  obtain ⟨n, hn⟩ : ∃ n, n = xs.length := ⟨_, rfl⟩
  have HNX := Lib.hid hn
  rw [← hn]
  have hn1 : n ≤ 1000 := by omega
  clear hT hx hn hlen
  go_enter Try.func12, Try.ntmps12
  go_wp2_with fail
  refine HN.out.mono ?_
  intro e w1 h1
  obtain ⟨gl, F0, rfl, ht0, -, -⟩ := SOn.of_new (Below.refl _ w) h1
  have HT0 := Lib.hid ht0
  clear h1 ht0 HN
  go_wp2_with fail
  go_loopw [11] (fun i wr => ∃ (k : Nat) (F1 : Nat → Prop), k ≤ n ∧ i = .int .i64 k ∧ SOn F1 w gl (xs.take k) wr) (fun i _ => n - (intOf i).toNat)
  case atStart => exact ⟨0, F0, by omega, rfl, HT0.out⟩
  case round =>
    obtain ⟨k, F1, hk, rfl, hld⟩ := hrel
    by_cases hlt : k < n
    · have hkx : k < xs.length := by have := HNX.out; omega
      have hx : xs[k]? = some xs[k] := List.getElem?_eq_getElem hkx
      have hbw := hld.be
      obtain ⟨a, rfl, hal, d0, d1, d2⟩ := (HX.out.below hbw).se3 hx
      have hal0 : a.block < w.heap.size := by obtain ⟨a', e, hb, _⟩ := HX.out.se3 hx; obtain rfl := Option.some.inj e; exact hb
      have HAF := Lib.hid (show ¬ F1 a.block from fun h => by have := hld.low _ h; omega)
      have HAB := Lib.hid (show ¬ F1 wr.heap.size from fun h => by have := hld.low _ h; omega)
      have HXK := Lib.hid hx
      have HLD := Lib.hid hld
      have HLT := Lib.hid hlt
      have hb1 : Below wr.heap.size wr (wr.alloc (.cells #[.int .i64 xs[k].client, .int .i64 xs[k].span, .int .i64 xs[k].seen] 36)) := (Below.refl _ _).alloc (Nat.le_refl _) _
      generalize xs[k] = x at *
      have HB1 := Lib.hid hb1
      have HKB := Lib.hid (show BoxE wr.heap.size x (wr.alloc (.cells #[.int .i64 x.client, .int .i64 x.span, .int .i64 x.seen] 36)) from by
        have h := Bk.new wr 36 (seC x)
        exact ⟨h.at_ rfl, h.at_ rfl, h.at_ rfl⟩)
      have HAD := Lib.hid (fun W (hW : Below wr.heap.size wr W) => show Calls Try.prog 14 #[.pointer (some ⟨gl, 0, none⟩), .int .i64 x.client, .int .i64 x.span, .int .i64 x.seen] W _ from openE_any F1 gl (xs.take k) x W (hld.tb.below hW) hld.ok)
      have y1 : (0 : Int) ≤ (k : Int) := by omega
      have y2 : (k : Int) < (n : Int) := by omega
      by_cases hk0 : k = 0
      · have hgt : decide ((0 : Int) < (k : Int)) = false := by simp [hk0]
        have hgn : decide (0 < k) = false := by simp [hk0]
        have HSTP := Lib.hid (load_stepE hld.ok hx (.inl hk0))
        have HST := Lib.hid (fun X (hX : Chg F1 (wr.alloc (.cells #[.int .i64 x.client, .int .i64 x.span, .int .i64 x.seen] 36)) X) => (show BoxE wr.heap.size x X from HKB.out.chg hX HAB.out))
        have HOKN := Lib.hid (fun e => by have := hld.ok.opened x; rw [e] at this; exact this : (seOpen x (xs.take k)).1 = xs.take (k + 1) → SOk (xs.take (k + 1)))
        clear hld hx hkx hlt hk hbw hal hal0 hb1 hk0
        rcases HSTP.out with ⟨e1, e2⟩ | ⟨e1, e2⟩
        · rw [e1, e2] at HAD
          have HW3 := Lib.hid (HOKN.out e2)
          clear HSTP HOKN e1 e2
          go_wp2_with fail
          refine wp_region_held_drew (S := fun X => BoxE wr.heap.size x X) (by kernel_rfl) (HST.out _ ((Chg.refl F1 (wr.alloc (.cells #[.int .i64 x.client, .int .i64 x.span, .int .i64 x.seen] 36))).drewN 1)) (fun hHeld => ?_)
          refine wpAnyH_take (i := 0) (oi := ({ dst := some 16, op := Op.move (Operand.tmp 6), type := 3, pos := "session.go:82", after := #[], guard := none } : Oper)) (v := ?_) rfl (by kernel_rfl) (by kernel_rfl) (by kernel_rfl) (fun _ _ _ h => h) (Or.inl ⟨by rfl, ?_⟩) (by assumption) ?_
          rotate_left
          · rintro w ⟨s0, s1, s2⟩; (try dsimp only); go_simp; first | done | with_reducible rfl
          try simp only [Act.put, List.setIfInBounds_toArray, List.set_cons_zero, List.set_cons_succ]
          refine wpAnyH_take (i := 1) (oi := ({ dst := some 17, op := Op.binOp BinOp.gtr 3 (Operand.tmp 16) (Operand.const (Value.int IntKind.i64 0)) 3, type := 4, pos := "session.go:82", after := #[{ on := 0, ground := Ground.data }], guard := none } : Oper)) (v := ?_) rfl (by kernel_rfl) (by kernel_rfl) (by kernel_rfl) (fun _ _ _ h => h) (Or.inl ⟨by rfl, ?_⟩) (by assumption) ?_
          rotate_left
          · rintro w ⟨s0, s1, s2⟩; (try dsimp only); go_simp; first | done | with_reducible rfl
          try simp only [Act.put, List.setIfInBounds_toArray, List.set_cons_zero, List.set_cons_succ]
          refine wpAnyH_take (i := 2) (oi := ({ dst := some 18, op := Op.move (Operand.tmp 17), type := 4, pos := "session.go:82", after := #[{ on := 1, ground := Ground.data }], guard := none } : Oper)) (v := ?_) rfl (by kernel_rfl) (by kernel_rfl) (by kernel_rfl) (fun _ _ _ h => h) (Or.inl ⟨by rfl, ?_⟩) (by assumption) ?_
          rotate_left
          · rintro w ⟨s0, s1, s2⟩; (try dsimp only); go_simp; first | done | with_reducible rfl
          try simp only [Act.put, List.setIfInBounds_toArray, List.set_cons_zero, List.set_cons_succ]
          refine wpAnyH_take (i := 3) (oi := ({ dst := some 19, op := Op.fieldAddr 36 (Operand.tmp 7) 0, type := 0, pos := "session.go:82", after := #[{ on := 2, ground := Ground.guard }], guard := some (2, true) } : Oper)) (v := undef) rfl (by kernel_rfl) (by kernel_rfl) (by kernel_rfl) (fun _ _ _ h => h) (Or.inr ⟨by rfl, rfl⟩) (by assumption) ?_
          try simp only [Act.put, List.setIfInBounds_toArray, List.set_cons_zero, List.set_cons_succ]
          refine wpAnyH_take (i := 4) (oi := ({ dst := some 20, op := Op.load 3 (Operand.tmp 19), type := 3, pos := "session.go:82", after := #[{ on := 3, ground := Ground.data }, { on := 2, ground := Ground.guard }], guard := some (2, true) } : Oper)) (v := undef) rfl (by kernel_rfl) (by kernel_rfl) (by kernel_rfl) (fun _ _ _ h => h) (Or.inr ⟨by rfl, rfl⟩) (by assumption) ?_
          try simp only [Act.put, List.setIfInBounds_toArray, List.set_cons_zero, List.set_cons_succ]
          refine wpAnyH_take (i := 5) (oi := ({ dst := some 21, op := Op.move (Operand.tmp 1), type := 23, pos := "session.go:82", after := #[{ on := 2, ground := Ground.guard }], guard := some (2, true) } : Oper)) (v := undef) rfl (by kernel_rfl) (by kernel_rfl) (by kernel_rfl) (fun _ _ _ h => h) (Or.inr ⟨by rfl, rfl⟩) (by assumption) ?_
          try simp only [Act.put, List.setIfInBounds_toArray, List.set_cons_zero, List.set_cons_succ]
          refine wpAnyH_take (i := 6) (oi := ({ dst := some 22, op := Op.move (Operand.tmp 6), type := 3, pos := "session.go:82", after := #[{ on := 2, ground := Ground.guard }], guard := some (2, true) } : Oper)) (v := undef) rfl (by kernel_rfl) (by kernel_rfl) (by kernel_rfl) (fun _ _ _ h => h) (Or.inr ⟨by rfl, rfl⟩) (by assumption) ?_
          try simp only [Act.put, List.setIfInBounds_toArray, List.set_cons_zero, List.set_cons_succ]
          refine wpAnyH_take (i := 7) (oi := ({ dst := some 23, op := Op.binOp BinOp.sub 3 (Operand.tmp 22) (Operand.const (Value.int IntKind.i64 1)) 3, type := 3, pos := "session.go:82", after := #[{ on := 6, ground := Ground.data }, { on := 2, ground := Ground.guard }], guard := some (2, true) } : Oper)) (v := undef) rfl (by kernel_rfl) (by kernel_rfl) (by kernel_rfl) (fun _ _ _ h => h) (Or.inr ⟨by rfl, rfl⟩) (by assumption) ?_
          try simp only [Act.put, List.setIfInBounds_toArray, List.set_cons_zero, List.set_cons_succ]
          refine wpAnyH_take (i := 8) (oi := ({ dst := some 24, op := Op.indexAddr 23 (Operand.tmp 21) (Operand.tmp 23), type := 0, pos := "session.go:82", after := #[{ on := 5, ground := Ground.data }, { on := 7, ground := Ground.data }, { on := 2, ground := Ground.guard }], guard := some (2, true) } : Oper)) (v := undef) rfl (by kernel_rfl) (by kernel_rfl) (by kernel_rfl) (fun _ _ _ h => h) (Or.inr ⟨by rfl, rfl⟩) (by assumption) ?_
          try simp only [Act.put, List.setIfInBounds_toArray, List.set_cons_zero, List.set_cons_succ]
          refine wpAnyH_take (i := 9) (oi := ({ dst := some 25, op := Op.fieldAddr 36 (Operand.tmp 24) 0, type := 0, pos := "session.go:82", after := #[{ on := 8, ground := Ground.data }, { on := 2, ground := Ground.guard }], guard := some (2, true) } : Oper)) (v := undef) rfl (by kernel_rfl) (by kernel_rfl) (by kernel_rfl) (fun _ _ _ h => h) (Or.inr ⟨by rfl, rfl⟩) (by assumption) ?_
          try simp only [Act.put, List.setIfInBounds_toArray, List.set_cons_zero, List.set_cons_succ]
          refine wpAnyH_take (i := 10) (oi := ({ dst := some 26, op := Op.load 3 (Operand.tmp 25), type := 3, pos := "session.go:82", after := #[{ on := 9, ground := Ground.data }, { on := 2, ground := Ground.guard }], guard := some (2, true) } : Oper)) (v := undef) rfl (by kernel_rfl) (by kernel_rfl) (by kernel_rfl) (fun _ _ _ h => h) (Or.inr ⟨by rfl, rfl⟩) (by assumption) ?_
          try simp only [Act.put, List.setIfInBounds_toArray, List.set_cons_zero, List.set_cons_succ]
          refine wpAnyH_take (i := 11) (oi := ({ dst := some 27, op := Op.binOp BinOp.leq 3 (Operand.tmp 20) (Operand.tmp 26) 3, type := 4, pos := "session.go:82", after := #[{ on := 4, ground := Ground.data }, { on := 10, ground := Ground.data }, { on := 2, ground := Ground.guard }], guard := some (2, true) } : Oper)) (v := undef) rfl (by kernel_rfl) (by kernel_rfl) (by kernel_rfl) (fun _ _ _ h => h) (Or.inr ⟨by rfl, rfl⟩) (by assumption) ?_
          try simp only [Act.put, List.setIfInBounds_toArray, List.set_cons_zero, List.set_cons_succ]
          refine wpAnyH_take (i := 12) (oi := ({ dst := some 28, op := Op.pick (Operand.tmp 18) (Operand.tmp 27) (Operand.const (Value.bool false)), type := 4, pos := "session.go:82", after := #[{ on := 2, ground := Ground.data }, { on := 11, ground := Ground.data }], guard := none } : Oper)) (v := ?_) rfl (by kernel_rfl) (by kernel_rfl) (by kernel_rfl) (fun _ _ _ h => h) (Or.inl ⟨by rfl, ?_⟩) (by assumption) ?_
          rotate_left
          · rintro w ⟨s0, s1, s2⟩; (try dsimp only); go_simp; first | done | with_reducible rfl
          try simp only [Act.put, List.setIfInBounds_toArray, List.set_cons_zero, List.set_cons_succ]
          refine wpAnyH_take (i := 13) (oi := ({ dst := some 29, op := Op.move (Operand.tmp 28), type := 4, pos := "session.go:82", after := #[{ on := 12, ground := Ground.data }, { on := 2, ground := Ground.chain }], guard := none } : Oper)) (v := ?_) rfl (by kernel_rfl) (by kernel_rfl) (by kernel_rfl) (fun _ _ _ h => h) (Or.inl ⟨by rfl, ?_⟩) (by assumption) ?_
          rotate_left
          · rintro w ⟨s0, s1, s2⟩; (try dsimp only); go_simp; first | done | with_reducible rfl
          try simp only [Act.put, List.setIfInBounds_toArray, List.set_cons_zero, List.set_cons_succ]
          refine wpAnyH_take (i := 14) (oi := ({ dst := some 30, op := Op.move (Operand.tmp 5), type := 26, pos := "session.go:82", after := #[{ on := 13, ground := Ground.guard }], guard := some (13, false) } : Oper)) (v := ?_) rfl (by kernel_rfl) (by kernel_rfl) (by kernel_rfl) (fun _ _ _ h => h) (Or.inl ⟨by rfl, ?_⟩) (by assumption) ?_
          rotate_left
          · rintro w ⟨s0, s1, s2⟩; (try dsimp only); go_simp; first | done | with_reducible rfl
          try simp only [Act.put, List.setIfInBounds_toArray, List.set_cons_zero, List.set_cons_succ]
          refine wpAnyH_take (i := 15) (oi := ({ dst := some 31, op := Op.fieldAddr 36 (Operand.tmp 7) 0, type := 0, pos := "session.go:82", after := #[{ on := 13, ground := Ground.guard }], guard := some (13, false) } : Oper)) (v := ?_) rfl (by kernel_rfl) (by kernel_rfl) (by kernel_rfl) (fun _ _ _ h => h) (Or.inl ⟨by rfl, ?_⟩) (by assumption) ?_
          rotate_left
          · rintro w ⟨s0, s1, s2⟩; (try dsimp only); go_simp; first | done | with_reducible rfl
          try simp only [Act.put, List.setIfInBounds_toArray, List.set_cons_zero, List.set_cons_succ]
          refine wpAnyH_take (i := 16) (oi := ({ dst := some 32, op := Op.load 3 (Operand.tmp 31), type := 3, pos := "session.go:82", after := #[{ on := 15, ground := Ground.data }, { on := 13, ground := Ground.guard }], guard := some (13, false) } : Oper)) (v := ?_) rfl (by kernel_rfl) (by kernel_rfl) (by kernel_rfl) (fun _ _ _ h => h) (Or.inl ⟨by rfl, ?_⟩) (by assumption) ?_
          rotate_left
          · rintro w ⟨s0, s1, s2⟩; (try dsimp only); go_simp; first | done | with_reducible rfl
          try simp only [Act.put, List.setIfInBounds_toArray, List.set_cons_zero, List.set_cons_succ]
          refine wpAnyH_take (i := 17) (oi := ({ dst := some 33, op := Op.fieldAddr 36 (Operand.tmp 7) 1, type := 0, pos := "session.go:82", after := #[{ on := 13, ground := Ground.guard }], guard := some (13, false) } : Oper)) (v := ?_) rfl (by kernel_rfl) (by kernel_rfl) (by kernel_rfl) (fun _ _ _ h => h) (Or.inl ⟨by rfl, ?_⟩) (by assumption) ?_
          rotate_left
          · rintro w ⟨s0, s1, s2⟩; (try dsimp only); go_simp; first | done | with_reducible rfl
          try simp only [Act.put, List.setIfInBounds_toArray, List.set_cons_zero, List.set_cons_succ]
          refine wpAnyH_take (i := 18) (oi := ({ dst := some 34, op := Op.load 3 (Operand.tmp 33), type := 3, pos := "session.go:82", after := #[{ on := 17, ground := Ground.data }, { on := 13, ground := Ground.guard }], guard := some (13, false) } : Oper)) (v := ?_) rfl (by kernel_rfl) (by kernel_rfl) (by kernel_rfl) (fun _ _ _ h => h) (Or.inl ⟨by rfl, ?_⟩) (by assumption) ?_
          rotate_left
          · rintro w ⟨s0, s1, s2⟩; (try dsimp only); go_simp; first | done | with_reducible rfl
          try simp only [Act.put, List.setIfInBounds_toArray, List.set_cons_zero, List.set_cons_succ]
          refine wpAnyH_take (i := 19) (oi := ({ dst := some 35, op := Op.fieldAddr 36 (Operand.tmp 7) 2, type := 0, pos := "session.go:82", after := #[{ on := 13, ground := Ground.guard }], guard := some (13, false) } : Oper)) (v := ?_) rfl (by kernel_rfl) (by kernel_rfl) (by kernel_rfl) (fun _ _ _ h => h) (Or.inl ⟨by rfl, ?_⟩) (by assumption) ?_
          rotate_left
          · rintro w ⟨s0, s1, s2⟩; (try dsimp only); go_simp; first | done | with_reducible rfl
          try simp only [Act.put, List.setIfInBounds_toArray, List.set_cons_zero, List.set_cons_succ]
          refine wpAnyH_take (i := 20) (oi := ({ dst := some 36, op := Op.load 3 (Operand.tmp 35), type := 3, pos := "session.go:82", after := #[{ on := 19, ground := Ground.data }, { on := 13, ground := Ground.guard }], guard := some (13, false) } : Oper)) (v := ?_) rfl (by kernel_rfl) (by kernel_rfl) (by kernel_rfl) (fun _ _ _ h => h) (Or.inl ⟨by rfl, ?_⟩) (by assumption) ?_
          rotate_left
          · rintro w ⟨s0, s1, s2⟩; (try dsimp only); go_simp; first | done | with_reducible rfl
          try simp only [Act.put, List.setIfInBounds_toArray, List.set_cons_zero, List.set_cons_succ]
          refine wpAnyH_ready (rs := [21]) (by kernel_rfl) (by simp) ?_
          refine AllReadyH.cons (o := ({ dst := some 37, op := Op.call { callee := Callee.value (Operand.func 14), args := #[Operand.tmp 30, Operand.tmp 32, Operand.tmp 34, Operand.tmp 36], argTypes := #[26, 3, 3, 3] }, type := 40, pos := "session.go:82", after := #[{ on := 14, ground := Ground.data }, { on := 16, ground := Ground.data }, { on := 18, ground := Ground.data }, { on := 20, ground := Ground.data }, { on := 13, ground := Ground.chain }, { on := 13, ground := Ground.guard }], guard := some (13, false) } : Oper)) rfl (fun K hK => ?_) AllReadyH.nil
          go_simp
          refine (HAD.out (wr.alloc (.cells #[.int .i64 x.client, .int .i64 x.span, .int .i64 x.seen] 36)).drew (HB1.out.trans ((below_drewN (Below.refl _ _) 1).mono HB1.out.size))).mono ?_
          rintro e w6 hd6
          have HD6 := Lib.hid hd6
          obtain ⟨rfl, F2, hT2, hF2, hC2⟩ := hd6
          have HC6 := Lib.hid (((Chg.refl F1 (wr.alloc (.cells #[.int .i64 x.client, .int .i64 x.span, .int .i64 x.seen] 36))).drewN 1).same hC2)
          clear hT2 hF2 hC2
          go_wp2_with fail
          refine hK.out _ _ (HST.out _ HC6.out) (fun hHeld => ?_)
          clear hK K
          try simp only [Act.put, List.setIfInBounds_toArray, List.set_cons_zero, List.set_cons_succ]
          refine wpAnyH_take (i := 22) (oi := ({ dst := some 38, op := Op.binOp BinOp.neq 40 (Operand.tmp 37) (Operand.const (Value.int IntKind.i64 0)) 40, type := 4, pos := "session.go:82", after := #[{ on := 21, ground := Ground.data }, { on := 13, ground := Ground.guard }], guard := some (13, false) } : Oper)) (v := ?_) rfl (by kernel_rfl) (by kernel_rfl) (by kernel_rfl) (fun _ _ _ h => h) (Or.inl ⟨by rfl, ?_⟩) (by assumption) ?_
          rotate_left
          · rintro w ⟨s0, s1, s2⟩; (try dsimp only); go_simp; first | done | with_reducible rfl
          try simp only [Act.put, List.setIfInBounds_toArray, List.set_cons_zero, List.set_cons_succ]
          refine wpAnyH_take (i := 23) (oi := ({ dst := some 39, op := Op.pick (Operand.tmp 29) (Operand.const (Value.bool true)) (Operand.tmp 38), type := 4, pos := "session.go:82", after := #[{ on := 13, ground := Ground.data }, { on := 22, ground := Ground.data }], guard := none } : Oper)) (v := ?_) rfl (by kernel_rfl) (by kernel_rfl) (by kernel_rfl) (fun _ _ _ h => h) (Or.inl ⟨by rfl, ?_⟩) (by assumption) ?_
          rotate_left
          · rintro w ⟨s0, s1, s2⟩; (try dsimp only); go_simp; first | done | with_reducible rfl
          try simp only [Act.put, List.setIfInBounds_toArray, List.set_cons_zero, List.set_cons_succ]
          refine wpAnyH_done (by kernel_rfl) ?_ _
          go_wp2_with fail
          go_roundw
          case rel =>
            obtain ⟨F2, hF2⟩ := load_nextE HLD.out (HB1.out.trans (below_drewN (Below.refl _ _) 1 |>.mono HB1.out.size)) HD6.out HW3.out
            exact ⟨k + 1, F2, HLT.out, by go_num, hF2⟩
          case measure => have := HLT.out; simp [intOf]; omega
        · obtain ⟨v, hv⟩ : ∃ v, v = (seOpen x (xs.take k)).2 := ⟨_, rfl⟩
          rw [← hv] at HAD e1
          have hv1 : (v != 0) = true := by simpa using e1
          have HNO := Lib.hid e2
          clear HSTP HOKN e1 e2 hv
          go_wp2_with fail
          refine wp_region_held_drew (S := fun X => BoxE wr.heap.size x X) (by kernel_rfl) (HST.out _ ((Chg.refl F1 (wr.alloc (.cells #[.int .i64 x.client, .int .i64 x.span, .int .i64 x.seen] 36))).drewN 1)) (fun hHeld => ?_)
          refine wpAnyH_take (i := 0) (oi := ({ dst := some 16, op := Op.move (Operand.tmp 6), type := 3, pos := "session.go:82", after := #[], guard := none } : Oper)) (v := ?_) rfl (by kernel_rfl) (by kernel_rfl) (by kernel_rfl) (fun _ _ _ h => h) (Or.inl ⟨by rfl, ?_⟩) (by assumption) ?_
          rotate_left
          · rintro w ⟨s0, s1, s2⟩; (try dsimp only); go_simp; first | done | with_reducible rfl
          try simp only [Act.put, List.setIfInBounds_toArray, List.set_cons_zero, List.set_cons_succ]
          refine wpAnyH_take (i := 1) (oi := ({ dst := some 17, op := Op.binOp BinOp.gtr 3 (Operand.tmp 16) (Operand.const (Value.int IntKind.i64 0)) 3, type := 4, pos := "session.go:82", after := #[{ on := 0, ground := Ground.data }], guard := none } : Oper)) (v := ?_) rfl (by kernel_rfl) (by kernel_rfl) (by kernel_rfl) (fun _ _ _ h => h) (Or.inl ⟨by rfl, ?_⟩) (by assumption) ?_
          rotate_left
          · rintro w ⟨s0, s1, s2⟩; (try dsimp only); go_simp; first | done | with_reducible rfl
          try simp only [Act.put, List.setIfInBounds_toArray, List.set_cons_zero, List.set_cons_succ]
          refine wpAnyH_take (i := 2) (oi := ({ dst := some 18, op := Op.move (Operand.tmp 17), type := 4, pos := "session.go:82", after := #[{ on := 1, ground := Ground.data }], guard := none } : Oper)) (v := ?_) rfl (by kernel_rfl) (by kernel_rfl) (by kernel_rfl) (fun _ _ _ h => h) (Or.inl ⟨by rfl, ?_⟩) (by assumption) ?_
          rotate_left
          · rintro w ⟨s0, s1, s2⟩; (try dsimp only); go_simp; first | done | with_reducible rfl
          try simp only [Act.put, List.setIfInBounds_toArray, List.set_cons_zero, List.set_cons_succ]
          refine wpAnyH_take (i := 3) (oi := ({ dst := some 19, op := Op.fieldAddr 36 (Operand.tmp 7) 0, type := 0, pos := "session.go:82", after := #[{ on := 2, ground := Ground.guard }], guard := some (2, true) } : Oper)) (v := undef) rfl (by kernel_rfl) (by kernel_rfl) (by kernel_rfl) (fun _ _ _ h => h) (Or.inr ⟨by rfl, rfl⟩) (by assumption) ?_
          try simp only [Act.put, List.setIfInBounds_toArray, List.set_cons_zero, List.set_cons_succ]
          refine wpAnyH_take (i := 4) (oi := ({ dst := some 20, op := Op.load 3 (Operand.tmp 19), type := 3, pos := "session.go:82", after := #[{ on := 3, ground := Ground.data }, { on := 2, ground := Ground.guard }], guard := some (2, true) } : Oper)) (v := undef) rfl (by kernel_rfl) (by kernel_rfl) (by kernel_rfl) (fun _ _ _ h => h) (Or.inr ⟨by rfl, rfl⟩) (by assumption) ?_
          try simp only [Act.put, List.setIfInBounds_toArray, List.set_cons_zero, List.set_cons_succ]
          refine wpAnyH_take (i := 5) (oi := ({ dst := some 21, op := Op.move (Operand.tmp 1), type := 23, pos := "session.go:82", after := #[{ on := 2, ground := Ground.guard }], guard := some (2, true) } : Oper)) (v := undef) rfl (by kernel_rfl) (by kernel_rfl) (by kernel_rfl) (fun _ _ _ h => h) (Or.inr ⟨by rfl, rfl⟩) (by assumption) ?_
          try simp only [Act.put, List.setIfInBounds_toArray, List.set_cons_zero, List.set_cons_succ]
          refine wpAnyH_take (i := 6) (oi := ({ dst := some 22, op := Op.move (Operand.tmp 6), type := 3, pos := "session.go:82", after := #[{ on := 2, ground := Ground.guard }], guard := some (2, true) } : Oper)) (v := undef) rfl (by kernel_rfl) (by kernel_rfl) (by kernel_rfl) (fun _ _ _ h => h) (Or.inr ⟨by rfl, rfl⟩) (by assumption) ?_
          try simp only [Act.put, List.setIfInBounds_toArray, List.set_cons_zero, List.set_cons_succ]
          refine wpAnyH_take (i := 7) (oi := ({ dst := some 23, op := Op.binOp BinOp.sub 3 (Operand.tmp 22) (Operand.const (Value.int IntKind.i64 1)) 3, type := 3, pos := "session.go:82", after := #[{ on := 6, ground := Ground.data }, { on := 2, ground := Ground.guard }], guard := some (2, true) } : Oper)) (v := undef) rfl (by kernel_rfl) (by kernel_rfl) (by kernel_rfl) (fun _ _ _ h => h) (Or.inr ⟨by rfl, rfl⟩) (by assumption) ?_
          try simp only [Act.put, List.setIfInBounds_toArray, List.set_cons_zero, List.set_cons_succ]
          refine wpAnyH_take (i := 8) (oi := ({ dst := some 24, op := Op.indexAddr 23 (Operand.tmp 21) (Operand.tmp 23), type := 0, pos := "session.go:82", after := #[{ on := 5, ground := Ground.data }, { on := 7, ground := Ground.data }, { on := 2, ground := Ground.guard }], guard := some (2, true) } : Oper)) (v := undef) rfl (by kernel_rfl) (by kernel_rfl) (by kernel_rfl) (fun _ _ _ h => h) (Or.inr ⟨by rfl, rfl⟩) (by assumption) ?_
          try simp only [Act.put, List.setIfInBounds_toArray, List.set_cons_zero, List.set_cons_succ]
          refine wpAnyH_take (i := 9) (oi := ({ dst := some 25, op := Op.fieldAddr 36 (Operand.tmp 24) 0, type := 0, pos := "session.go:82", after := #[{ on := 8, ground := Ground.data }, { on := 2, ground := Ground.guard }], guard := some (2, true) } : Oper)) (v := undef) rfl (by kernel_rfl) (by kernel_rfl) (by kernel_rfl) (fun _ _ _ h => h) (Or.inr ⟨by rfl, rfl⟩) (by assumption) ?_
          try simp only [Act.put, List.setIfInBounds_toArray, List.set_cons_zero, List.set_cons_succ]
          refine wpAnyH_take (i := 10) (oi := ({ dst := some 26, op := Op.load 3 (Operand.tmp 25), type := 3, pos := "session.go:82", after := #[{ on := 9, ground := Ground.data }, { on := 2, ground := Ground.guard }], guard := some (2, true) } : Oper)) (v := undef) rfl (by kernel_rfl) (by kernel_rfl) (by kernel_rfl) (fun _ _ _ h => h) (Or.inr ⟨by rfl, rfl⟩) (by assumption) ?_
          try simp only [Act.put, List.setIfInBounds_toArray, List.set_cons_zero, List.set_cons_succ]
          refine wpAnyH_take (i := 11) (oi := ({ dst := some 27, op := Op.binOp BinOp.leq 3 (Operand.tmp 20) (Operand.tmp 26) 3, type := 4, pos := "session.go:82", after := #[{ on := 4, ground := Ground.data }, { on := 10, ground := Ground.data }, { on := 2, ground := Ground.guard }], guard := some (2, true) } : Oper)) (v := undef) rfl (by kernel_rfl) (by kernel_rfl) (by kernel_rfl) (fun _ _ _ h => h) (Or.inr ⟨by rfl, rfl⟩) (by assumption) ?_
          try simp only [Act.put, List.setIfInBounds_toArray, List.set_cons_zero, List.set_cons_succ]
          refine wpAnyH_take (i := 12) (oi := ({ dst := some 28, op := Op.pick (Operand.tmp 18) (Operand.tmp 27) (Operand.const (Value.bool false)), type := 4, pos := "session.go:82", after := #[{ on := 2, ground := Ground.data }, { on := 11, ground := Ground.data }], guard := none } : Oper)) (v := ?_) rfl (by kernel_rfl) (by kernel_rfl) (by kernel_rfl) (fun _ _ _ h => h) (Or.inl ⟨by rfl, ?_⟩) (by assumption) ?_
          rotate_left
          · rintro w ⟨s0, s1, s2⟩; (try dsimp only); go_simp; first | done | with_reducible rfl
          try simp only [Act.put, List.setIfInBounds_toArray, List.set_cons_zero, List.set_cons_succ]
          refine wpAnyH_take (i := 13) (oi := ({ dst := some 29, op := Op.move (Operand.tmp 28), type := 4, pos := "session.go:82", after := #[{ on := 12, ground := Ground.data }, { on := 2, ground := Ground.chain }], guard := none } : Oper)) (v := ?_) rfl (by kernel_rfl) (by kernel_rfl) (by kernel_rfl) (fun _ _ _ h => h) (Or.inl ⟨by rfl, ?_⟩) (by assumption) ?_
          rotate_left
          · rintro w ⟨s0, s1, s2⟩; (try dsimp only); go_simp; first | done | with_reducible rfl
          try simp only [Act.put, List.setIfInBounds_toArray, List.set_cons_zero, List.set_cons_succ]
          refine wpAnyH_take (i := 14) (oi := ({ dst := some 30, op := Op.move (Operand.tmp 5), type := 26, pos := "session.go:82", after := #[{ on := 13, ground := Ground.guard }], guard := some (13, false) } : Oper)) (v := ?_) rfl (by kernel_rfl) (by kernel_rfl) (by kernel_rfl) (fun _ _ _ h => h) (Or.inl ⟨by rfl, ?_⟩) (by assumption) ?_
          rotate_left
          · rintro w ⟨s0, s1, s2⟩; (try dsimp only); go_simp; first | done | with_reducible rfl
          try simp only [Act.put, List.setIfInBounds_toArray, List.set_cons_zero, List.set_cons_succ]
          refine wpAnyH_take (i := 15) (oi := ({ dst := some 31, op := Op.fieldAddr 36 (Operand.tmp 7) 0, type := 0, pos := "session.go:82", after := #[{ on := 13, ground := Ground.guard }], guard := some (13, false) } : Oper)) (v := ?_) rfl (by kernel_rfl) (by kernel_rfl) (by kernel_rfl) (fun _ _ _ h => h) (Or.inl ⟨by rfl, ?_⟩) (by assumption) ?_
          rotate_left
          · rintro w ⟨s0, s1, s2⟩; (try dsimp only); go_simp; first | done | with_reducible rfl
          try simp only [Act.put, List.setIfInBounds_toArray, List.set_cons_zero, List.set_cons_succ]
          refine wpAnyH_take (i := 16) (oi := ({ dst := some 32, op := Op.load 3 (Operand.tmp 31), type := 3, pos := "session.go:82", after := #[{ on := 15, ground := Ground.data }, { on := 13, ground := Ground.guard }], guard := some (13, false) } : Oper)) (v := ?_) rfl (by kernel_rfl) (by kernel_rfl) (by kernel_rfl) (fun _ _ _ h => h) (Or.inl ⟨by rfl, ?_⟩) (by assumption) ?_
          rotate_left
          · rintro w ⟨s0, s1, s2⟩; (try dsimp only); go_simp; first | done | with_reducible rfl
          try simp only [Act.put, List.setIfInBounds_toArray, List.set_cons_zero, List.set_cons_succ]
          refine wpAnyH_take (i := 17) (oi := ({ dst := some 33, op := Op.fieldAddr 36 (Operand.tmp 7) 1, type := 0, pos := "session.go:82", after := #[{ on := 13, ground := Ground.guard }], guard := some (13, false) } : Oper)) (v := ?_) rfl (by kernel_rfl) (by kernel_rfl) (by kernel_rfl) (fun _ _ _ h => h) (Or.inl ⟨by rfl, ?_⟩) (by assumption) ?_
          rotate_left
          · rintro w ⟨s0, s1, s2⟩; (try dsimp only); go_simp; first | done | with_reducible rfl
          try simp only [Act.put, List.setIfInBounds_toArray, List.set_cons_zero, List.set_cons_succ]
          refine wpAnyH_take (i := 18) (oi := ({ dst := some 34, op := Op.load 3 (Operand.tmp 33), type := 3, pos := "session.go:82", after := #[{ on := 17, ground := Ground.data }, { on := 13, ground := Ground.guard }], guard := some (13, false) } : Oper)) (v := ?_) rfl (by kernel_rfl) (by kernel_rfl) (by kernel_rfl) (fun _ _ _ h => h) (Or.inl ⟨by rfl, ?_⟩) (by assumption) ?_
          rotate_left
          · rintro w ⟨s0, s1, s2⟩; (try dsimp only); go_simp; first | done | with_reducible rfl
          try simp only [Act.put, List.setIfInBounds_toArray, List.set_cons_zero, List.set_cons_succ]
          refine wpAnyH_take (i := 19) (oi := ({ dst := some 35, op := Op.fieldAddr 36 (Operand.tmp 7) 2, type := 0, pos := "session.go:82", after := #[{ on := 13, ground := Ground.guard }], guard := some (13, false) } : Oper)) (v := ?_) rfl (by kernel_rfl) (by kernel_rfl) (by kernel_rfl) (fun _ _ _ h => h) (Or.inl ⟨by rfl, ?_⟩) (by assumption) ?_
          rotate_left
          · rintro w ⟨s0, s1, s2⟩; (try dsimp only); go_simp; first | done | with_reducible rfl
          try simp only [Act.put, List.setIfInBounds_toArray, List.set_cons_zero, List.set_cons_succ]
          refine wpAnyH_take (i := 20) (oi := ({ dst := some 36, op := Op.load 3 (Operand.tmp 35), type := 3, pos := "session.go:82", after := #[{ on := 19, ground := Ground.data }, { on := 13, ground := Ground.guard }], guard := some (13, false) } : Oper)) (v := ?_) rfl (by kernel_rfl) (by kernel_rfl) (by kernel_rfl) (fun _ _ _ h => h) (Or.inl ⟨by rfl, ?_⟩) (by assumption) ?_
          rotate_left
          · rintro w ⟨s0, s1, s2⟩; (try dsimp only); go_simp; first | done | with_reducible rfl
          try simp only [Act.put, List.setIfInBounds_toArray, List.set_cons_zero, List.set_cons_succ]
          refine wpAnyH_ready (rs := [21]) (by kernel_rfl) (by simp) ?_
          refine AllReadyH.cons (o := ({ dst := some 37, op := Op.call { callee := Callee.value (Operand.func 14), args := #[Operand.tmp 30, Operand.tmp 32, Operand.tmp 34, Operand.tmp 36], argTypes := #[26, 3, 3, 3] }, type := 40, pos := "session.go:82", after := #[{ on := 14, ground := Ground.data }, { on := 16, ground := Ground.data }, { on := 18, ground := Ground.data }, { on := 20, ground := Ground.data }, { on := 13, ground := Ground.chain }, { on := 13, ground := Ground.guard }], guard := some (13, false) } : Oper)) rfl (fun K hK => ?_) AllReadyH.nil
          go_simp
          refine (HAD.out (wr.alloc (.cells #[.int .i64 x.client, .int .i64 x.span, .int .i64 x.seen] 36)).drew (HB1.out.trans ((below_drewN (Below.refl _ _) 1).mono HB1.out.size))).mono ?_
          rintro e w6 hd6
          have HD6 := Lib.hid hd6
          obtain ⟨rfl, F2, hT2, hF2, hC2⟩ := hd6
          have HC6 := Lib.hid (((Chg.refl F1 (wr.alloc (.cells #[.int .i64 x.client, .int .i64 x.span, .int .i64 x.seen] 36))).drewN 1).same hC2)
          clear hT2 hF2 hC2
          go_wp2_with fail
          refine hK.out _ _ (HST.out _ HC6.out) (fun hHeld => ?_)
          clear hK K
          try simp only [Act.put, List.setIfInBounds_toArray, List.set_cons_zero, List.set_cons_succ]
          refine wpAnyH_take (i := 22) (oi := ({ dst := some 38, op := Op.binOp BinOp.neq 40 (Operand.tmp 37) (Operand.const (Value.int IntKind.i64 0)) 40, type := 4, pos := "session.go:82", after := #[{ on := 21, ground := Ground.data }, { on := 13, ground := Ground.guard }], guard := some (13, false) } : Oper)) (v := ?_) rfl (by kernel_rfl) (by kernel_rfl) (by kernel_rfl) (fun _ _ _ h => h) (Or.inl ⟨by rfl, ?_⟩) (by assumption) ?_
          rotate_left
          · rintro w ⟨s0, s1, s2⟩; (try dsimp only); go_simp; first | done | with_reducible rfl
          try simp only [Act.put, List.setIfInBounds_toArray, List.set_cons_zero, List.set_cons_succ]
          refine wpAnyH_take (i := 23) (oi := ({ dst := some 39, op := Op.pick (Operand.tmp 29) (Operand.const (Value.bool true)) (Operand.tmp 38), type := 4, pos := "session.go:82", after := #[{ on := 13, ground := Ground.data }, { on := 22, ground := Ground.data }], guard := none } : Oper)) (v := ?_) rfl (by kernel_rfl) (by kernel_rfl) (by kernel_rfl) (fun _ _ _ h => h) (Or.inl ⟨by rfl, ?_⟩) (by assumption) ?_
          rotate_left
          · rintro w ⟨s0, s1, s2⟩; (try dsimp only); go_simp; first | done | with_reducible rfl
          try simp only [Act.put, List.setIfInBounds_toArray, List.set_cons_zero, List.set_cons_succ]
          refine wpAnyH_done (by kernel_rfl) ?_ _
          go_wp2_with fail
          go_ret
          exact load_no2E HT.out HNO.out HLD.out (HB1.out.trans (below_drewN (Below.refl _ _) 1 |>.mono HB1.out.size)) HD6.out
      · obtain ⟨j, hj⟩ : ∃ j, k = j + 1 := ⟨k - 1, by omega⟩
        have hjx : j < xs.length := by omega
        have hy : xs[j]? = some xs[j] := List.getElem?_eq_getElem hjx
        obtain ⟨a', ea, _, f0, f1, f2⟩ := (HX.out.below hbw).se3 hy
        obtain rfl := Option.some.inj ea
        have hgt : decide ((0 : Int) < (k : Int)) = true := decide_eq_true (by omega)
        have hgn : decide (0 < k) = true := decide_eq_true (by omega)
        have y5 : 0 < k := by omega
        have hkj : IntKind.i64.wrap ((k : Int) - 1) = (j : Int) := by rw [IntKind.wrap_i64]; omega
        have y3 : (0 : Int) ≤ (j : Int) := by omega
        have y4 : (j : Int) < (n : Int) := by omega
        generalize xs[j] = y at *
        have HR3 := Lib.hid (show RowE a j y wr from ⟨f0, f1, f2⟩)
        have HST := Lib.hid (fun X (hX : Chg F1 (wr.alloc (.cells #[.int .i64 x.client, .int .i64 x.span, .int .i64 x.seen] 36)) X) => (show BoxE wr.heap.size x X ∧ RowE a j y X from ⟨HKB.out.chg hX HAB.out, (HR3.out.chg (Chg.of_below F1 hb1) HAF.out).chg hX HAF.out⟩))
        have HOKN := Lib.hid (fun e => by have := hld.ok.opened x; rw [e] at this; exact this : (seOpen x (xs.take k)).1 = xs.take (k + 1) → SOk (xs.take (k + 1)))
        by_cases hyx : seLt y x
        · have HSTP := Lib.hid (load_stepE hld.ok hx (.inr ⟨j, y, hj, hy, hyx⟩))
          have hc1 : decide (x.client ≤ y.client) = false := decide_eq_false (by unfold seLt at hyx; omega)
          clear hld hx hkx hlt hk hbw hal hal0 hb1 hk0 hj hjx hy f0 f1 f2 hyx
          rcases HSTP.out with ⟨e1, e2⟩ | ⟨e1, e2⟩
          · rw [e1, e2] at HAD
            have HW3 := Lib.hid (HOKN.out e2)
            clear HSTP HOKN e1 e2
            go_wp2_with fail
            refine wp_region_held_drew (S := fun X => BoxE wr.heap.size x X ∧ RowE a j y X) (by kernel_rfl) (HST.out _ ((Chg.refl F1 (wr.alloc (.cells #[.int .i64 x.client, .int .i64 x.span, .int .i64 x.seen] 36))).drewN 1)) (fun hHeld => ?_)
            refine wpAnyH_take (i := 0) (oi := ({ dst := some 16, op := Op.move (Operand.tmp 6), type := 3, pos := "session.go:82", after := #[], guard := none } : Oper)) (v := ?_) rfl (by kernel_rfl) (by kernel_rfl) (by kernel_rfl) (fun _ _ _ h => h) (Or.inl ⟨by rfl, ?_⟩) (by assumption) ?_
            rotate_left
            · rintro w ⟨⟨s0, s1, s2⟩, s3, s4, s5⟩; (try dsimp only); go_simp; first | done | with_reducible rfl
            try simp only [Act.put, List.setIfInBounds_toArray, List.set_cons_zero, List.set_cons_succ]
            refine wpAnyH_take (i := 1) (oi := ({ dst := some 17, op := Op.binOp BinOp.gtr 3 (Operand.tmp 16) (Operand.const (Value.int IntKind.i64 0)) 3, type := 4, pos := "session.go:82", after := #[{ on := 0, ground := Ground.data }], guard := none } : Oper)) (v := ?_) rfl (by kernel_rfl) (by kernel_rfl) (by kernel_rfl) (fun _ _ _ h => h) (Or.inl ⟨by rfl, ?_⟩) (by assumption) ?_
            rotate_left
            · rintro w ⟨⟨s0, s1, s2⟩, s3, s4, s5⟩; (try dsimp only); go_simp; first | done | with_reducible rfl
            try simp only [Act.put, List.setIfInBounds_toArray, List.set_cons_zero, List.set_cons_succ]
            refine wpAnyH_take (i := 2) (oi := ({ dst := some 18, op := Op.move (Operand.tmp 17), type := 4, pos := "session.go:82", after := #[{ on := 1, ground := Ground.data }], guard := none } : Oper)) (v := ?_) rfl (by kernel_rfl) (by kernel_rfl) (by kernel_rfl) (fun _ _ _ h => h) (Or.inl ⟨by rfl, ?_⟩) (by assumption) ?_
            rotate_left
            · rintro w ⟨⟨s0, s1, s2⟩, s3, s4, s5⟩; (try dsimp only); go_simp; first | done | with_reducible rfl
            try simp only [Act.put, List.setIfInBounds_toArray, List.set_cons_zero, List.set_cons_succ]
            refine wpAnyH_take (i := 3) (oi := ({ dst := some 19, op := Op.fieldAddr 36 (Operand.tmp 7) 0, type := 0, pos := "session.go:82", after := #[{ on := 2, ground := Ground.guard }], guard := some (2, true) } : Oper)) (v := ?_) rfl (by kernel_rfl) (by kernel_rfl) (by kernel_rfl) (fun _ _ _ h => h) (Or.inl ⟨by rfl, ?_⟩) (by assumption) ?_
            rotate_left
            · rintro w ⟨⟨s0, s1, s2⟩, s3, s4, s5⟩; (try dsimp only); go_simp; first | done | with_reducible rfl
            try simp only [Act.put, List.setIfInBounds_toArray, List.set_cons_zero, List.set_cons_succ]
            refine wpAnyH_take (i := 4) (oi := ({ dst := some 20, op := Op.load 3 (Operand.tmp 19), type := 3, pos := "session.go:82", after := #[{ on := 3, ground := Ground.data }, { on := 2, ground := Ground.guard }], guard := some (2, true) } : Oper)) (v := ?_) rfl (by kernel_rfl) (by kernel_rfl) (by kernel_rfl) (fun _ _ _ h => h) (Or.inl ⟨by rfl, ?_⟩) (by assumption) ?_
            rotate_left
            · rintro w ⟨⟨s0, s1, s2⟩, s3, s4, s5⟩; (try dsimp only); go_simp; first | done | with_reducible rfl
            try simp only [Act.put, List.setIfInBounds_toArray, List.set_cons_zero, List.set_cons_succ]
            refine wpAnyH_take (i := 5) (oi := ({ dst := some 21, op := Op.move (Operand.tmp 1), type := 23, pos := "session.go:82", after := #[{ on := 2, ground := Ground.guard }], guard := some (2, true) } : Oper)) (v := ?_) rfl (by kernel_rfl) (by kernel_rfl) (by kernel_rfl) (fun _ _ _ h => h) (Or.inl ⟨by rfl, ?_⟩) (by assumption) ?_
            rotate_left
            · rintro w ⟨⟨s0, s1, s2⟩, s3, s4, s5⟩; (try dsimp only); go_simp; first | done | with_reducible rfl
            try simp only [Act.put, List.setIfInBounds_toArray, List.set_cons_zero, List.set_cons_succ]
            refine wpAnyH_take (i := 6) (oi := ({ dst := some 22, op := Op.move (Operand.tmp 6), type := 3, pos := "session.go:82", after := #[{ on := 2, ground := Ground.guard }], guard := some (2, true) } : Oper)) (v := ?_) rfl (by kernel_rfl) (by kernel_rfl) (by kernel_rfl) (fun _ _ _ h => h) (Or.inl ⟨by rfl, ?_⟩) (by assumption) ?_
            rotate_left
            · rintro w ⟨⟨s0, s1, s2⟩, s3, s4, s5⟩; (try dsimp only); go_simp; first | done | with_reducible rfl
            try simp only [Act.put, List.setIfInBounds_toArray, List.set_cons_zero, List.set_cons_succ]
            refine wpAnyH_take (i := 7) (oi := ({ dst := some 23, op := Op.binOp BinOp.sub 3 (Operand.tmp 22) (Operand.const (Value.int IntKind.i64 1)) 3, type := 3, pos := "session.go:82", after := #[{ on := 6, ground := Ground.data }, { on := 2, ground := Ground.guard }], guard := some (2, true) } : Oper)) (v := ?_) rfl (by kernel_rfl) (by kernel_rfl) (by kernel_rfl) (fun _ _ _ h => h) (Or.inl ⟨by rfl, ?_⟩) (by assumption) ?_
            rotate_left
            · rintro w ⟨⟨s0, s1, s2⟩, s3, s4, s5⟩; (try dsimp only); go_simp; first | done | with_reducible rfl
            try simp only [Act.put, List.setIfInBounds_toArray, List.set_cons_zero, List.set_cons_succ]
            refine wpAnyH_take (i := 8) (oi := ({ dst := some 24, op := Op.indexAddr 23 (Operand.tmp 21) (Operand.tmp 23), type := 0, pos := "session.go:82", after := #[{ on := 5, ground := Ground.data }, { on := 7, ground := Ground.data }, { on := 2, ground := Ground.guard }], guard := some (2, true) } : Oper)) (v := ?_) rfl (by kernel_rfl) (by kernel_rfl) (by kernel_rfl) (fun _ _ _ h => h) (Or.inl ⟨by rfl, ?_⟩) (by assumption) ?_
            rotate_left
            · rintro w ⟨⟨s0, s1, s2⟩, s3, s4, s5⟩; (try dsimp only); go_simp; first | done | with_reducible rfl
            try simp only [Act.put, List.setIfInBounds_toArray, List.set_cons_zero, List.set_cons_succ]
            refine wpAnyH_take (i := 9) (oi := ({ dst := some 25, op := Op.fieldAddr 36 (Operand.tmp 24) 0, type := 0, pos := "session.go:82", after := #[{ on := 8, ground := Ground.data }, { on := 2, ground := Ground.guard }], guard := some (2, true) } : Oper)) (v := ?_) rfl (by kernel_rfl) (by kernel_rfl) (by kernel_rfl) (fun _ _ _ h => h) (Or.inl ⟨by rfl, ?_⟩) (by assumption) ?_
            rotate_left
            · rintro w ⟨⟨s0, s1, s2⟩, s3, s4, s5⟩; (try dsimp only); go_simp; first | done | with_reducible rfl
            try simp only [Act.put, List.setIfInBounds_toArray, List.set_cons_zero, List.set_cons_succ]
            refine wpAnyH_take (i := 10) (oi := ({ dst := some 26, op := Op.load 3 (Operand.tmp 25), type := 3, pos := "session.go:82", after := #[{ on := 9, ground := Ground.data }, { on := 2, ground := Ground.guard }], guard := some (2, true) } : Oper)) (v := ?_) rfl (by kernel_rfl) (by kernel_rfl) (by kernel_rfl) (fun _ _ _ h => h) (Or.inl ⟨by rfl, ?_⟩) (by assumption) ?_
            rotate_left
            · rintro w ⟨⟨s0, s1, s2⟩, s3, s4, s5⟩; (try dsimp only); go_simp; first | done | with_reducible rfl
            try simp only [Act.put, List.setIfInBounds_toArray, List.set_cons_zero, List.set_cons_succ]
            refine wpAnyH_take (i := 11) (oi := ({ dst := some 27, op := Op.binOp BinOp.leq 3 (Operand.tmp 20) (Operand.tmp 26) 3, type := 4, pos := "session.go:82", after := #[{ on := 4, ground := Ground.data }, { on := 10, ground := Ground.data }, { on := 2, ground := Ground.guard }], guard := some (2, true) } : Oper)) (v := ?_) rfl (by kernel_rfl) (by kernel_rfl) (by kernel_rfl) (fun _ _ _ h => h) (Or.inl ⟨by rfl, ?_⟩) (by assumption) ?_
            rotate_left
            · rintro w ⟨⟨s0, s1, s2⟩, s3, s4, s5⟩; (try dsimp only); go_simp; first | done | with_reducible rfl
            try simp only [Act.put, List.setIfInBounds_toArray, List.set_cons_zero, List.set_cons_succ]
            refine wpAnyH_take (i := 12) (oi := ({ dst := some 28, op := Op.pick (Operand.tmp 18) (Operand.tmp 27) (Operand.const (Value.bool false)), type := 4, pos := "session.go:82", after := #[{ on := 2, ground := Ground.data }, { on := 11, ground := Ground.data }], guard := none } : Oper)) (v := ?_) rfl (by kernel_rfl) (by kernel_rfl) (by kernel_rfl) (fun _ _ _ h => h) (Or.inl ⟨by rfl, ?_⟩) (by assumption) ?_
            rotate_left
            · rintro w ⟨⟨s0, s1, s2⟩, s3, s4, s5⟩; (try dsimp only); go_simp; first | done | with_reducible rfl
            try simp only [Act.put, List.setIfInBounds_toArray, List.set_cons_zero, List.set_cons_succ]
            refine wpAnyH_take (i := 13) (oi := ({ dst := some 29, op := Op.move (Operand.tmp 28), type := 4, pos := "session.go:82", after := #[{ on := 12, ground := Ground.data }, { on := 2, ground := Ground.chain }], guard := none } : Oper)) (v := ?_) rfl (by kernel_rfl) (by kernel_rfl) (by kernel_rfl) (fun _ _ _ h => h) (Or.inl ⟨by rfl, ?_⟩) (by assumption) ?_
            rotate_left
            · rintro w ⟨⟨s0, s1, s2⟩, s3, s4, s5⟩; (try dsimp only); go_simp; first | done | with_reducible rfl
            try simp only [Act.put, List.setIfInBounds_toArray, List.set_cons_zero, List.set_cons_succ]
            refine wpAnyH_take (i := 14) (oi := ({ dst := some 30, op := Op.move (Operand.tmp 5), type := 26, pos := "session.go:82", after := #[{ on := 13, ground := Ground.guard }], guard := some (13, false) } : Oper)) (v := ?_) rfl (by kernel_rfl) (by kernel_rfl) (by kernel_rfl) (fun _ _ _ h => h) (Or.inl ⟨by rfl, ?_⟩) (by assumption) ?_
            rotate_left
            · rintro w ⟨⟨s0, s1, s2⟩, s3, s4, s5⟩; (try dsimp only); go_simp; first | done | with_reducible rfl
            try simp only [Act.put, List.setIfInBounds_toArray, List.set_cons_zero, List.set_cons_succ]
            refine wpAnyH_take (i := 15) (oi := ({ dst := some 31, op := Op.fieldAddr 36 (Operand.tmp 7) 0, type := 0, pos := "session.go:82", after := #[{ on := 13, ground := Ground.guard }], guard := some (13, false) } : Oper)) (v := ?_) rfl (by kernel_rfl) (by kernel_rfl) (by kernel_rfl) (fun _ _ _ h => h) (Or.inl ⟨by rfl, ?_⟩) (by assumption) ?_
            rotate_left
            · rintro w ⟨⟨s0, s1, s2⟩, s3, s4, s5⟩; (try dsimp only); go_simp; first | done | with_reducible rfl
            try simp only [Act.put, List.setIfInBounds_toArray, List.set_cons_zero, List.set_cons_succ]
            refine wpAnyH_take (i := 16) (oi := ({ dst := some 32, op := Op.load 3 (Operand.tmp 31), type := 3, pos := "session.go:82", after := #[{ on := 15, ground := Ground.data }, { on := 13, ground := Ground.guard }], guard := some (13, false) } : Oper)) (v := ?_) rfl (by kernel_rfl) (by kernel_rfl) (by kernel_rfl) (fun _ _ _ h => h) (Or.inl ⟨by rfl, ?_⟩) (by assumption) ?_
            rotate_left
            · rintro w ⟨⟨s0, s1, s2⟩, s3, s4, s5⟩; (try dsimp only); go_simp; first | done | with_reducible rfl
            try simp only [Act.put, List.setIfInBounds_toArray, List.set_cons_zero, List.set_cons_succ]
            refine wpAnyH_take (i := 17) (oi := ({ dst := some 33, op := Op.fieldAddr 36 (Operand.tmp 7) 1, type := 0, pos := "session.go:82", after := #[{ on := 13, ground := Ground.guard }], guard := some (13, false) } : Oper)) (v := ?_) rfl (by kernel_rfl) (by kernel_rfl) (by kernel_rfl) (fun _ _ _ h => h) (Or.inl ⟨by rfl, ?_⟩) (by assumption) ?_
            rotate_left
            · rintro w ⟨⟨s0, s1, s2⟩, s3, s4, s5⟩; (try dsimp only); go_simp; first | done | with_reducible rfl
            try simp only [Act.put, List.setIfInBounds_toArray, List.set_cons_zero, List.set_cons_succ]
            refine wpAnyH_take (i := 18) (oi := ({ dst := some 34, op := Op.load 3 (Operand.tmp 33), type := 3, pos := "session.go:82", after := #[{ on := 17, ground := Ground.data }, { on := 13, ground := Ground.guard }], guard := some (13, false) } : Oper)) (v := ?_) rfl (by kernel_rfl) (by kernel_rfl) (by kernel_rfl) (fun _ _ _ h => h) (Or.inl ⟨by rfl, ?_⟩) (by assumption) ?_
            rotate_left
            · rintro w ⟨⟨s0, s1, s2⟩, s3, s4, s5⟩; (try dsimp only); go_simp; first | done | with_reducible rfl
            try simp only [Act.put, List.setIfInBounds_toArray, List.set_cons_zero, List.set_cons_succ]
            refine wpAnyH_take (i := 19) (oi := ({ dst := some 35, op := Op.fieldAddr 36 (Operand.tmp 7) 2, type := 0, pos := "session.go:82", after := #[{ on := 13, ground := Ground.guard }], guard := some (13, false) } : Oper)) (v := ?_) rfl (by kernel_rfl) (by kernel_rfl) (by kernel_rfl) (fun _ _ _ h => h) (Or.inl ⟨by rfl, ?_⟩) (by assumption) ?_
            rotate_left
            · rintro w ⟨⟨s0, s1, s2⟩, s3, s4, s5⟩; (try dsimp only); go_simp; first | done | with_reducible rfl
            try simp only [Act.put, List.setIfInBounds_toArray, List.set_cons_zero, List.set_cons_succ]
            refine wpAnyH_take (i := 20) (oi := ({ dst := some 36, op := Op.load 3 (Operand.tmp 35), type := 3, pos := "session.go:82", after := #[{ on := 19, ground := Ground.data }, { on := 13, ground := Ground.guard }], guard := some (13, false) } : Oper)) (v := ?_) rfl (by kernel_rfl) (by kernel_rfl) (by kernel_rfl) (fun _ _ _ h => h) (Or.inl ⟨by rfl, ?_⟩) (by assumption) ?_
            rotate_left
            · rintro w ⟨⟨s0, s1, s2⟩, s3, s4, s5⟩; (try dsimp only); go_simp; first | done | with_reducible rfl
            try simp only [Act.put, List.setIfInBounds_toArray, List.set_cons_zero, List.set_cons_succ]
            refine wpAnyH_ready (rs := [21]) (by kernel_rfl) (by simp) ?_
            refine AllReadyH.cons (o := ({ dst := some 37, op := Op.call { callee := Callee.value (Operand.func 14), args := #[Operand.tmp 30, Operand.tmp 32, Operand.tmp 34, Operand.tmp 36], argTypes := #[26, 3, 3, 3] }, type := 40, pos := "session.go:82", after := #[{ on := 14, ground := Ground.data }, { on := 16, ground := Ground.data }, { on := 18, ground := Ground.data }, { on := 20, ground := Ground.data }, { on := 13, ground := Ground.chain }, { on := 13, ground := Ground.guard }], guard := some (13, false) } : Oper)) rfl (fun K hK => ?_) AllReadyH.nil
            go_simp
            refine (HAD.out (wr.alloc (.cells #[.int .i64 x.client, .int .i64 x.span, .int .i64 x.seen] 36)).drew (HB1.out.trans ((below_drewN (Below.refl _ _) 1).mono HB1.out.size))).mono ?_
            rintro e w6 hd6
            have HD6 := Lib.hid hd6
            obtain ⟨rfl, F2, hT2, hF2, hC2⟩ := hd6
            have HC6 := Lib.hid (((Chg.refl F1 (wr.alloc (.cells #[.int .i64 x.client, .int .i64 x.span, .int .i64 x.seen] 36))).drewN 1).same hC2)
            clear hT2 hF2 hC2
            go_wp2_with fail
            refine hK.out _ _ (HST.out _ HC6.out) (fun hHeld => ?_)
            clear hK K
            try simp only [Act.put, List.setIfInBounds_toArray, List.set_cons_zero, List.set_cons_succ]
            refine wpAnyH_take (i := 22) (oi := ({ dst := some 38, op := Op.binOp BinOp.neq 40 (Operand.tmp 37) (Operand.const (Value.int IntKind.i64 0)) 40, type := 4, pos := "session.go:82", after := #[{ on := 21, ground := Ground.data }, { on := 13, ground := Ground.guard }], guard := some (13, false) } : Oper)) (v := ?_) rfl (by kernel_rfl) (by kernel_rfl) (by kernel_rfl) (fun _ _ _ h => h) (Or.inl ⟨by rfl, ?_⟩) (by assumption) ?_
            rotate_left
            · rintro w ⟨⟨s0, s1, s2⟩, s3, s4, s5⟩; (try dsimp only); go_simp; first | done | with_reducible rfl
            try simp only [Act.put, List.setIfInBounds_toArray, List.set_cons_zero, List.set_cons_succ]
            refine wpAnyH_take (i := 23) (oi := ({ dst := some 39, op := Op.pick (Operand.tmp 29) (Operand.const (Value.bool true)) (Operand.tmp 38), type := 4, pos := "session.go:82", after := #[{ on := 13, ground := Ground.data }, { on := 22, ground := Ground.data }], guard := none } : Oper)) (v := ?_) rfl (by kernel_rfl) (by kernel_rfl) (by kernel_rfl) (fun _ _ _ h => h) (Or.inl ⟨by rfl, ?_⟩) (by assumption) ?_
            rotate_left
            · rintro w ⟨⟨s0, s1, s2⟩, s3, s4, s5⟩; (try dsimp only); go_simp; first | done | with_reducible rfl
            try simp only [Act.put, List.setIfInBounds_toArray, List.set_cons_zero, List.set_cons_succ]
            refine wpAnyH_done (by kernel_rfl) ?_ _
            go_wp2_with fail
            go_roundw
            case rel =>
              obtain ⟨F2, hF2⟩ := load_nextE HLD.out (HB1.out.trans (below_drewN (Below.refl _ _) 1 |>.mono HB1.out.size)) HD6.out HW3.out
              exact ⟨k + 1, F2, HLT.out, by go_num, hF2⟩
            case measure => have := HLT.out; simp [intOf]; omega
          · obtain ⟨v, hv⟩ : ∃ v, v = (seOpen x (xs.take k)).2 := ⟨_, rfl⟩
            rw [← hv] at HAD e1
            have hv1 : (v != 0) = true := by simpa using e1
            have HNO := Lib.hid e2
            clear HSTP HOKN e1 e2 hv
            go_wp2_with fail
            refine wp_region_held_drew (S := fun X => BoxE wr.heap.size x X ∧ RowE a j y X) (by kernel_rfl) (HST.out _ ((Chg.refl F1 (wr.alloc (.cells #[.int .i64 x.client, .int .i64 x.span, .int .i64 x.seen] 36))).drewN 1)) (fun hHeld => ?_)
            refine wpAnyH_take (i := 0) (oi := ({ dst := some 16, op := Op.move (Operand.tmp 6), type := 3, pos := "session.go:82", after := #[], guard := none } : Oper)) (v := ?_) rfl (by kernel_rfl) (by kernel_rfl) (by kernel_rfl) (fun _ _ _ h => h) (Or.inl ⟨by rfl, ?_⟩) (by assumption) ?_
            rotate_left
            · rintro w ⟨⟨s0, s1, s2⟩, s3, s4, s5⟩; (try dsimp only); go_simp; first | done | with_reducible rfl
            try simp only [Act.put, List.setIfInBounds_toArray, List.set_cons_zero, List.set_cons_succ]
            refine wpAnyH_take (i := 1) (oi := ({ dst := some 17, op := Op.binOp BinOp.gtr 3 (Operand.tmp 16) (Operand.const (Value.int IntKind.i64 0)) 3, type := 4, pos := "session.go:82", after := #[{ on := 0, ground := Ground.data }], guard := none } : Oper)) (v := ?_) rfl (by kernel_rfl) (by kernel_rfl) (by kernel_rfl) (fun _ _ _ h => h) (Or.inl ⟨by rfl, ?_⟩) (by assumption) ?_
            rotate_left
            · rintro w ⟨⟨s0, s1, s2⟩, s3, s4, s5⟩; (try dsimp only); go_simp; first | done | with_reducible rfl
            try simp only [Act.put, List.setIfInBounds_toArray, List.set_cons_zero, List.set_cons_succ]
            refine wpAnyH_take (i := 2) (oi := ({ dst := some 18, op := Op.move (Operand.tmp 17), type := 4, pos := "session.go:82", after := #[{ on := 1, ground := Ground.data }], guard := none } : Oper)) (v := ?_) rfl (by kernel_rfl) (by kernel_rfl) (by kernel_rfl) (fun _ _ _ h => h) (Or.inl ⟨by rfl, ?_⟩) (by assumption) ?_
            rotate_left
            · rintro w ⟨⟨s0, s1, s2⟩, s3, s4, s5⟩; (try dsimp only); go_simp; first | done | with_reducible rfl
            try simp only [Act.put, List.setIfInBounds_toArray, List.set_cons_zero, List.set_cons_succ]
            refine wpAnyH_take (i := 3) (oi := ({ dst := some 19, op := Op.fieldAddr 36 (Operand.tmp 7) 0, type := 0, pos := "session.go:82", after := #[{ on := 2, ground := Ground.guard }], guard := some (2, true) } : Oper)) (v := ?_) rfl (by kernel_rfl) (by kernel_rfl) (by kernel_rfl) (fun _ _ _ h => h) (Or.inl ⟨by rfl, ?_⟩) (by assumption) ?_
            rotate_left
            · rintro w ⟨⟨s0, s1, s2⟩, s3, s4, s5⟩; (try dsimp only); go_simp; first | done | with_reducible rfl
            try simp only [Act.put, List.setIfInBounds_toArray, List.set_cons_zero, List.set_cons_succ]
            refine wpAnyH_take (i := 4) (oi := ({ dst := some 20, op := Op.load 3 (Operand.tmp 19), type := 3, pos := "session.go:82", after := #[{ on := 3, ground := Ground.data }, { on := 2, ground := Ground.guard }], guard := some (2, true) } : Oper)) (v := ?_) rfl (by kernel_rfl) (by kernel_rfl) (by kernel_rfl) (fun _ _ _ h => h) (Or.inl ⟨by rfl, ?_⟩) (by assumption) ?_
            rotate_left
            · rintro w ⟨⟨s0, s1, s2⟩, s3, s4, s5⟩; (try dsimp only); go_simp; first | done | with_reducible rfl
            try simp only [Act.put, List.setIfInBounds_toArray, List.set_cons_zero, List.set_cons_succ]
            refine wpAnyH_take (i := 5) (oi := ({ dst := some 21, op := Op.move (Operand.tmp 1), type := 23, pos := "session.go:82", after := #[{ on := 2, ground := Ground.guard }], guard := some (2, true) } : Oper)) (v := ?_) rfl (by kernel_rfl) (by kernel_rfl) (by kernel_rfl) (fun _ _ _ h => h) (Or.inl ⟨by rfl, ?_⟩) (by assumption) ?_
            rotate_left
            · rintro w ⟨⟨s0, s1, s2⟩, s3, s4, s5⟩; (try dsimp only); go_simp; first | done | with_reducible rfl
            try simp only [Act.put, List.setIfInBounds_toArray, List.set_cons_zero, List.set_cons_succ]
            refine wpAnyH_take (i := 6) (oi := ({ dst := some 22, op := Op.move (Operand.tmp 6), type := 3, pos := "session.go:82", after := #[{ on := 2, ground := Ground.guard }], guard := some (2, true) } : Oper)) (v := ?_) rfl (by kernel_rfl) (by kernel_rfl) (by kernel_rfl) (fun _ _ _ h => h) (Or.inl ⟨by rfl, ?_⟩) (by assumption) ?_
            rotate_left
            · rintro w ⟨⟨s0, s1, s2⟩, s3, s4, s5⟩; (try dsimp only); go_simp; first | done | with_reducible rfl
            try simp only [Act.put, List.setIfInBounds_toArray, List.set_cons_zero, List.set_cons_succ]
            refine wpAnyH_take (i := 7) (oi := ({ dst := some 23, op := Op.binOp BinOp.sub 3 (Operand.tmp 22) (Operand.const (Value.int IntKind.i64 1)) 3, type := 3, pos := "session.go:82", after := #[{ on := 6, ground := Ground.data }, { on := 2, ground := Ground.guard }], guard := some (2, true) } : Oper)) (v := ?_) rfl (by kernel_rfl) (by kernel_rfl) (by kernel_rfl) (fun _ _ _ h => h) (Or.inl ⟨by rfl, ?_⟩) (by assumption) ?_
            rotate_left
            · rintro w ⟨⟨s0, s1, s2⟩, s3, s4, s5⟩; (try dsimp only); go_simp; first | done | with_reducible rfl
            try simp only [Act.put, List.setIfInBounds_toArray, List.set_cons_zero, List.set_cons_succ]
            refine wpAnyH_take (i := 8) (oi := ({ dst := some 24, op := Op.indexAddr 23 (Operand.tmp 21) (Operand.tmp 23), type := 0, pos := "session.go:82", after := #[{ on := 5, ground := Ground.data }, { on := 7, ground := Ground.data }, { on := 2, ground := Ground.guard }], guard := some (2, true) } : Oper)) (v := ?_) rfl (by kernel_rfl) (by kernel_rfl) (by kernel_rfl) (fun _ _ _ h => h) (Or.inl ⟨by rfl, ?_⟩) (by assumption) ?_
            rotate_left
            · rintro w ⟨⟨s0, s1, s2⟩, s3, s4, s5⟩; (try dsimp only); go_simp; first | done | with_reducible rfl
            try simp only [Act.put, List.setIfInBounds_toArray, List.set_cons_zero, List.set_cons_succ]
            refine wpAnyH_take (i := 9) (oi := ({ dst := some 25, op := Op.fieldAddr 36 (Operand.tmp 24) 0, type := 0, pos := "session.go:82", after := #[{ on := 8, ground := Ground.data }, { on := 2, ground := Ground.guard }], guard := some (2, true) } : Oper)) (v := ?_) rfl (by kernel_rfl) (by kernel_rfl) (by kernel_rfl) (fun _ _ _ h => h) (Or.inl ⟨by rfl, ?_⟩) (by assumption) ?_
            rotate_left
            · rintro w ⟨⟨s0, s1, s2⟩, s3, s4, s5⟩; (try dsimp only); go_simp; first | done | with_reducible rfl
            try simp only [Act.put, List.setIfInBounds_toArray, List.set_cons_zero, List.set_cons_succ]
            refine wpAnyH_take (i := 10) (oi := ({ dst := some 26, op := Op.load 3 (Operand.tmp 25), type := 3, pos := "session.go:82", after := #[{ on := 9, ground := Ground.data }, { on := 2, ground := Ground.guard }], guard := some (2, true) } : Oper)) (v := ?_) rfl (by kernel_rfl) (by kernel_rfl) (by kernel_rfl) (fun _ _ _ h => h) (Or.inl ⟨by rfl, ?_⟩) (by assumption) ?_
            rotate_left
            · rintro w ⟨⟨s0, s1, s2⟩, s3, s4, s5⟩; (try dsimp only); go_simp; first | done | with_reducible rfl
            try simp only [Act.put, List.setIfInBounds_toArray, List.set_cons_zero, List.set_cons_succ]
            refine wpAnyH_take (i := 11) (oi := ({ dst := some 27, op := Op.binOp BinOp.leq 3 (Operand.tmp 20) (Operand.tmp 26) 3, type := 4, pos := "session.go:82", after := #[{ on := 4, ground := Ground.data }, { on := 10, ground := Ground.data }, { on := 2, ground := Ground.guard }], guard := some (2, true) } : Oper)) (v := ?_) rfl (by kernel_rfl) (by kernel_rfl) (by kernel_rfl) (fun _ _ _ h => h) (Or.inl ⟨by rfl, ?_⟩) (by assumption) ?_
            rotate_left
            · rintro w ⟨⟨s0, s1, s2⟩, s3, s4, s5⟩; (try dsimp only); go_simp; first | done | with_reducible rfl
            try simp only [Act.put, List.setIfInBounds_toArray, List.set_cons_zero, List.set_cons_succ]
            refine wpAnyH_take (i := 12) (oi := ({ dst := some 28, op := Op.pick (Operand.tmp 18) (Operand.tmp 27) (Operand.const (Value.bool false)), type := 4, pos := "session.go:82", after := #[{ on := 2, ground := Ground.data }, { on := 11, ground := Ground.data }], guard := none } : Oper)) (v := ?_) rfl (by kernel_rfl) (by kernel_rfl) (by kernel_rfl) (fun _ _ _ h => h) (Or.inl ⟨by rfl, ?_⟩) (by assumption) ?_
            rotate_left
            · rintro w ⟨⟨s0, s1, s2⟩, s3, s4, s5⟩; (try dsimp only); go_simp; first | done | with_reducible rfl
            try simp only [Act.put, List.setIfInBounds_toArray, List.set_cons_zero, List.set_cons_succ]
            refine wpAnyH_take (i := 13) (oi := ({ dst := some 29, op := Op.move (Operand.tmp 28), type := 4, pos := "session.go:82", after := #[{ on := 12, ground := Ground.data }, { on := 2, ground := Ground.chain }], guard := none } : Oper)) (v := ?_) rfl (by kernel_rfl) (by kernel_rfl) (by kernel_rfl) (fun _ _ _ h => h) (Or.inl ⟨by rfl, ?_⟩) (by assumption) ?_
            rotate_left
            · rintro w ⟨⟨s0, s1, s2⟩, s3, s4, s5⟩; (try dsimp only); go_simp; first | done | with_reducible rfl
            try simp only [Act.put, List.setIfInBounds_toArray, List.set_cons_zero, List.set_cons_succ]
            refine wpAnyH_take (i := 14) (oi := ({ dst := some 30, op := Op.move (Operand.tmp 5), type := 26, pos := "session.go:82", after := #[{ on := 13, ground := Ground.guard }], guard := some (13, false) } : Oper)) (v := ?_) rfl (by kernel_rfl) (by kernel_rfl) (by kernel_rfl) (fun _ _ _ h => h) (Or.inl ⟨by rfl, ?_⟩) (by assumption) ?_
            rotate_left
            · rintro w ⟨⟨s0, s1, s2⟩, s3, s4, s5⟩; (try dsimp only); go_simp; first | done | with_reducible rfl
            try simp only [Act.put, List.setIfInBounds_toArray, List.set_cons_zero, List.set_cons_succ]
            refine wpAnyH_take (i := 15) (oi := ({ dst := some 31, op := Op.fieldAddr 36 (Operand.tmp 7) 0, type := 0, pos := "session.go:82", after := #[{ on := 13, ground := Ground.guard }], guard := some (13, false) } : Oper)) (v := ?_) rfl (by kernel_rfl) (by kernel_rfl) (by kernel_rfl) (fun _ _ _ h => h) (Or.inl ⟨by rfl, ?_⟩) (by assumption) ?_
            rotate_left
            · rintro w ⟨⟨s0, s1, s2⟩, s3, s4, s5⟩; (try dsimp only); go_simp; first | done | with_reducible rfl
            try simp only [Act.put, List.setIfInBounds_toArray, List.set_cons_zero, List.set_cons_succ]
            refine wpAnyH_take (i := 16) (oi := ({ dst := some 32, op := Op.load 3 (Operand.tmp 31), type := 3, pos := "session.go:82", after := #[{ on := 15, ground := Ground.data }, { on := 13, ground := Ground.guard }], guard := some (13, false) } : Oper)) (v := ?_) rfl (by kernel_rfl) (by kernel_rfl) (by kernel_rfl) (fun _ _ _ h => h) (Or.inl ⟨by rfl, ?_⟩) (by assumption) ?_
            rotate_left
            · rintro w ⟨⟨s0, s1, s2⟩, s3, s4, s5⟩; (try dsimp only); go_simp; first | done | with_reducible rfl
            try simp only [Act.put, List.setIfInBounds_toArray, List.set_cons_zero, List.set_cons_succ]
            refine wpAnyH_take (i := 17) (oi := ({ dst := some 33, op := Op.fieldAddr 36 (Operand.tmp 7) 1, type := 0, pos := "session.go:82", after := #[{ on := 13, ground := Ground.guard }], guard := some (13, false) } : Oper)) (v := ?_) rfl (by kernel_rfl) (by kernel_rfl) (by kernel_rfl) (fun _ _ _ h => h) (Or.inl ⟨by rfl, ?_⟩) (by assumption) ?_
            rotate_left
            · rintro w ⟨⟨s0, s1, s2⟩, s3, s4, s5⟩; (try dsimp only); go_simp; first | done | with_reducible rfl
            try simp only [Act.put, List.setIfInBounds_toArray, List.set_cons_zero, List.set_cons_succ]
            refine wpAnyH_take (i := 18) (oi := ({ dst := some 34, op := Op.load 3 (Operand.tmp 33), type := 3, pos := "session.go:82", after := #[{ on := 17, ground := Ground.data }, { on := 13, ground := Ground.guard }], guard := some (13, false) } : Oper)) (v := ?_) rfl (by kernel_rfl) (by kernel_rfl) (by kernel_rfl) (fun _ _ _ h => h) (Or.inl ⟨by rfl, ?_⟩) (by assumption) ?_
            rotate_left
            · rintro w ⟨⟨s0, s1, s2⟩, s3, s4, s5⟩; (try dsimp only); go_simp; first | done | with_reducible rfl
            try simp only [Act.put, List.setIfInBounds_toArray, List.set_cons_zero, List.set_cons_succ]
            refine wpAnyH_take (i := 19) (oi := ({ dst := some 35, op := Op.fieldAddr 36 (Operand.tmp 7) 2, type := 0, pos := "session.go:82", after := #[{ on := 13, ground := Ground.guard }], guard := some (13, false) } : Oper)) (v := ?_) rfl (by kernel_rfl) (by kernel_rfl) (by kernel_rfl) (fun _ _ _ h => h) (Or.inl ⟨by rfl, ?_⟩) (by assumption) ?_
            rotate_left
            · rintro w ⟨⟨s0, s1, s2⟩, s3, s4, s5⟩; (try dsimp only); go_simp; first | done | with_reducible rfl
            try simp only [Act.put, List.setIfInBounds_toArray, List.set_cons_zero, List.set_cons_succ]
            refine wpAnyH_take (i := 20) (oi := ({ dst := some 36, op := Op.load 3 (Operand.tmp 35), type := 3, pos := "session.go:82", after := #[{ on := 19, ground := Ground.data }, { on := 13, ground := Ground.guard }], guard := some (13, false) } : Oper)) (v := ?_) rfl (by kernel_rfl) (by kernel_rfl) (by kernel_rfl) (fun _ _ _ h => h) (Or.inl ⟨by rfl, ?_⟩) (by assumption) ?_
            rotate_left
            · rintro w ⟨⟨s0, s1, s2⟩, s3, s4, s5⟩; (try dsimp only); go_simp; first | done | with_reducible rfl
            try simp only [Act.put, List.setIfInBounds_toArray, List.set_cons_zero, List.set_cons_succ]
            refine wpAnyH_ready (rs := [21]) (by kernel_rfl) (by simp) ?_
            refine AllReadyH.cons (o := ({ dst := some 37, op := Op.call { callee := Callee.value (Operand.func 14), args := #[Operand.tmp 30, Operand.tmp 32, Operand.tmp 34, Operand.tmp 36], argTypes := #[26, 3, 3, 3] }, type := 40, pos := "session.go:82", after := #[{ on := 14, ground := Ground.data }, { on := 16, ground := Ground.data }, { on := 18, ground := Ground.data }, { on := 20, ground := Ground.data }, { on := 13, ground := Ground.chain }, { on := 13, ground := Ground.guard }], guard := some (13, false) } : Oper)) rfl (fun K hK => ?_) AllReadyH.nil
            go_simp
            refine (HAD.out (wr.alloc (.cells #[.int .i64 x.client, .int .i64 x.span, .int .i64 x.seen] 36)).drew (HB1.out.trans ((below_drewN (Below.refl _ _) 1).mono HB1.out.size))).mono ?_
            rintro e w6 hd6
            have HD6 := Lib.hid hd6
            obtain ⟨rfl, F2, hT2, hF2, hC2⟩ := hd6
            have HC6 := Lib.hid (((Chg.refl F1 (wr.alloc (.cells #[.int .i64 x.client, .int .i64 x.span, .int .i64 x.seen] 36))).drewN 1).same hC2)
            clear hT2 hF2 hC2
            go_wp2_with fail
            refine hK.out _ _ (HST.out _ HC6.out) (fun hHeld => ?_)
            clear hK K
            try simp only [Act.put, List.setIfInBounds_toArray, List.set_cons_zero, List.set_cons_succ]
            refine wpAnyH_take (i := 22) (oi := ({ dst := some 38, op := Op.binOp BinOp.neq 40 (Operand.tmp 37) (Operand.const (Value.int IntKind.i64 0)) 40, type := 4, pos := "session.go:82", after := #[{ on := 21, ground := Ground.data }, { on := 13, ground := Ground.guard }], guard := some (13, false) } : Oper)) (v := ?_) rfl (by kernel_rfl) (by kernel_rfl) (by kernel_rfl) (fun _ _ _ h => h) (Or.inl ⟨by rfl, ?_⟩) (by assumption) ?_
            rotate_left
            · rintro w ⟨⟨s0, s1, s2⟩, s3, s4, s5⟩; (try dsimp only); go_simp; first | done | with_reducible rfl
            try simp only [Act.put, List.setIfInBounds_toArray, List.set_cons_zero, List.set_cons_succ]
            refine wpAnyH_take (i := 23) (oi := ({ dst := some 39, op := Op.pick (Operand.tmp 29) (Operand.const (Value.bool true)) (Operand.tmp 38), type := 4, pos := "session.go:82", after := #[{ on := 13, ground := Ground.data }, { on := 22, ground := Ground.data }], guard := none } : Oper)) (v := ?_) rfl (by kernel_rfl) (by kernel_rfl) (by kernel_rfl) (fun _ _ _ h => h) (Or.inl ⟨by rfl, ?_⟩) (by assumption) ?_
            rotate_left
            · rintro w ⟨⟨s0, s1, s2⟩, s3, s4, s5⟩; (try dsimp only); go_simp; first | done | with_reducible rfl
            try simp only [Act.put, List.setIfInBounds_toArray, List.set_cons_zero, List.set_cons_succ]
            refine wpAnyH_done (by kernel_rfl) ?_ _
            go_wp2_with fail
            go_ret
            exact load_no2E HT.out HNO.out HLD.out (HB1.out.trans (below_drewN (Below.refl _ _) 1 |>.mono HB1.out.size)) HD6.out
        · have HNO := Lib.hid (sload_bad (hj ▸ hx) hy hyx)
          have hc1 : decide (x.client ≤ y.client) = true := decide_eq_true (by unfold seLt at hyx; omega)
          clear hld hx hkx hlt hk hbw hal hal0 hb1 hk0 hj hjx hy f0 f1 f2 hyx HOKN
          go_wp2_with fail
          refine wp_region_held_drew (S := fun X => BoxE wr.heap.size x X ∧ RowE a j y X) (by kernel_rfl) (HST.out _ ((Chg.refl F1 (wr.alloc (.cells #[.int .i64 x.client, .int .i64 x.span, .int .i64 x.seen] 36))).drewN 1)) (fun hHeld => ?_)
          refine wpAnyH_take (i := 0) (oi := ({ dst := some 16, op := Op.move (Operand.tmp 6), type := 3, pos := "session.go:82", after := #[], guard := none } : Oper)) (v := ?_) rfl (by kernel_rfl) (by kernel_rfl) (by kernel_rfl) (fun _ _ _ h => h) (Or.inl ⟨by rfl, ?_⟩) (by assumption) ?_
          rotate_left
          · rintro w ⟨⟨s0, s1, s2⟩, s3, s4, s5⟩; (try dsimp only); go_simp; first | done | with_reducible rfl
          try simp only [Act.put, List.setIfInBounds_toArray, List.set_cons_zero, List.set_cons_succ]
          refine wpAnyH_take (i := 1) (oi := ({ dst := some 17, op := Op.binOp BinOp.gtr 3 (Operand.tmp 16) (Operand.const (Value.int IntKind.i64 0)) 3, type := 4, pos := "session.go:82", after := #[{ on := 0, ground := Ground.data }], guard := none } : Oper)) (v := ?_) rfl (by kernel_rfl) (by kernel_rfl) (by kernel_rfl) (fun _ _ _ h => h) (Or.inl ⟨by rfl, ?_⟩) (by assumption) ?_
          rotate_left
          · rintro w ⟨⟨s0, s1, s2⟩, s3, s4, s5⟩; (try dsimp only); go_simp; first | done | with_reducible rfl
          try simp only [Act.put, List.setIfInBounds_toArray, List.set_cons_zero, List.set_cons_succ]
          refine wpAnyH_take (i := 2) (oi := ({ dst := some 18, op := Op.move (Operand.tmp 17), type := 4, pos := "session.go:82", after := #[{ on := 1, ground := Ground.data }], guard := none } : Oper)) (v := ?_) rfl (by kernel_rfl) (by kernel_rfl) (by kernel_rfl) (fun _ _ _ h => h) (Or.inl ⟨by rfl, ?_⟩) (by assumption) ?_
          rotate_left
          · rintro w ⟨⟨s0, s1, s2⟩, s3, s4, s5⟩; (try dsimp only); go_simp; first | done | with_reducible rfl
          try simp only [Act.put, List.setIfInBounds_toArray, List.set_cons_zero, List.set_cons_succ]
          refine wpAnyH_take (i := 3) (oi := ({ dst := some 19, op := Op.fieldAddr 36 (Operand.tmp 7) 0, type := 0, pos := "session.go:82", after := #[{ on := 2, ground := Ground.guard }], guard := some (2, true) } : Oper)) (v := ?_) rfl (by kernel_rfl) (by kernel_rfl) (by kernel_rfl) (fun _ _ _ h => h) (Or.inl ⟨by rfl, ?_⟩) (by assumption) ?_
          rotate_left
          · rintro w ⟨⟨s0, s1, s2⟩, s3, s4, s5⟩; (try dsimp only); go_simp; first | done | with_reducible rfl
          try simp only [Act.put, List.setIfInBounds_toArray, List.set_cons_zero, List.set_cons_succ]
          refine wpAnyH_take (i := 4) (oi := ({ dst := some 20, op := Op.load 3 (Operand.tmp 19), type := 3, pos := "session.go:82", after := #[{ on := 3, ground := Ground.data }, { on := 2, ground := Ground.guard }], guard := some (2, true) } : Oper)) (v := ?_) rfl (by kernel_rfl) (by kernel_rfl) (by kernel_rfl) (fun _ _ _ h => h) (Or.inl ⟨by rfl, ?_⟩) (by assumption) ?_
          rotate_left
          · rintro w ⟨⟨s0, s1, s2⟩, s3, s4, s5⟩; (try dsimp only); go_simp; first | done | with_reducible rfl
          try simp only [Act.put, List.setIfInBounds_toArray, List.set_cons_zero, List.set_cons_succ]
          refine wpAnyH_take (i := 5) (oi := ({ dst := some 21, op := Op.move (Operand.tmp 1), type := 23, pos := "session.go:82", after := #[{ on := 2, ground := Ground.guard }], guard := some (2, true) } : Oper)) (v := ?_) rfl (by kernel_rfl) (by kernel_rfl) (by kernel_rfl) (fun _ _ _ h => h) (Or.inl ⟨by rfl, ?_⟩) (by assumption) ?_
          rotate_left
          · rintro w ⟨⟨s0, s1, s2⟩, s3, s4, s5⟩; (try dsimp only); go_simp; first | done | with_reducible rfl
          try simp only [Act.put, List.setIfInBounds_toArray, List.set_cons_zero, List.set_cons_succ]
          refine wpAnyH_take (i := 6) (oi := ({ dst := some 22, op := Op.move (Operand.tmp 6), type := 3, pos := "session.go:82", after := #[{ on := 2, ground := Ground.guard }], guard := some (2, true) } : Oper)) (v := ?_) rfl (by kernel_rfl) (by kernel_rfl) (by kernel_rfl) (fun _ _ _ h => h) (Or.inl ⟨by rfl, ?_⟩) (by assumption) ?_
          rotate_left
          · rintro w ⟨⟨s0, s1, s2⟩, s3, s4, s5⟩; (try dsimp only); go_simp; first | done | with_reducible rfl
          try simp only [Act.put, List.setIfInBounds_toArray, List.set_cons_zero, List.set_cons_succ]
          refine wpAnyH_take (i := 7) (oi := ({ dst := some 23, op := Op.binOp BinOp.sub 3 (Operand.tmp 22) (Operand.const (Value.int IntKind.i64 1)) 3, type := 3, pos := "session.go:82", after := #[{ on := 6, ground := Ground.data }, { on := 2, ground := Ground.guard }], guard := some (2, true) } : Oper)) (v := ?_) rfl (by kernel_rfl) (by kernel_rfl) (by kernel_rfl) (fun _ _ _ h => h) (Or.inl ⟨by rfl, ?_⟩) (by assumption) ?_
          rotate_left
          · rintro w ⟨⟨s0, s1, s2⟩, s3, s4, s5⟩; (try dsimp only); go_simp; first | done | with_reducible rfl
          try simp only [Act.put, List.setIfInBounds_toArray, List.set_cons_zero, List.set_cons_succ]
          refine wpAnyH_take (i := 8) (oi := ({ dst := some 24, op := Op.indexAddr 23 (Operand.tmp 21) (Operand.tmp 23), type := 0, pos := "session.go:82", after := #[{ on := 5, ground := Ground.data }, { on := 7, ground := Ground.data }, { on := 2, ground := Ground.guard }], guard := some (2, true) } : Oper)) (v := ?_) rfl (by kernel_rfl) (by kernel_rfl) (by kernel_rfl) (fun _ _ _ h => h) (Or.inl ⟨by rfl, ?_⟩) (by assumption) ?_
          rotate_left
          · rintro w ⟨⟨s0, s1, s2⟩, s3, s4, s5⟩; (try dsimp only); go_simp; first | done | with_reducible rfl
          try simp only [Act.put, List.setIfInBounds_toArray, List.set_cons_zero, List.set_cons_succ]
          refine wpAnyH_take (i := 9) (oi := ({ dst := some 25, op := Op.fieldAddr 36 (Operand.tmp 24) 0, type := 0, pos := "session.go:82", after := #[{ on := 8, ground := Ground.data }, { on := 2, ground := Ground.guard }], guard := some (2, true) } : Oper)) (v := ?_) rfl (by kernel_rfl) (by kernel_rfl) (by kernel_rfl) (fun _ _ _ h => h) (Or.inl ⟨by rfl, ?_⟩) (by assumption) ?_
          rotate_left
          · rintro w ⟨⟨s0, s1, s2⟩, s3, s4, s5⟩; (try dsimp only); go_simp; first | done | with_reducible rfl
          try simp only [Act.put, List.setIfInBounds_toArray, List.set_cons_zero, List.set_cons_succ]
          refine wpAnyH_take (i := 10) (oi := ({ dst := some 26, op := Op.load 3 (Operand.tmp 25), type := 3, pos := "session.go:82", after := #[{ on := 9, ground := Ground.data }, { on := 2, ground := Ground.guard }], guard := some (2, true) } : Oper)) (v := ?_) rfl (by kernel_rfl) (by kernel_rfl) (by kernel_rfl) (fun _ _ _ h => h) (Or.inl ⟨by rfl, ?_⟩) (by assumption) ?_
          rotate_left
          · rintro w ⟨⟨s0, s1, s2⟩, s3, s4, s5⟩; (try dsimp only); go_simp; first | done | with_reducible rfl
          try simp only [Act.put, List.setIfInBounds_toArray, List.set_cons_zero, List.set_cons_succ]
          refine wpAnyH_take (i := 11) (oi := ({ dst := some 27, op := Op.binOp BinOp.leq 3 (Operand.tmp 20) (Operand.tmp 26) 3, type := 4, pos := "session.go:82", after := #[{ on := 4, ground := Ground.data }, { on := 10, ground := Ground.data }, { on := 2, ground := Ground.guard }], guard := some (2, true) } : Oper)) (v := ?_) rfl (by kernel_rfl) (by kernel_rfl) (by kernel_rfl) (fun _ _ _ h => h) (Or.inl ⟨by rfl, ?_⟩) (by assumption) ?_
          rotate_left
          · rintro w ⟨⟨s0, s1, s2⟩, s3, s4, s5⟩; (try dsimp only); go_simp; first | done | with_reducible rfl
          try simp only [Act.put, List.setIfInBounds_toArray, List.set_cons_zero, List.set_cons_succ]
          refine wpAnyH_take (i := 12) (oi := ({ dst := some 28, op := Op.pick (Operand.tmp 18) (Operand.tmp 27) (Operand.const (Value.bool false)), type := 4, pos := "session.go:82", after := #[{ on := 2, ground := Ground.data }, { on := 11, ground := Ground.data }], guard := none } : Oper)) (v := ?_) rfl (by kernel_rfl) (by kernel_rfl) (by kernel_rfl) (fun _ _ _ h => h) (Or.inl ⟨by rfl, ?_⟩) (by assumption) ?_
          rotate_left
          · rintro w ⟨⟨s0, s1, s2⟩, s3, s4, s5⟩; (try dsimp only); go_simp; first | done | with_reducible rfl
          try simp only [Act.put, List.setIfInBounds_toArray, List.set_cons_zero, List.set_cons_succ]
          refine wpAnyH_take (i := 13) (oi := ({ dst := some 29, op := Op.move (Operand.tmp 28), type := 4, pos := "session.go:82", after := #[{ on := 12, ground := Ground.data }, { on := 2, ground := Ground.chain }], guard := none } : Oper)) (v := ?_) rfl (by kernel_rfl) (by kernel_rfl) (by kernel_rfl) (fun _ _ _ h => h) (Or.inl ⟨by rfl, ?_⟩) (by assumption) ?_
          rotate_left
          · rintro w ⟨⟨s0, s1, s2⟩, s3, s4, s5⟩; (try dsimp only); go_simp; first | done | with_reducible rfl
          try simp only [Act.put, List.setIfInBounds_toArray, List.set_cons_zero, List.set_cons_succ]
          refine wpAnyH_take (i := 14) (oi := ({ dst := some 30, op := Op.move (Operand.tmp 5), type := 26, pos := "session.go:82", after := #[{ on := 13, ground := Ground.guard }], guard := some (13, false) } : Oper)) (v := undef) rfl (by kernel_rfl) (by kernel_rfl) (by kernel_rfl) (fun _ _ _ h => h) (Or.inr ⟨by rfl, rfl⟩) (by assumption) ?_
          try simp only [Act.put, List.setIfInBounds_toArray, List.set_cons_zero, List.set_cons_succ]
          refine wpAnyH_take (i := 15) (oi := ({ dst := some 31, op := Op.fieldAddr 36 (Operand.tmp 7) 0, type := 0, pos := "session.go:82", after := #[{ on := 13, ground := Ground.guard }], guard := some (13, false) } : Oper)) (v := undef) rfl (by kernel_rfl) (by kernel_rfl) (by kernel_rfl) (fun _ _ _ h => h) (Or.inr ⟨by rfl, rfl⟩) (by assumption) ?_
          try simp only [Act.put, List.setIfInBounds_toArray, List.set_cons_zero, List.set_cons_succ]
          refine wpAnyH_take (i := 16) (oi := ({ dst := some 32, op := Op.load 3 (Operand.tmp 31), type := 3, pos := "session.go:82", after := #[{ on := 15, ground := Ground.data }, { on := 13, ground := Ground.guard }], guard := some (13, false) } : Oper)) (v := undef) rfl (by kernel_rfl) (by kernel_rfl) (by kernel_rfl) (fun _ _ _ h => h) (Or.inr ⟨by rfl, rfl⟩) (by assumption) ?_
          try simp only [Act.put, List.setIfInBounds_toArray, List.set_cons_zero, List.set_cons_succ]
          refine wpAnyH_take (i := 17) (oi := ({ dst := some 33, op := Op.fieldAddr 36 (Operand.tmp 7) 1, type := 0, pos := "session.go:82", after := #[{ on := 13, ground := Ground.guard }], guard := some (13, false) } : Oper)) (v := undef) rfl (by kernel_rfl) (by kernel_rfl) (by kernel_rfl) (fun _ _ _ h => h) (Or.inr ⟨by rfl, rfl⟩) (by assumption) ?_
          try simp only [Act.put, List.setIfInBounds_toArray, List.set_cons_zero, List.set_cons_succ]
          refine wpAnyH_take (i := 18) (oi := ({ dst := some 34, op := Op.load 3 (Operand.tmp 33), type := 3, pos := "session.go:82", after := #[{ on := 17, ground := Ground.data }, { on := 13, ground := Ground.guard }], guard := some (13, false) } : Oper)) (v := undef) rfl (by kernel_rfl) (by kernel_rfl) (by kernel_rfl) (fun _ _ _ h => h) (Or.inr ⟨by rfl, rfl⟩) (by assumption) ?_
          try simp only [Act.put, List.setIfInBounds_toArray, List.set_cons_zero, List.set_cons_succ]
          refine wpAnyH_take (i := 19) (oi := ({ dst := some 35, op := Op.fieldAddr 36 (Operand.tmp 7) 2, type := 0, pos := "session.go:82", after := #[{ on := 13, ground := Ground.guard }], guard := some (13, false) } : Oper)) (v := undef) rfl (by kernel_rfl) (by kernel_rfl) (by kernel_rfl) (fun _ _ _ h => h) (Or.inr ⟨by rfl, rfl⟩) (by assumption) ?_
          try simp only [Act.put, List.setIfInBounds_toArray, List.set_cons_zero, List.set_cons_succ]
          refine wpAnyH_take (i := 20) (oi := ({ dst := some 36, op := Op.load 3 (Operand.tmp 35), type := 3, pos := "session.go:82", after := #[{ on := 19, ground := Ground.data }, { on := 13, ground := Ground.guard }], guard := some (13, false) } : Oper)) (v := undef) rfl (by kernel_rfl) (by kernel_rfl) (by kernel_rfl) (fun _ _ _ h => h) (Or.inr ⟨by rfl, rfl⟩) (by assumption) ?_
          try simp only [Act.put, List.setIfInBounds_toArray, List.set_cons_zero, List.set_cons_succ]
          refine wpAnyH_take (i := 21) (oi := ({ dst := some 37, op := Op.call { callee := Callee.value (Operand.func 14), args := #[Operand.tmp 30, Operand.tmp 32, Operand.tmp 34, Operand.tmp 36], argTypes := #[26, 3, 3, 3] }, type := 40, pos := "session.go:82", after := #[{ on := 14, ground := Ground.data }, { on := 16, ground := Ground.data }, { on := 18, ground := Ground.data }, { on := 20, ground := Ground.data }, { on := 13, ground := Ground.chain }, { on := 13, ground := Ground.guard }], guard := some (13, false) } : Oper)) (v := undef) rfl (by kernel_rfl) (by kernel_rfl) (by kernel_rfl) (fun _ _ _ h => h) (Or.inr ⟨by rfl, rfl⟩) (by assumption) ?_
          try simp only [Act.put, List.setIfInBounds_toArray, List.set_cons_zero, List.set_cons_succ]
          refine wpAnyH_take (i := 22) (oi := ({ dst := some 38, op := Op.binOp BinOp.neq 40 (Operand.tmp 37) (Operand.const (Value.int IntKind.i64 0)) 40, type := 4, pos := "session.go:82", after := #[{ on := 21, ground := Ground.data }, { on := 13, ground := Ground.guard }], guard := some (13, false) } : Oper)) (v := undef) rfl (by kernel_rfl) (by kernel_rfl) (by kernel_rfl) (fun _ _ _ h => h) (Or.inr ⟨by rfl, rfl⟩) (by assumption) ?_
          try simp only [Act.put, List.setIfInBounds_toArray, List.set_cons_zero, List.set_cons_succ]
          refine wpAnyH_take (i := 23) (oi := ({ dst := some 39, op := Op.pick (Operand.tmp 29) (Operand.const (Value.bool true)) (Operand.tmp 38), type := 4, pos := "session.go:82", after := #[{ on := 13, ground := Ground.data }, { on := 22, ground := Ground.data }], guard := none } : Oper)) (v := ?_) rfl (by kernel_rfl) (by kernel_rfl) (by kernel_rfl) (fun _ _ _ h => h) (Or.inl ⟨by rfl, ?_⟩) (by assumption) ?_
          rotate_left
          · rintro w ⟨⟨s0, s1, s2⟩, s3, s4, s5⟩; (try dsimp only); go_simp; first | done | with_reducible rfl
          try simp only [Act.put, List.setIfInBounds_toArray, List.set_cons_zero, List.set_cons_succ]
          refine wpAnyH_done (by kernel_rfl) ?_ _
          go_wp2_with fail
          go_ret
          exact load_noE HT.out HNO.out (HLD.out.be.trans ((HB1.out.trans (below_drewN (Below.refl _ _) 1 |>.mono HB1.out.size)).mono HLD.out.be.size))
    · have HKE := Lib.hid (show xs.take k = xs from List.take_of_length_le (by have := HNX.out; omega))
      have htw := HT.out.below hld.be
      rw [HKE.out] at hld
      obtain ⟨b9, hq9, hg9, hf9, hm9⟩ := hld.tb
      have m0 := hq9.at_ (i := 0) rfl
      obtain ⟨b8, hq8, _, _, _⟩ := htw
      have m1 := hq8.at_ (i := 0) rfl
      have z1 := hq8.frozen 0
      have HQ8 := Lib.hid hq8
      have HMF := Lib.hid (show F1 b9 ∧ MpS wr b9 xs from ⟨hf9, hm9⟩)
      have HLD := Lib.hid hld
      clear hld hq8 hq9 hf9 hg9 hm9
      go_wp2_with fail
      go_ret
      exact load_yesE HT.out HLD.out HMF.out HQ8.out
/-- what the laws ask of the program's calls: it is so -/
theorem bookCalls : BookCalls :=
  ⟨newE_any, openE_any, touchE_any, expireE_any, closeE_any, liveE_any, allE_any, fun F g t LA lc xs FX w hT _ hx hl => loadE_any F g t LA lc xs FX w hT hx hl⟩
end Go.Proofs.Ytfbdmemjojjgnaa
