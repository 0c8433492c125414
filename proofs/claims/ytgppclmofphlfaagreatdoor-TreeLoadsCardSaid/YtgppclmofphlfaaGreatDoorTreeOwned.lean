/-
  The nodes of owners told. Walks; no statement.
-/
import Derived.Test.YtgppclmofphlfaaGreatDoorTreeKids2
import Derived.Test.YtgppclmofphlfaaGreatDoorTreeBackw
namespace Go.Proofs.YtgppclmofphlfaaGreatDoor
set_option maxRecDepth 100000
open Go.RowKit Go.Shelf
set_option linter.unusedVariables false
attribute [local go_sem] Oper.semAt_some

/-- the paths of those that owners own, in this order -/
def sel (os : List Int) (xs : List Lf) : List (List UInt8) := (xs.filter fun x => decide (x.own ∈ os)).map (·.path)
theorem sel_snoc (os : List Int) (xs : List Lf) (x : Lf) : sel os (xs ++ [x]) = sel os xs ++ (if x.own ∈ os then [x.path] else []) := by
  unfold sel
  rw [List.filter_append, List.map_append]
  congr 1
  by_cases h : x.own ∈ os <;> simp [h]
theorem exec_lookup {P : Program} {a : Act} {o : Oper} {X : World} {v : Value} (m x : Operand) (t : TypeId) (ho : o.op = .lookup t m x false) (mv kv : Value) (hm : a.eval m = mv) (hx : a.eval x = kv)
    (h : (Instr.lookup t mv kv false).run P X = .ok v X) : (execOp a.eval o).run P X = .ok (.value v) X := by
  unfold execOp
  simp only [ho, hm, hx, Sem.run_bind, h, Result.andThen_ok, Sem.run_pure]
theorem exec_field {P : Program} {a : Act} {o : Oper} {X : World} {v : Value} (m : Operand) (t : TypeId) (k : Nat) (ho : o.op = .field t m k) (mv : Value) (hm : a.eval m = mv)
    (h : (Instr.field t mv k).run P X = .ok v X) : (execOp a.eval o).run P X = .ok (.value v) X := by
  unfold execOp
  simp only [ho, hm, Sem.run_bind, h, Result.andThen_ok, Sem.run_pure]
theorem field_own (x : Lf) (LA : Option Addr) (LC : Nat) (X : World) : (Instr.field 50 (.agg #[.string ⟨x.path.toArray⟩, .slice LA x.data.length LC, .int .i64 x.ver, .int .i64 x.own, .int .i64 x.next, .int .i64 x.born]) 3).run Tryz.prog X = .ok (.int .i64 x.own) X := by kernel_rfl
/-- what a round of Owned reads -/
def SOw (s2 s3 g b : Nat) (OA : Option Addr) (os : List Int) (oc : Nat) (x : Lf) (LA : Option Addr) (LC : Nat) (X : World) : Prop :=
  X.cell? ⟨s3, 0, none⟩ = some (.slice OA os.length oc) ∧ X.cell? ⟨s2, 0, none⟩ = some (.pointer (some ⟨g, 0, none⟩)) ∧ X.cell? ⟨g, 0, none⟩ = some (.map (some b)) ∧
    (Instr.lookup 74 (.map (some b)) (.string ⟨x.path.toArray⟩) false).run Tryz.prog X = .ok (.agg #[.string ⟨x.path.toArray⟩, .slice LA x.data.length LC, .int .i64 x.ver, .int .i64 x.own, .int .i64 x.next, .int .i64 x.born]) X
theorem KpB.bk {n0 B g : Nat} {W W' : World} {T : TypeId} {cs : List Value} (h : KpB n0 B W W') (hb : Bk W g T cs) (hn : ¬ Hold B W g) : Bk W' g T cs := h.same g _ hb rfl hn
/-- another block isn't held by the box, nor by its row -/
theorem hold_off {n0 B g m c : Nat} {W : World} {A : Option Addr} {T : TypeId} {cs : List Value} {ls : List (List UInt8)} (hb : Bk W B 53 [.slice A m c]) (ho : OwnT W n0 A m c ls) (hg : Bk W g T cs) (hT : 9 ≠ T) (hne : g ≠ B) : ¬ Hold B W g := by
  rintro (e | ⟨a, n, c2, hc, ha⟩)
  · exact hne e
  · rw [show W.cell? ⟨B, 0, none⟩ = _ from hb.at_ (i := 0) rfl] at hc
    injection hc with hc
    injection hc with hA
    subst hA
    exact own_ne ho hg hT (by rw [← ha]; rfl)
set_option maxRecDepth 100000 in
set_option maxHeartbeats 8000000 in
theorem owned_any (g : Nat) (t : List Lf) (F : Nat → Prop) (OA : Option Addr) (oc : Nat) (os : List Int) (w : World) (hT : TreeAt F w g t) (ho : Rd w OA os.length (os.map (.int .i64 ·))) (hm : os.length ≤ maxLen) (hn : t.length ≤ 1000) (hp : ∀ l ∈ t, l.path.length ≤ 64) :
    Calls Tryz.prog 29 #[.pointer (some ⟨g, 0, none⟩), .slice OA os.length oc] w (FreshT (tOwned os t) w) := by
  obtain ⟨i0, hi, hz0, hz1, hz2⟩ := info_parts info_str
  obtain ⟨W1, hW1⟩ : ∃ W1, W1 = ((w.alloc (.cells #[.pointer (some ⟨g, 0, none⟩)] 26)).alloc (.cells #[.slice OA os.length oc] 23)).alloc (.cells #[.slice none 0 0] 53) := ⟨_, rfl⟩
  have HB1 := Lib.hid (show Below w.heap.size w W1 by rw [hW1]; exact (((Below.refl w.heap.size w).alloc (Nat.le_refl _) _).alloc (by simp) _).alloc (by simp; omega) _)
  have HS1 := Lib.hid (show W1.heap.size = w.heap.size + 3 by rw [hW1]; simp)
  have HC2 := Lib.hid (show Bk W1 w.heap.size 26 [.pointer (some ⟨g, 0, none⟩)] by rw [hW1]; exact ((Bk.new w 26 [.pointer (some ⟨g, 0, none⟩)]).alloc _).alloc _)
  have HC3 := Lib.hid (show Bk W1 (w.heap.size + 1) 23 [.slice OA os.length oc] by
    rw [hW1]
    have := (Bk.new (w.alloc (.cells #[.pointer (some ⟨g, 0, none⟩)] 26)) 23 [.slice OA os.length oc]).alloc (.cells #[.slice none 0 0] 53)
    rw [show (w.alloc (.cells #[.pointer (some ⟨g, 0, none⟩)] 26)).heap.size = w.heap.size + 1 by simp] at this
    exact this)
  have HBX := Lib.hid (show Bk W1 (w.heap.size + 1 + 1) 53 [.slice none 0 0] by
    rw [hW1]
    have := Bk.new ((w.alloc (.cells #[.pointer (some ⟨g, 0, none⟩)] 26)).alloc (.cells #[.slice OA os.length oc] 23)) 53 [.slice none 0 0]
    rw [show ((w.alloc (.cells #[.pointer (some ⟨g, 0, none⟩)] 26)).alloc (.cells #[.slice OA os.length oc] 23)).heap.size = w.heap.size + 2 by simp] at this
    exact this)
  have HPT := Lib.hid (paths_any g t F W1 (hT.below HB1.out) hn)
  have HT := Lib.hid hT
  have HO := Lib.hid ho
  have HWE := Lib.hid hW1
  have HPL := Lib.hid hp
  have hgl := hT.lt
  clear hT ho hW1 hp
  have j2 : W1.cell? ⟨w.heap.size, 0, none⟩ = some (.pointer (some ⟨g, 0, none⟩)) := HC2.out.at_ rfl
  refine (callsIn_wide (n := 6)).1 ?_
  refine callsIn_of_wp_marks Tryz.func29 rfl trivial ?_ rfl
  simp only [Tryz.ntmps29, List.size_toArray, List.length_cons, List.length_nil, Nat.reduceAdd, Nat.reduceSub, Array.replicate_succ, Array.replicate_zero, List.push_toArray, List.append_toArray, List.nil_append, List.cons_append]
  gi_wp2_with fail
  rw [← HWE.out]
  refine ⟨trivial, (callsIn_wide.2 HPT.out).mono ?_⟩
  rintro e w2 ⟨PA, pc, rfl, hop, hb2⟩
  have HB2 := Lib.hid hb2
  have HRP := Lib.hid hop.rd
  have HPB := Lib.hid (fun a (e : PA = some a) (h : 0 < t.length) => show W1.heap.size ≤ a.block by
    obtain ⟨h3, h4⟩ := hop
    rcases h4 with ⟨e1, _⟩ | ⟨g', cap, cur, e1, hg, _⟩
    · injection e1 with e1 e2; omega
    · injection e1 with e1; rw [e] at e1; obtain rfl := Option.some.inj e1; exact hg)
  have HK := Lib.hid (backward_any PA t.length pc w2)
  clear hb2 hop j2
  gi_wp2_with fail
  refine ⟨trivial, (callsIn_wide.2 HK.out).mono ?_⟩
  rintro e w4 ⟨rfl, hw4⟩
  have HB4 := Lib.hid (show Below w2.heap.size w2 w4 by rw [hw4]; exact (Below.refl _ w2).alloc (Nat.le_refl _) _)
  have HS4 := Lib.hid (show w4.heap.size = w2.heap.size + 1 by rw [hw4]; simp)
  have HC1 := Lib.hid (show w4.cell? ⟨w2.heap.size, 0, none⟩ = some (.slice PA t.length pc) by rw [hw4]; exact (Bk.new w2 53 [.slice PA t.length pc]).at_ rfl)
  have HBX4 := Lib.hid ((HBX.out.kept HB2.out).kept HB4.out)
  have HB14 := Lib.hid (HB2.out.trans (HB4.out.mono HB2.out.size))
  have HBW4 := Lib.hid (HB1.out.trans (HB14.out.mono HB1.out.size))
  clear hw4
  gi_wp2_with fail
  have s1 := HS1.out
  have s2 := HB2.out.size
  have s4 := HS4.out
  refine wpIn_rangeFunc_ownG rfl (by omega) (gf := 71) (lb := #[.pointer (some ⟨w2.heap.size, 0, none⟩)]) rfl trivial (enters_of Tryz.func71 (by kernel_rfl) rfl)
    (back_stops _ w.heap.size (w.heap.size + 1 + 1) w2.heap.size PA pc t w4 HC1.out (HRP.out.below HB4.out) hn (by
      rintro k (rfl | ⟨a, n, c2, hc, _⟩)
      · rfl
      · rw [show w4.cell? _ = _ from HBX4.out.at_ (i := 0) rfl] at hc; cases hc) (by omega) (by omega) (fun a e h => by have := HPB.out a e h; omega)) kpB_t (kpB_b (by omega) (by omega)) (Below.refl _ _) (fun _ => rfl)
    (fun pre W => ((∃ A m c, Bk W (w.heap.size + 1 + 1) 53 [.slice A m c] ∧ OwnT W w.heap.size A m c (sel os (pre.map (·.1.2))) ∧ m ≤ pre.length) ∧ Bk W w.heap.size 26 [.pointer (some ⟨g, 0, none⟩)] ∧ Bk W (w.heap.size + 1) 23 [.slice OA os.length oc]) ∧ Below w.heap.size w W)
    (fun _ _ _ => False)
    ?hI (fun _ _ _ _ _ hs _ _ => hs) ?h0 ?a1 ?assign ?body ?done ?stop
  case hI =>
    refine OwnFrom.and (Own.from (fun s X Y row hs hg hr => ?_) _) (ownFrom_below (Nat.le_refl _) (by omega))
    obtain ⟨⟨A, m, c, h1, h2, h3⟩, h4, h5⟩ := hs
    have hne : ∀ k, row = some k → ∃ o : Obj, X.heap[k]? = some o ∧ o.isCells = false := fun k e => hr k e
    refine ⟨⟨A, m, c, h1.grown hg (fun e => ?_), World.ownsRow.kept h2 hg ?_, h3⟩, h4.grown hg (fun e => ?_), h5.grown hg (fun e => ?_)⟩
    · obtain ⟨o, ho, hc⟩ := hne _ e.symm
      rw [show X.heap[w.heap.size + 1 + 1]? = _ from h1] at ho
      cases ho; cases hc
    · rcases h2.2 with ⟨e1, _⟩ | ⟨g', cap, cur, e1, _, hgb, _⟩
      · left; rw [e1]; rfl
      · right
        intro e
        rw [e1] at e
        obtain ⟨o, ho, hc⟩ := hne g' e.symm
        rw [hgb] at ho
        cases ho; cases hc
    · obtain ⟨o, ho, hc⟩ := hne _ e.symm
      rw [show X.heap[w.heap.size]? = _ from h4] at ho
      cases ho; cases hc
    · obtain ⟨o, ho, hc⟩ := hne _ e.symm
      rw [show X.heap[w.heap.size + 1]? = _ from h5] at ho
      cases ho; cases hc
  case h0 => exact ⟨⟨⟨none, 0, 0, HBX4.out, OwnT.nil_ _ _, Nat.le_refl _⟩, HC2.out.below HB14.out (by omega), HC3.out.below HB14.out (by omega)⟩, HBW4.out⟩
  case a1 => exact fun x => { tmps := #[.pointer (some ⟨g, 0, none⟩), .slice OA os.length oc, .pointer (some ⟨w.heap.size, 0, none⟩), .pointer (some ⟨w.heap.size + 1, 0, none⟩), .slice none 0 0, .pointer (some ⟨w.heap.size + 1 + 1, 0, none⟩), undef, .string ⟨x.1.2.path.toArray⟩, .pointer (some ⟨g, 0, none⟩), .slice PA t.length pc, .func (.func 71) #[] #[.pointer (some ⟨w2.heap.size, 0, none⟩)], .int .i64 (x.1.1 : Int), .string ⟨x.1.2.path.toArray⟩, undef, undef, undef, undef, undef, undef, undef, undef, undef, undef, undef, undef, undef, undef, undef], defers := [] }
  case assign =>
    intro l x W K hK
    clear s1 s2 s4
    gi_wp2
    exact hK
  case body =>
    rintro lr pre x W0 ⟨⟨⟨A, m, c, hbx0, hop, hml⟩, h2, h3⟩, hib⟩ hlt
    have hT0 := HT.out.below hib
    have hsr := hT0.srt
    obtain ⟨b, hkg, hFg, hFb, hmp⟩ := hT0
    obtain ⟨k, hk9, hkx⟩ := List.getElem_of_mem x.2
    have hk := hkx ▸ List.getElem?_eq_getElem hk9
    obtain ⟨LA, LC, hbf, hrun⟩ := (show MpAt F W0.drew b t from hmp).look_yes false (tAt_of hsr hk) hk (by have := HPL.out _ x.2; simp only [maxLen]; omega)
    have g0 : W0.cell? ⟨g, 0, none⟩ = some (.map (some b)) := hkg.at_ rfl
    have HSW := Lib.hid (show SOw (w.heap.size) (w.heap.size + 1) g b OA os oc x.1.2 LA LC W0.drew from ⟨h3.at_ rfl, h2.at_ rfl, g0, hrun⟩)
    have HCT0 := Lib.hid (contains_any OA oc os x.1.2.own W0.drew (show Rd W0.drew OA os.length _ from (show Rd W0 OA os.length _ from HO.out.below hib)) hm)
    have HSN0 := Lib.hid (sel_snoc os (pre.map (·.1.2)) x.1.2)
    have hbl := hbx0.lt
    have HKO := Lib.hid (show KeepsOthers W0 W0.drew from KeepsOthers.drew W0)
    have HKD := Lib.hid (show KpB w.heap.size (w.heap.size + 1 + 1) W0 W0.drew from KpB.of_below (below_drewN (Below.refl W0.heap.size W0) 1) hbl hib.size)
    have HBX0 := Lib.hid (show Bk W0.drew (w.heap.size + 1 + 1) 53 [.slice A m c] from hbx0)
    have HOP0 := Lib.hid (show OwnT W0.drew w.heap.size A m c (sel os (pre.map (·.1.2))) from hop)
    have HIB := Lib.hid hib
    have HH2 := Lib.hid (show Bk W0.drew w.heap.size 26 [.pointer (some ⟨g, 0, none⟩)] from h2)
    have HH3 := Lib.hid (show Bk W0.drew (w.heap.size + 1) 23 [.slice OA os.length oc] from h3)
    have HML := Lib.hid hml
    have HLT := Lib.hid hlt
    clear hsr hkg hFg hFb hmp hk hk9 hkx hbf hrun g0 hib hbx0 hop h2 h3 s1 s2 s4 hbl hml hlt
    by_cases hin : x.1.2.own ∈ os
    · have HCT := Lib.hid (show Calls _ _ _ _ (fun e w' => e = .returned (.bool true) ∧ w' = W0.drew) by have := HCT0.out; rw [decide_eq_true hin] at this; exact this)
      have HSN := Lib.hid (show sel os (pre.map (·.1.2)) ++ [x.1.2.path] = sel os ((pre ++ [x]).map (·.1.2)) by rw [List.map_append, show [x].map (·.1.2) = [x.1.2] from rfl, HSN0.out, if_pos hin])
      clear HCT0 HSN0 hin
      gi_wp2_with fail
      refine round_region_held (S := SOw (w.heap.size) (w.heap.size + 1) g b OA os oc x.1.2 LA LC) (by kernel_rfl) (by kernel_rfl) (by rintro ⟨a9, w9, h9⟩; exact h9) HSW.out (fun hHeld => ?_)
      refine wpAnyH_take (i := 0) (oi := ({ dst := some 13, op := Op.load 23 (Operand.tmp 3), type := 23, pos := "tree.go:124", after := #[], guard := none } : Oper)) (v := ?_) rfl (by kernel_rfl) (by kernel_rfl) (by kernel_rfl) (fun _ _ _ h => h) (Or.inl ⟨by rfl, ?_⟩) (by assumption) ?_
      rotate_left
      · rintro X ⟨q0, q1, q2, q3⟩; (try dsimp only); go_simp; first | done | with_reducible rfl
      try simp only [Act.put, List.setIfInBounds_toArray, List.set_cons_zero, List.set_cons_succ]
      refine wpAnyH_take (i := 1) (oi := ({ dst := some 14, op := Op.load 26 (Operand.tmp 2), type := 26, pos := "tree.go:124", after := #[], guard := none } : Oper)) (v := ?_) rfl (by kernel_rfl) (by kernel_rfl) (by kernel_rfl) (fun _ _ _ h => h) (Or.inl ⟨by rfl, ?_⟩) (by assumption) ?_
      rotate_left
      · rintro X ⟨q0, q1, q2, q3⟩; (try dsimp only); go_simp; first | done | with_reducible rfl
      try simp only [Act.put, List.setIfInBounds_toArray, List.set_cons_zero, List.set_cons_succ]
      refine wpAnyH_take (i := 2) (oi := ({ dst := some 15, op := Op.nilCheck (Operand.tmp 14), type := 0, pos := "tree.go:124", after := #[{ on := 1, ground := Ground.data }], guard := none } : Oper)) (v := ?_) rfl (by kernel_rfl) (by kernel_rfl) (by kernel_rfl) (fun _ _ _ h => h) (Or.inl ⟨by rfl, ?_⟩) (by assumption) ?_
      rotate_left
      · rintro X ⟨q0, q1, q2, q3⟩; (try dsimp only); go_simp; first | done | with_reducible rfl
      try simp only [Act.put, List.setIfInBounds_toArray, List.set_cons_zero, List.set_cons_succ]
      refine wpAnyH_take (i := 3) (oi := ({ dst := some 16, op := Op.fieldAddr 76 (Operand.tmp 15) 0, type := 0, pos := "tree.go:124", after := #[{ on := 2, ground := Ground.data }], guard := none } : Oper)) (v := ?_) rfl (by kernel_rfl) (by kernel_rfl) (by kernel_rfl) (fun _ _ _ h => h) (Or.inl ⟨by rfl, ?_⟩) (by assumption) ?_
      rotate_left
      · rintro X ⟨q0, q1, q2, q3⟩; (try dsimp only); go_simp; first | done | with_reducible rfl
      try simp only [Act.put, List.setIfInBounds_toArray, List.set_cons_zero, List.set_cons_succ]
      refine wpAnyH_take (i := 4) (oi := ({ dst := some 17, op := Op.load 74 (Operand.tmp 16), type := 74, pos := "tree.go:124", after := #[{ on := 3, ground := Ground.data }], guard := none } : Oper)) (v := ?_) rfl (by kernel_rfl) (by kernel_rfl) (by kernel_rfl) (fun _ _ _ h => h) (Or.inl ⟨by rfl, ?_⟩) (by assumption) ?_
      rotate_left
      · rintro X ⟨q0, q1, q2, q3⟩; (try dsimp only); go_simp; first | done | with_reducible rfl
      try simp only [Act.put, List.setIfInBounds_toArray, List.set_cons_zero, List.set_cons_succ]
      refine wpAnyH_take (i := 5) (oi := ({ dst := some 18, op := Op.move (Operand.tmp 7), type := 9, pos := "tree.go:124", after := #[], guard := none } : Oper)) (v := ?_) rfl (by kernel_rfl) (by kernel_rfl) (by kernel_rfl) (fun _ _ _ h => h) (Or.inl ⟨by rfl, ?_⟩) (by assumption) ?_
      rotate_left
      · rintro X ⟨q0, q1, q2, q3⟩; (try dsimp only); go_simp; first | done | with_reducible rfl
      try simp only [Act.put, List.setIfInBounds_toArray, List.set_cons_zero, List.set_cons_succ]
      refine wpAnyH_take (i := 6) (oi := ({ dst := some 19, op := Op.lookup 74 (Operand.tmp 17) (Operand.tmp 18) false, type := 50, pos := "tree.go:124", after := #[{ on := 4, ground := Ground.data }, { on := 5, ground := Ground.data }], guard := none } : Oper)) (v := .agg #[.string ⟨x.1.2.path.toArray⟩, .slice LA x.1.2.data.length LC, .int .i64 x.1.2.ver, .int .i64 x.1.2.own, .int .i64 x.1.2.next, .int .i64 x.1.2.born]) rfl (by kernel_rfl) (by kernel_rfl) (by kernel_rfl) (fun _ _ _ h => h) (Or.inl ⟨by rfl, ?_⟩) (by assumption) ?_
      · rintro X ⟨q0, q1, q2, q3⟩; exact exec_lookup (.tmp 17) (.tmp 18) 74 rfl (.map (some b)) (.string ⟨x.1.2.path.toArray⟩) (by rfl) (by rfl) q3
      try simp only [Act.put, List.setIfInBounds_toArray, List.set_cons_zero, List.set_cons_succ]
      refine wpAnyH_take (i := 7) (oi := ({ dst := some 20, op := Op.field 50 (Operand.tmp 19) 3, type := 3, pos := "tree.go:124", after := #[{ on := 6, ground := Ground.data }], guard := none } : Oper)) (v := .int .i64 x.1.2.own) rfl (by kernel_rfl) (by kernel_rfl) (by kernel_rfl) (fun _ _ _ h => h) (Or.inl ⟨by rfl, ?_⟩) (by assumption) ?_
      · rintro X -; exact exec_field (.tmp 19) 50 3 rfl (.agg #[.string ⟨x.1.2.path.toArray⟩, .slice LA x.1.2.data.length LC, .int .i64 x.1.2.ver, .int .i64 x.1.2.own, .int .i64 x.1.2.next, .int .i64 x.1.2.born]) (by rfl) (field_own x.1.2 LA LC X)
      try simp only [Act.put, List.setIfInBounds_toArray, List.set_cons_zero, List.set_cons_succ]
      refine wpAnyH_ready (rs := [8]) (by kernel_rfl) (by simp) ?_
      refine AllReadyH.cons (o := ({ dst := some 21, op := Op.call { callee := Callee.value (Operand.func 55), args := #[Operand.tmp 13, Operand.tmp 20], argTypes := #[23, 3] }, type := 4, pos := "tree.go:124", after := #[{ on := 0, ground := Ground.data }, { on := 7, ground := Ground.data }], guard := none } : Oper)) rfl (fun K hK => ?_) AllReadyH.nil
      go_simp
      refine HCT.out.mono ?_
      rintro e w5 ⟨rfl, rfl⟩
      refine hK.out _ _ hHeld (fun _ => ?_)
      clear hK K
      try simp only [Act.put, List.setIfInBounds_toArray, List.set_cons_zero, List.set_cons_succ]
      refine wpAnyH_done (by kernel_rfl) ?_ _
      gi_wp2_with fail
      obtain ⟨W, hW⟩ : ∃ W, W = W0.drew := ⟨_, rfl⟩
      rw [← hW] at HKO HKD HBX0 HOP0 HH2 HH3 ⊢
      obtain ⟨L, hL⟩ : ∃ L, L = sel os (pre.map (·.1.2)) := ⟨_, rfl⟩
      rw [← hL] at HOP0
      have HLL := Lib.hid hL
      have hbx := HBX0.out
      have HBX := Lib.hid hbx
      have HO := Lib.hid HOP0.out
      have HNW := Lib.hid (show w.heap.size ≤ W.heap.size by rw [hW]; exact HIB.out.size)
      have HNB := Lib.hid (show w.heap.size ≤ w.heap.size + 1 + 1 by omega)
      have hpl : m ≤ 1000 := by have := HML.out; have := HLT.out; omega
      have HCL := Lib.hid (fun X => cloneS_any ⟨x.1.2.path.toArray⟩ X (HPL.out _ x.2))
      have jb : W.cell? ⟨w.heap.size + 1 + 1, 0, none⟩ = some (.slice A m c) := hbx.at_ rfl
      have jd : W.drew.cell? ⟨w.heap.size + 1 + 1, 0, none⟩ = some (.slice A m c) := jb
      have HHL := Lib.hid hHeld
      clear hW hL hHeld HSW
      refine round_region_held (S := fun _ => True) (by kernel_rfl) (by kernel_rfl) (by rintro ⟨a9, w9, h9⟩; exact h9) trivial (fun _ => ?_)
      refine wpAnyH_take (i := 1) (oi := ({ dst := some 23, op := Op.move (Operand.tmp 7), type := 9, pos := "tree.go:125", after := #[], guard := none } : Oper)) (v := ?_) rfl (by kernel_rfl) (by kernel_rfl) (by kernel_rfl) (fun _ _ _ h => h) (Or.inl ⟨by rfl, ?_⟩) trivial ?_
      rotate_left
      · intro w hSw; go_simp; first | done | with_reducible rfl
      try simp only [Act.put, List.setIfInBounds_toArray, List.set_cons_zero, List.set_cons_succ]
      refine wpAnyH_ready (rs := [0, 2]) (by kernel_rfl) (by simp) ?_
      refine AllReadyH.cons (o := ({ dst := some 22, op := Op.load 53 (Operand.tmp 5), type := 53, pos := "tree.go:125", after := #[], guard := none } : Oper)) rfl (fun K hK => ?_) (AllReadyH.cons (o := ({ dst := some 24, op := Op.call { callee := Callee.value (Operand.func 42), args := #[Operand.tmp 23], argTypes := #[9] }, type := 9, pos := "tree.go:125", after := #[{ on := 1, ground := Ground.data }], guard := none } : Oper)) rfl (fun K hK => ?_) AllReadyH.nil)
      · go_simp
        refine hK.out _ _ trivial (fun _ => ?_)
        clear hK K
        try simp only [Act.put, List.setIfInBounds_toArray, List.set_cons_zero, List.set_cons_succ]
        refine wpAnyH_ready (rs := [2]) (by kernel_rfl) (by simp) ?_
        refine AllReadyH.cons (o := ({ dst := some 24, op := Op.call { callee := Callee.value (Operand.func 42), args := #[Operand.tmp 23], argTypes := #[9] }, type := 9, pos := "tree.go:125", after := #[{ on := 1, ground := Ground.data }], guard := none } : Oper)) rfl (fun K hK => ?_) AllReadyH.nil
        go_simp
        refine (HCL.out _).mono ?_
        rintro e w5 ⟨rfl, hb5⟩
        have H5 := Lib.hid (show Below W.heap.size W w5 from ⟨hb5.os, hb5.tape, hb5.output, hb5.size, hb5.block⟩)
        have j5 : w5.cell? ⟨w.heap.size + 1 + 1, 0, none⟩ = some (.slice A m c) := (hbx.kept H5.out).at_ rfl
        clear hb5
        refine hK.out _ _ trivial (fun _ => ?_)
        clear hK K
        try simp only [Act.put, List.setIfInBounds_toArray, List.set_cons_zero, List.set_cons_succ]
        refine wpAnyH_ready (rs := [3]) (by kernel_rfl) (by simp) ?_
        refine AllReadyH.cons (o := ({ dst := some 25, op := Op.buildSlice 53 1 #[(0, Operand.tmp 24)], type := 53, pos := "tree.go:125", after := #[{ on := 2, ground := Ground.data }], guard := none } : Oper)) rfl (fun K hK => ?_) AllReadyH.nil
        go_simp
        refine hK.out _ _ trivial (fun _ => ?_)
        clear hK K
        try simp only [Act.put, List.setIfInBounds_toArray, List.set_cons_zero, List.set_cons_succ]
        refine wpAnyH_ready (rs := [4]) (by kernel_rfl) (by simp) ?_
        refine AllReadyH.cons (o := ({ dst := some 26, op := Op.call { callee := Callee.builtin Builtin.append, args := #[Operand.tmp 22, Operand.tmp 25], argTypes := #[53, 53] }, type := 53, pos := "tree.go:125", after := #[{ on := 0, ground := Ground.data }, { on := 3, ground := Ground.data }, { on := 2, ground := Ground.chain }], guard := none } : Oper)) rfl (fun K hK => ?_) AllReadyH.nil
        refine step_append_row rfl (.tmp 22) (.tmp 25) 53 rfl w.heap.size 9 i0 (.string ByteArray.empty) 1 16 Tryz.underlying53 hi hz0 hz1 hz2 rfl (by decide) A m c (L.map sv) rfl ((HO.out.below H5.out).below ((Below.refl _ _).alloc (Nat.le_refl _) _)) ⟨w5.heap.size, 0, none⟩ 1 1 [sv x.1.2.path] rfl rfl (cell_one_new _ _ _) (by simp [Value.oneCell']) (by simp only [maxLen]; omega) (by omega) (by have := H5.out.size; have := HNW.out; simp; omega) (by omega) ?_
        intro A' c' w6 ho6 hg6 hr6
        have HPU := Lib.hid (pushed (n0 := w.heap.size) HNW.out HNB.out HBX.out HO.out H5.out hg6.out ho6.out hr6.out)
        have f6 : w6.frozen? ⟨w.heap.size + 1 + 1, 0, none⟩ = false := (pushed_box HBX.out HO.out H5.out hg6.out).frozen 0
        have j7 : w6.cell? ⟨w.heap.size + 1 + 1, 0, none⟩ = some (.slice A m c) := (pushed_box HBX.out HO.out H5.out hg6.out).at_ rfl
        refine hK.out _ _ trivial (fun _ => ?_)
        clear hK K
        try simp only [Act.put, List.setIfInBounds_toArray, List.set_cons_zero, List.set_cons_succ]
        refine wpAnyH_ready (rs := [5]) (by kernel_rfl) (by simp) ?_
        refine AllReadyH.cons (o := ({ dst := none, op := Op.store 53 (Operand.tmp 5) (Operand.tmp 26), type := 0, pos := "tree.go:125", after := #[{ on := 4, ground := Ground.data }, { on := 4, ground := Ground.chain }, { on := 0, ground := Ground.phase }, { on := 1, ground := Ground.phase }, { on := 2, ground := Ground.phase }, { on := 3, ground := Ground.phase }, { on := 4, ground := Ground.phase }], guard := none } : Oper)) rfl (fun K hK => ?_) AllReadyH.nil
        go_simp
        refine hK.out _ _ trivial (fun _ => ?_)
        clear hK K
        try simp only [Act.put, List.setIfInBounds_toArray, List.set_cons_zero, List.set_cons_succ]
        refine wpAnyH_done (by kernel_rfl) ?_ _
        try simp only [Exit.inBlock]
        refine ⟨(HKO.out.trans HPU.out.kept).from _, HKD.out.trans HPU.out.kp, ⟨⟨A', m + 1, c', HPU.out.box, by have := HPU.out.own; rw [HLL.out, HSN.out] at this; exact this, by have := HML.out; simp; omega⟩, ?hk2, ?hk3⟩, HIB.out.trans (HKD.out.be.trans HPU.out.kp.be)⟩
        case hk2 => exact HPU.out.kp.bk HH2.out (hold_off HBX.out HO.out HH2.out (by decide) (by omega))
        case hk3 => exact HPU.out.kp.bk HH3.out (hold_off HBX.out HO.out HH3.out (by decide) (by omega))
      · go_simp
        refine (HCL.out _).mono ?_
        rintro e w5 ⟨rfl, hb5⟩
        have H5 := Lib.hid (show Below W.heap.size W w5 from ⟨hb5.os, hb5.tape, hb5.output, hb5.size, hb5.block⟩)
        have j5 : w5.cell? ⟨w.heap.size + 1 + 1, 0, none⟩ = some (.slice A m c) := (hbx.kept H5.out).at_ rfl
        clear hb5
        refine hK.out _ _ trivial (fun _ => ?_)
        clear hK K
        try simp only [Act.put, List.setIfInBounds_toArray, List.set_cons_zero, List.set_cons_succ]
        refine wpAnyH_ready (rs := [0, 3]) (by kernel_rfl) (by simp) ?_
        refine AllReadyH.cons (o := ({ dst := some 22, op := Op.load 53 (Operand.tmp 5), type := 53, pos := "tree.go:125", after := #[], guard := none } : Oper)) rfl (fun K hK => ?_) (AllReadyH.cons (o := ({ dst := some 25, op := Op.buildSlice 53 1 #[(0, Operand.tmp 24)], type := 53, pos := "tree.go:125", after := #[{ on := 2, ground := Ground.data }], guard := none } : Oper)) rfl (fun K hK => ?_) AllReadyH.nil)
        · go_simp
          refine hK.out _ _ trivial (fun _ => ?_)
          clear hK K
          try simp only [Act.put, List.setIfInBounds_toArray, List.set_cons_zero, List.set_cons_succ]
          refine wpAnyH_ready (rs := [3]) (by kernel_rfl) (by simp) ?_
          refine AllReadyH.cons (o := ({ dst := some 25, op := Op.buildSlice 53 1 #[(0, Operand.tmp 24)], type := 53, pos := "tree.go:125", after := #[{ on := 2, ground := Ground.data }], guard := none } : Oper)) rfl (fun K hK => ?_) AllReadyH.nil
          go_simp
          refine hK.out _ _ trivial (fun _ => ?_)
          clear hK K
          try simp only [Act.put, List.setIfInBounds_toArray, List.set_cons_zero, List.set_cons_succ]
          refine wpAnyH_ready (rs := [4]) (by kernel_rfl) (by simp) ?_
          refine AllReadyH.cons (o := ({ dst := some 26, op := Op.call { callee := Callee.builtin Builtin.append, args := #[Operand.tmp 22, Operand.tmp 25], argTypes := #[53, 53] }, type := 53, pos := "tree.go:125", after := #[{ on := 0, ground := Ground.data }, { on := 3, ground := Ground.data }, { on := 2, ground := Ground.chain }], guard := none } : Oper)) rfl (fun K hK => ?_) AllReadyH.nil
          refine step_append_row rfl (.tmp 22) (.tmp 25) 53 rfl w.heap.size 9 i0 (.string ByteArray.empty) 1 16 Tryz.underlying53 hi hz0 hz1 hz2 rfl (by decide) A m c (L.map sv) rfl ((HO.out.below H5.out).below ((Below.refl _ _).alloc (Nat.le_refl _) _)) ⟨w5.heap.size, 0, none⟩ 1 1 [sv x.1.2.path] rfl rfl (cell_one_new _ _ _) (by simp [Value.oneCell']) (by simp only [maxLen]; omega) (by omega) (by have := H5.out.size; have := HNW.out; simp; omega) (by omega) ?_
          intro A' c' w6 ho6 hg6 hr6
          have HPU := Lib.hid (pushed (n0 := w.heap.size) HNW.out HNB.out HBX.out HO.out H5.out hg6.out ho6.out hr6.out)
          have f6 : w6.frozen? ⟨w.heap.size + 1 + 1, 0, none⟩ = false := (pushed_box HBX.out HO.out H5.out hg6.out).frozen 0
          have j7 : w6.cell? ⟨w.heap.size + 1 + 1, 0, none⟩ = some (.slice A m c) := (pushed_box HBX.out HO.out H5.out hg6.out).at_ rfl
          refine hK.out _ _ trivial (fun _ => ?_)
          clear hK K
          try simp only [Act.put, List.setIfInBounds_toArray, List.set_cons_zero, List.set_cons_succ]
          refine wpAnyH_ready (rs := [5]) (by kernel_rfl) (by simp) ?_
          refine AllReadyH.cons (o := ({ dst := none, op := Op.store 53 (Operand.tmp 5) (Operand.tmp 26), type := 0, pos := "tree.go:125", after := #[{ on := 4, ground := Ground.data }, { on := 4, ground := Ground.chain }, { on := 0, ground := Ground.phase }, { on := 1, ground := Ground.phase }, { on := 2, ground := Ground.phase }, { on := 3, ground := Ground.phase }, { on := 4, ground := Ground.phase }], guard := none } : Oper)) rfl (fun K hK => ?_) AllReadyH.nil
          go_simp
          refine hK.out _ _ trivial (fun _ => ?_)
          clear hK K
          try simp only [Act.put, List.setIfInBounds_toArray, List.set_cons_zero, List.set_cons_succ]
          refine wpAnyH_done (by kernel_rfl) ?_ _
          try simp only [Exit.inBlock]
          refine ⟨(HKO.out.trans HPU.out.kept).from _, HKD.out.trans HPU.out.kp, ⟨⟨A', m + 1, c', HPU.out.box, by have := HPU.out.own; rw [HLL.out, HSN.out] at this; exact this, by have := HML.out; simp; omega⟩, ?hk2, ?hk3⟩, HIB.out.trans (HKD.out.be.trans HPU.out.kp.be)⟩
          case hk2 => exact HPU.out.kp.bk HH2.out (hold_off HBX.out HO.out HH2.out (by decide) (by omega))
          case hk3 => exact HPU.out.kp.bk HH3.out (hold_off HBX.out HO.out HH3.out (by decide) (by omega))
        · go_simp
          refine hK.out _ _ trivial (fun _ => ?_)
          clear hK K
          try simp only [Act.put, List.setIfInBounds_toArray, List.set_cons_zero, List.set_cons_succ]
          have j6 : (w5.alloc (.cells #[sv x.1.2.path] 9)).cell? ⟨w.heap.size + 1 + 1, 0, none⟩ = some (.slice A m c) := ((hbx.kept H5.out).alloc _).at_ rfl
          refine wpAnyH_ready (rs := [0]) (by kernel_rfl) (by simp) ?_
          refine AllReadyH.cons (o := ({ dst := some 22, op := Op.load 53 (Operand.tmp 5), type := 53, pos := "tree.go:125", after := #[], guard := none } : Oper)) rfl (fun K hK => ?_) AllReadyH.nil
          go_simp
          refine hK.out _ _ trivial (fun _ => ?_)
          clear hK K
          try simp only [Act.put, List.setIfInBounds_toArray, List.set_cons_zero, List.set_cons_succ]
          refine wpAnyH_ready (rs := [4]) (by kernel_rfl) (by simp) ?_
          refine AllReadyH.cons (o := ({ dst := some 26, op := Op.call { callee := Callee.builtin Builtin.append, args := #[Operand.tmp 22, Operand.tmp 25], argTypes := #[53, 53] }, type := 53, pos := "tree.go:125", after := #[{ on := 0, ground := Ground.data }, { on := 3, ground := Ground.data }, { on := 2, ground := Ground.chain }], guard := none } : Oper)) rfl (fun K hK => ?_) AllReadyH.nil
          refine step_append_row rfl (.tmp 22) (.tmp 25) 53 rfl w.heap.size 9 i0 (.string ByteArray.empty) 1 16 Tryz.underlying53 hi hz0 hz1 hz2 rfl (by decide) A m c (L.map sv) rfl ((HO.out.below H5.out).below ((Below.refl _ _).alloc (Nat.le_refl _) _)) ⟨w5.heap.size, 0, none⟩ 1 1 [sv x.1.2.path] rfl rfl (cell_one_new _ _ _) (by simp [Value.oneCell']) (by simp only [maxLen]; omega) (by omega) (by have := H5.out.size; have := HNW.out; simp; omega) (by omega) ?_
          intro A' c' w6 ho6 hg6 hr6
          have HPU := Lib.hid (pushed (n0 := w.heap.size) HNW.out HNB.out HBX.out HO.out H5.out hg6.out ho6.out hr6.out)
          have f6 : w6.frozen? ⟨w.heap.size + 1 + 1, 0, none⟩ = false := (pushed_box HBX.out HO.out H5.out hg6.out).frozen 0
          have j7 : w6.cell? ⟨w.heap.size + 1 + 1, 0, none⟩ = some (.slice A m c) := (pushed_box HBX.out HO.out H5.out hg6.out).at_ rfl
          refine hK.out _ _ trivial (fun _ => ?_)
          clear hK K
          try simp only [Act.put, List.setIfInBounds_toArray, List.set_cons_zero, List.set_cons_succ]
          refine wpAnyH_ready (rs := [5]) (by kernel_rfl) (by simp) ?_
          refine AllReadyH.cons (o := ({ dst := none, op := Op.store 53 (Operand.tmp 5) (Operand.tmp 26), type := 0, pos := "tree.go:125", after := #[{ on := 4, ground := Ground.data }, { on := 4, ground := Ground.chain }, { on := 0, ground := Ground.phase }, { on := 1, ground := Ground.phase }, { on := 2, ground := Ground.phase }, { on := 3, ground := Ground.phase }, { on := 4, ground := Ground.phase }], guard := none } : Oper)) rfl (fun K hK => ?_) AllReadyH.nil
          go_simp
          refine hK.out _ _ trivial (fun _ => ?_)
          clear hK K
          try simp only [Act.put, List.setIfInBounds_toArray, List.set_cons_zero, List.set_cons_succ]
          refine wpAnyH_done (by kernel_rfl) ?_ _
          try simp only [Exit.inBlock]
          refine ⟨(HKO.out.trans HPU.out.kept).from _, HKD.out.trans HPU.out.kp, ⟨⟨A', m + 1, c', HPU.out.box, by have := HPU.out.own; rw [HLL.out, HSN.out] at this; exact this, by have := HML.out; simp; omega⟩, ?hk2, ?hk3⟩, HIB.out.trans (HKD.out.be.trans HPU.out.kp.be)⟩
          case hk2 => exact HPU.out.kp.bk HH2.out (hold_off HBX.out HO.out HH2.out (by decide) (by omega))
          case hk3 => exact HPU.out.kp.bk HH3.out (hold_off HBX.out HO.out HH3.out (by decide) (by omega))
    · have HCT := Lib.hid (show Calls _ _ _ _ (fun e w' => e = .returned (.bool false) ∧ w' = W0.drew) by have := HCT0.out; rw [decide_eq_false hin] at this; exact this)
      have HSN := Lib.hid (show sel os (pre.map (·.1.2)) = sel os ((pre ++ [x]).map (·.1.2)) by rw [List.map_append, show [x].map (·.1.2) = [x.1.2] from rfl, HSN0.out, if_neg hin, List.append_nil])
      clear HCT0 HSN0 hin
      gi_wp2_with fail
      refine round_region_held (S := SOw (w.heap.size) (w.heap.size + 1) g b OA os oc x.1.2 LA LC) (by kernel_rfl) (by kernel_rfl) (by rintro ⟨a9, w9, h9⟩; exact h9) HSW.out (fun hHeld => ?_)
      refine wpAnyH_take (i := 0) (oi := ({ dst := some 13, op := Op.load 23 (Operand.tmp 3), type := 23, pos := "tree.go:124", after := #[], guard := none } : Oper)) (v := ?_) rfl (by kernel_rfl) (by kernel_rfl) (by kernel_rfl) (fun _ _ _ h => h) (Or.inl ⟨by rfl, ?_⟩) (by assumption) ?_
      rotate_left
      · rintro X ⟨q0, q1, q2, q3⟩; (try dsimp only); go_simp; first | done | with_reducible rfl
      try simp only [Act.put, List.setIfInBounds_toArray, List.set_cons_zero, List.set_cons_succ]
      refine wpAnyH_take (i := 1) (oi := ({ dst := some 14, op := Op.load 26 (Operand.tmp 2), type := 26, pos := "tree.go:124", after := #[], guard := none } : Oper)) (v := ?_) rfl (by kernel_rfl) (by kernel_rfl) (by kernel_rfl) (fun _ _ _ h => h) (Or.inl ⟨by rfl, ?_⟩) (by assumption) ?_
      rotate_left
      · rintro X ⟨q0, q1, q2, q3⟩; (try dsimp only); go_simp; first | done | with_reducible rfl
      try simp only [Act.put, List.setIfInBounds_toArray, List.set_cons_zero, List.set_cons_succ]
      refine wpAnyH_take (i := 2) (oi := ({ dst := some 15, op := Op.nilCheck (Operand.tmp 14), type := 0, pos := "tree.go:124", after := #[{ on := 1, ground := Ground.data }], guard := none } : Oper)) (v := ?_) rfl (by kernel_rfl) (by kernel_rfl) (by kernel_rfl) (fun _ _ _ h => h) (Or.inl ⟨by rfl, ?_⟩) (by assumption) ?_
      rotate_left
      · rintro X ⟨q0, q1, q2, q3⟩; (try dsimp only); go_simp; first | done | with_reducible rfl
      try simp only [Act.put, List.setIfInBounds_toArray, List.set_cons_zero, List.set_cons_succ]
      refine wpAnyH_take (i := 3) (oi := ({ dst := some 16, op := Op.fieldAddr 76 (Operand.tmp 15) 0, type := 0, pos := "tree.go:124", after := #[{ on := 2, ground := Ground.data }], guard := none } : Oper)) (v := ?_) rfl (by kernel_rfl) (by kernel_rfl) (by kernel_rfl) (fun _ _ _ h => h) (Or.inl ⟨by rfl, ?_⟩) (by assumption) ?_
      rotate_left
      · rintro X ⟨q0, q1, q2, q3⟩; (try dsimp only); go_simp; first | done | with_reducible rfl
      try simp only [Act.put, List.setIfInBounds_toArray, List.set_cons_zero, List.set_cons_succ]
      refine wpAnyH_take (i := 4) (oi := ({ dst := some 17, op := Op.load 74 (Operand.tmp 16), type := 74, pos := "tree.go:124", after := #[{ on := 3, ground := Ground.data }], guard := none } : Oper)) (v := ?_) rfl (by kernel_rfl) (by kernel_rfl) (by kernel_rfl) (fun _ _ _ h => h) (Or.inl ⟨by rfl, ?_⟩) (by assumption) ?_
      rotate_left
      · rintro X ⟨q0, q1, q2, q3⟩; (try dsimp only); go_simp; first | done | with_reducible rfl
      try simp only [Act.put, List.setIfInBounds_toArray, List.set_cons_zero, List.set_cons_succ]
      refine wpAnyH_take (i := 5) (oi := ({ dst := some 18, op := Op.move (Operand.tmp 7), type := 9, pos := "tree.go:124", after := #[], guard := none } : Oper)) (v := ?_) rfl (by kernel_rfl) (by kernel_rfl) (by kernel_rfl) (fun _ _ _ h => h) (Or.inl ⟨by rfl, ?_⟩) (by assumption) ?_
      rotate_left
      · rintro X ⟨q0, q1, q2, q3⟩; (try dsimp only); go_simp; first | done | with_reducible rfl
      try simp only [Act.put, List.setIfInBounds_toArray, List.set_cons_zero, List.set_cons_succ]
      refine wpAnyH_take (i := 6) (oi := ({ dst := some 19, op := Op.lookup 74 (Operand.tmp 17) (Operand.tmp 18) false, type := 50, pos := "tree.go:124", after := #[{ on := 4, ground := Ground.data }, { on := 5, ground := Ground.data }], guard := none } : Oper)) (v := .agg #[.string ⟨x.1.2.path.toArray⟩, .slice LA x.1.2.data.length LC, .int .i64 x.1.2.ver, .int .i64 x.1.2.own, .int .i64 x.1.2.next, .int .i64 x.1.2.born]) rfl (by kernel_rfl) (by kernel_rfl) (by kernel_rfl) (fun _ _ _ h => h) (Or.inl ⟨by rfl, ?_⟩) (by assumption) ?_
      · rintro X ⟨q0, q1, q2, q3⟩; exact exec_lookup (.tmp 17) (.tmp 18) 74 rfl (.map (some b)) (.string ⟨x.1.2.path.toArray⟩) (by rfl) (by rfl) q3
      try simp only [Act.put, List.setIfInBounds_toArray, List.set_cons_zero, List.set_cons_succ]
      refine wpAnyH_take (i := 7) (oi := ({ dst := some 20, op := Op.field 50 (Operand.tmp 19) 3, type := 3, pos := "tree.go:124", after := #[{ on := 6, ground := Ground.data }], guard := none } : Oper)) (v := .int .i64 x.1.2.own) rfl (by kernel_rfl) (by kernel_rfl) (by kernel_rfl) (fun _ _ _ h => h) (Or.inl ⟨by rfl, ?_⟩) (by assumption) ?_
      · rintro X -; exact exec_field (.tmp 19) 50 3 rfl (.agg #[.string ⟨x.1.2.path.toArray⟩, .slice LA x.1.2.data.length LC, .int .i64 x.1.2.ver, .int .i64 x.1.2.own, .int .i64 x.1.2.next, .int .i64 x.1.2.born]) (by rfl) (field_own x.1.2 LA LC X)
      try simp only [Act.put, List.setIfInBounds_toArray, List.set_cons_zero, List.set_cons_succ]
      refine wpAnyH_ready (rs := [8]) (by kernel_rfl) (by simp) ?_
      refine AllReadyH.cons (o := ({ dst := some 21, op := Op.call { callee := Callee.value (Operand.func 55), args := #[Operand.tmp 13, Operand.tmp 20], argTypes := #[23, 3] }, type := 4, pos := "tree.go:124", after := #[{ on := 0, ground := Ground.data }, { on := 7, ground := Ground.data }], guard := none } : Oper)) rfl (fun K hK => ?_) AllReadyH.nil
      go_simp
      refine HCT.out.mono ?_
      rintro e w5 ⟨rfl, rfl⟩
      refine hK.out _ _ hHeld (fun _ => ?_)
      clear hK K
      try simp only [Act.put, List.setIfInBounds_toArray, List.set_cons_zero, List.set_cons_succ]
      refine wpAnyH_done (by kernel_rfl) ?_ _
      gi_wp2
      refine ⟨HKO.out.from _, HKD.out, ⟨⟨A, m, c, HBX0.out, by rw [← HSN.out]; exact HOP0.out, by have := HML.out; simp; omega⟩, HH2.out, HH3.out⟩, HIB.out.trans HKD.out.be⟩
  case done =>
    rintro D ys W hD hys ⟨⟨⟨A, m, c, hbx, hop, hml⟩, h2, h3⟩, hib⟩ hK
    have jb : W.cell? ⟨w.heap.size + 1 + 1, 0, none⟩ = some (.slice A m c) := hbx.at_ rfl
    have HOP := Lib.hid hop
    have HIB := Lib.hid hib
    have HYS := Lib.hid hys
    have HD := Lib.hid hD
    clear hop hib hys hD s1 s2 s4 h2 h3 hml
    gi_wp2
    refine ⟨by simp, .inl ⟨_, _, rfl, run_takeDeferred hK, ?_⟩⟩
    refine ⟨_, results_tmp rfl _ _ _, ?_⟩
    refine ⟨A, m, c, rfl, ?_, HIB.out.trans (belowK_b (w := w) (Nat.le_refl _) W D _ _ (by have := HD.out; have := HBW4.out.size; omega) hK rfl rfl)⟩
    rw [show tOwned os t = sel os (ys.map (·.1.2)) by rw [HYS.out]; rfl]
    exact ownsRow_putObj HOP.out _ hK rfl
  case stop =>
    rintro D c pre W _ _ h _
    exact h.elim
end Go.Proofs.YtgppclmofphlfaaGreatDoor
