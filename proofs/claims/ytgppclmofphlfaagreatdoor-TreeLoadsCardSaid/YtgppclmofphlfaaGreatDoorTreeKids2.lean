/-
  A node's children told. Walks; no statement.
-/
import Derived.Test.YtgppclmofphlfaaGreatDoorTreeKids1
import Derived.Test.YtgppclmofphlfaaGreatDoorTreePush
namespace Go.Proofs.YtgppclmofphlfaaGreatDoor
set_option maxRecDepth 100000
open Go.RowKit Go.Shelf
set_option linter.unusedVariables false
attribute [local go_sem] Oper.semAt_some

theorem pushed_box {B : Nat} {W w5 w6 : World} {A : Option Addr} {n n0 c : Nat} {ls : List (List UInt8)} {o : Obj} (hb : Bk W B 53 [.slice A n c]) (ho : OwnT W n0 A n c ls) (h5 : Below W.heap.size W w5)
    (hg : (w5.alloc o).grownBy w6 (Value.slice A n c).ownBlock) : Bk w6 B 53 [.slice A n c] :=
  ((hb.kept h5).alloc o).grown hg (fun e => (show Boxed W B 53 (.slice A n c) from hb).not_row (by decide) ho e)
set_option maxRecDepth 100000 in
set_option maxHeartbeats 8000000 in
theorem kidsM_any (g : Nat) (t : List Lf) (F : Nat → Prop) (p : ByteArray) (w : World) (hE : Env w) (hT : TreeAt F w g t) (hn : t.length ≤ 1000) :
    Calls Tryz.prog 24 #[.pointer (some ⟨g, 0, none⟩), .string p] w (KidsP (tGet p.data.toList t) (tKids p.data.toList t) w) := by
  obtain ⟨q, rfl⟩ : ∃ l : List UInt8, p = ⟨l.toArray⟩ := ⟨p.data.toList, (sv_of p).symm⟩
  show Calls _ _ _ _ (KidsP (tGet q t) (tKids q t) w)
  obtain ⟨i0, hi, hz0, hz1, hz2⟩ := info_parts info_str
  have HF := Lib.hid (find_any g t F ⟨q.toArray⟩ w hE hT)
  have HT := Lib.hid hT
  have HE := Lib.hid hE
  clear hT hE
  refine (callsIn_wide (n := 6)).1 ?_
  refine callsIn_of_wp_marks Tryz.func24 rfl trivial ?_ rfl
  simp only [Tryz.ntmps24, List.size_toArray, List.length_cons, List.length_nil, Nat.reduceAdd, Nat.reduceSub, Array.replicate_succ, Array.replicate_zero, List.push_toArray, List.append_toArray, List.nil_append, List.cons_append]
  rcases tGet_cases q t with ⟨l, e, -⟩ | ⟨m, e, hm⟩
  · rw [e]
    replace HF := Lib.hid (show Calls _ _ _ _ (FndP F (some l, 0) w) by have := HF.out; rw [show (⟨q.toArray⟩ : ByteArray).data.toList = q from rfl, e] at this; exact this)
    clear e
    gi_wp2_with fail
    refine ⟨trivial, (callsIn_wide.2 HF.out).mono ?_⟩
    rintro e w1 ⟨hb1, A, c, rfl, hbf⟩
    clear hbf
    obtain ⟨W2, hW2⟩ : ∃ W2, W2 = (w1.alloc (.cells #[.string ⟨l.path.toArray⟩, .slice A l.data.length c, .int .i64 l.ver, .int .i64 l.own, .int .i64 l.next, .int .i64 l.born] 50)).alloc (.cells #[.slice none 0 0] 53) := ⟨_, rfl⟩
    have HB2 := Lib.hid (show Below w.heap.size w W2 by rw [hW2]; exact (hb1.alloc hb1.size _).alloc (by have := hb1.size; simp; omega) _)
    have HS2 := Lib.hid (show W2.heap.size = w1.heap.size + 2 by rw [hW2]; simp)
    have HBX := Lib.hid (show Bk W2 (w1.heap.size + 1) 53 [.slice none 0 0] by
      rw [hW2]
      have := Bk.new (w1.alloc (.cells #[.string ⟨l.path.toArray⟩, .slice A l.data.length c, .int .i64 l.ver, .int .i64 l.own, .int .i64 l.next, .int .i64 l.born] 50)) 53 [.slice none 0 0]
      rw [show (w1.alloc (.cells #[.string ⟨l.path.toArray⟩, .slice A l.data.length c, .int .i64 l.ver, .int .i64 l.own, .int .i64 l.next, .int .i64 l.born] 50)).heap.size = w1.heap.size + 1 by simp] at this
      exact this)
    have HS1 := Lib.hid hb1.size
    have HWE := Lib.hid hW2
    have HK := Lib.hid (kids_any g ⟨q.toArray⟩ W2)
    clear hb1 hW2
    gi_wp2_with fail
    rw [← HWE.out]
    refine ⟨trivial, (callsIn_wide.2 HK.out).mono ?_⟩
    rintro e w4 ⟨rfl, hw4⟩
    have HB4 := Lib.hid (show Below W2.heap.size W2 w4 by rw [hw4]; exact ((Below.refl _ W2).alloc (Nat.le_refl _) _).alloc (by simp) _)
    have HS4 := Lib.hid (show w4.heap.size = W2.heap.size + 2 by rw [hw4]; simp)
    have HC1 := Lib.hid (show w4.cell? ⟨W2.heap.size, 0, none⟩ = some (.pointer (some ⟨g, 0, none⟩)) by rw [hw4]; exact ((Bk.new W2 26 [.pointer (some ⟨g, 0, none⟩)]).alloc _).at_ rfl)
    have HC2 := Lib.hid (show w4.cell? ⟨W2.heap.size + 1, 0, none⟩ = some (.string ⟨q.toArray⟩) by
      rw [hw4]
      have := Bk.new (W2.alloc (.cells #[.pointer (some ⟨g, 0, none⟩)] 26)) 9 [.string ⟨q.toArray⟩]
      rw [show (W2.alloc (.cells #[.pointer (some ⟨g, 0, none⟩)] 26)).heap.size = W2.heap.size + 1 by simp] at this
      exact this.at_ rfl)
    have HBX4 := Lib.hid (HBX.out.kept HB4.out)
    have HBW4 := Lib.hid (HB2.out.trans (HB4.out.mono HB2.out.size))
    clear hw4
    have HN := Lib.hid (Nat.le_trans (tKids_le q t) hn)
    gi_wp2_with fail
    have s1 := HS1.out
    have s2 := HS2.out
    have s4 := HS4.out
    refine wpIn_rangeFunc_ownG rfl (by omega) (gf := 69) (lb := #[.pointer (some ⟨W2.heap.size, 0, none⟩), .pointer (some ⟨W2.heap.size + 1, 0, none⟩)]) rfl trivial (enters_of Tryz.func69 (by kernel_rfl) rfl)
      (kids_stops _ (w1.heap.size + 1) W2.heap.size (W2.heap.size + 1) g t F q w w4 HE.out HBW4.out HC1.out HC2.out (HT.out.below HBW4.out) hn (by
        rintro k (rfl | ⟨a, n, c2, hc, _⟩)
        · rfl
        · rw [show w4.cell? _ = _ from HBX4.out.at_ (i := 0) rfl] at hc; cases hc) (by omega) (by omega)) kpB_t (kpB_b (by omega) (by omega)) (Below.refl _ _) (fun _ => rfl)
      (fun pre W => (∃ A c, Bk W (w1.heap.size + 1) 53 [.slice A pre.length c] ∧ OwnT W w.heap.size A pre.length c (pre.map (·.1))) ∧ Below w.heap.size w W)
      (fun _ _ _ => False)
      ?hI (fun _ _ _ _ _ hs _ _ => hs) ?h0 ?a1 ?assign ?body ?done ?stop
    case hI =>
      refine OwnFrom.and (Own.from (fun s X Y row hs hg hr => ?_) _) (ownFrom_below (Nat.le_refl _) (by omega))
      obtain ⟨A, c, h1, h2⟩ := hs
      have hne : ∀ k, row = some k → ∃ o : Obj, X.heap[k]? = some o ∧ o.isCells = false := fun k e => hr k e
      refine ⟨A, c, h1.grown hg (fun e => ?_), World.ownsRow.kept h2 hg ?_⟩
      · obtain ⟨o, ho, hc⟩ := hne _ e.symm
        rw [show X.heap[w1.heap.size + 1]? = _ from h1] at ho
        cases ho; cases hc
      · rcases h2.2 with ⟨e1, _⟩ | ⟨g', cap, cur, e1, _, hgb, _⟩
        · left; rw [e1]; rfl
        · right
          intro e
          rw [e1] at e
          obtain ⟨o, ho, hc⟩ := hne g' e.symm
          rw [hgb] at ho
          cases ho; cases hc
    case h0 => exact ⟨⟨none, 0, HBX4.out, OwnT.nil_ _ _⟩, HBW4.out⟩
    case a1 => exact fun x => { tmps := #[.pointer (some ⟨g, 0, none⟩), .string ⟨q.toArray⟩, undef, undef, .slice none 0 0, .int .i64 0, .pointer (some ⟨w1.heap.size, 0, none⟩), .int .i64 0, .pointer (some ⟨w1.heap.size + 1, 0, none⟩), .string ⟨x.1.toArray⟩, .tuple #[.agg #[.string ⟨l.path.toArray⟩, .slice A l.data.length c, .int .i64 l.ver, .int .i64 l.own, .int .i64 l.next, .int .i64 l.born], .int .i64 0], .pointer (some ⟨g, 0, none⟩), .string ⟨q.toArray⟩, .tuple #[.agg #[.string ⟨l.path.toArray⟩, .slice A l.data.length c, .int .i64 l.ver, .int .i64 l.own, .int .i64 l.next, .int .i64 l.born], .int .i64 0], .agg #[.string ⟨l.path.toArray⟩, .slice A l.data.length c, .int .i64 l.ver, .int .i64 l.own, .int .i64 l.next, .int .i64 l.born], .int .i64 0, .int .i64 0, .bool false, undef, .pointer (some ⟨g, 0, none⟩), .string ⟨q.toArray⟩, .func (.func 69) #[] #[.pointer (some ⟨W2.heap.size, 0, none⟩), .pointer (some ⟨W2.heap.size + 1, 0, none⟩)], .string ⟨x.1.toArray⟩, undef, undef, undef, undef, undef, undef], defers := [] }
    case assign =>
      intro l x W K hK
      clear s1 s2 s4
      gi_wp2
      exact hK
    case body =>
      rintro lr pre x W ⟨⟨A5, c5, hbx, hop⟩, hib⟩ hlt
      obtain ⟨A, hA⟩ : ∃ A, A = A5 := ⟨_, rfl⟩
      obtain ⟨c, hc⟩ : ∃ c, c = c5 := ⟨_, rfl⟩
      rw [← hA, ← hc] at hbx hop
      obtain ⟨L, hL⟩ : ∃ L, L = pre.map (·.1) := ⟨_, rfl⟩
      rw [← hL] at hop
      have HLL := Lib.hid hL
      clear hL
      have HBX := Lib.hid hbx
      have HO := Lib.hid hop
      have HIB := Lib.hid hib
      have HNW := Lib.hid (show w.heap.size ≤ W.heap.size from hib.size)
      have HNB := Lib.hid (show w.heap.size ≤ w1.heap.size + 1 by omega)
      have hpl : pre.length ≤ 1000 := Nat.le_of_lt (Nat.lt_of_lt_of_le hlt HN.out)
      have HCL := Lib.hid (fun X => cloneS_any ⟨x.1.toArray⟩ X x.2)
      have jb : W.cell? ⟨w1.heap.size + 1, 0, none⟩ = some (.slice A pre.length c) := hbx.at_ rfl
      have jd : W.drew.cell? ⟨w1.heap.size + 1, 0, none⟩ = some (.slice A pre.length c) := jb
      have hx1 : x.1 = x.1 := rfl
      clear hop hib s1 s2 s4 hA hc
      gi_wp2_with fail
      refine round_region_held (S := fun _ => True) (by kernel_rfl) (by kernel_rfl) (by rintro ⟨a9, w9, h9⟩; exact h9) trivial (fun _ => ?_)
      refine wpAnyH_take (i := 1) (oi := ({ dst := some 24, op := Op.move (Operand.tmp 9), type := 9, pos := "tree.go:115", after := #[], guard := none } : Oper)) (v := ?_) rfl (by kernel_rfl) (by kernel_rfl) (by kernel_rfl) (fun _ _ _ h => h) (Or.inl ⟨by rfl, ?_⟩) trivial ?_
      rotate_left
      · intro w hSw; go_simp; first | done | with_reducible rfl
      try simp only [Act.put, List.setIfInBounds_toArray, List.set_cons_zero, List.set_cons_succ]
      refine wpAnyH_ready (rs := [0, 2]) (by kernel_rfl) (by simp) ?_
      refine AllReadyH.cons (o := ({ dst := some 23, op := Op.load 53 (Operand.tmp 8), type := 53, pos := "tree.go:115", after := #[], guard := none } : Oper)) rfl (fun K hK => ?_) (AllReadyH.cons (o := ({ dst := some 25, op := Op.call { callee := Callee.value (Operand.func 42), args := #[Operand.tmp 24], argTypes := #[9] }, type := 9, pos := "tree.go:115", after := #[{ on := 1, ground := Ground.data }], guard := none } : Oper)) rfl (fun K hK => ?_) AllReadyH.nil)
      · go_simp
        refine hK.out _ _ trivial (fun _ => ?_)
        clear hK K
        try simp only [Act.put, List.setIfInBounds_toArray, List.set_cons_zero, List.set_cons_succ]
        refine wpAnyH_ready (rs := [2]) (by kernel_rfl) (by simp) ?_
        refine AllReadyH.cons (o := ({ dst := some 25, op := Op.call { callee := Callee.value (Operand.func 42), args := #[Operand.tmp 24], argTypes := #[9] }, type := 9, pos := "tree.go:115", after := #[{ on := 1, ground := Ground.data }], guard := none } : Oper)) rfl (fun K hK => ?_) AllReadyH.nil
        go_simp
        refine (HCL.out _).mono ?_
        rintro e w5 ⟨rfl, hb5⟩
        have H5 := Lib.hid (show Below W.heap.size W w5 from ⟨hb5.os, hb5.tape, hb5.output, hb5.size, hb5.block⟩)
        have j5 : w5.cell? ⟨w1.heap.size + 1, 0, none⟩ = some (.slice A pre.length c) := (hbx.kept H5.out).at_ rfl
        clear hb5
        refine hK.out _ _ trivial (fun _ => ?_)
        clear hK K
        try simp only [Act.put, List.setIfInBounds_toArray, List.set_cons_zero, List.set_cons_succ]
        refine wpAnyH_ready (rs := [3]) (by kernel_rfl) (by simp) ?_
        refine AllReadyH.cons (o := ({ dst := some 26, op := Op.buildSlice 53 1 #[(0, Operand.tmp 25)], type := 53, pos := "tree.go:115", after := #[{ on := 2, ground := Ground.data }], guard := none } : Oper)) rfl (fun K hK => ?_) AllReadyH.nil
        go_simp
        refine hK.out _ _ trivial (fun _ => ?_)
        clear hK K
        try simp only [Act.put, List.setIfInBounds_toArray, List.set_cons_zero, List.set_cons_succ]
        refine wpAnyH_ready (rs := [4]) (by kernel_rfl) (by simp) ?_
        refine AllReadyH.cons (o := ({ dst := some 27, op := Op.call { callee := Callee.builtin Builtin.append, args := #[Operand.tmp 23, Operand.tmp 26], argTypes := #[53, 53] }, type := 53, pos := "tree.go:115", after := #[{ on := 0, ground := Ground.data }, { on := 3, ground := Ground.data }, { on := 2, ground := Ground.chain }], guard := none } : Oper)) rfl (fun K hK => ?_) AllReadyH.nil
        refine step_append_row rfl (.tmp 23) (.tmp 26) 53 rfl w.heap.size 9 i0 (.string ByteArray.empty) 1 16 Tryz.underlying53 hi hz0 hz1 hz2 rfl (by decide) A pre.length c (L.map sv) rfl ((HO.out.below H5.out).below ((Below.refl _ _).alloc (Nat.le_refl _) _)) ⟨w5.heap.size, 0, none⟩ 1 1 [sv x.1] rfl rfl (cell_one_new _ _ _) (by simp [Value.oneCell']) (by simp only [maxLen]; omega) (by omega) (by have := H5.out.size; have := HNW.out; simp; omega) (by omega) ?_
        intro A' c' w6 ho6 hg6 hr6
        have HPU := Lib.hid (pushed (n0 := w.heap.size) HNW.out HNB.out HBX.out HO.out H5.out hg6.out ho6.out hr6.out)
        have f6 : w6.frozen? ⟨w1.heap.size + 1, 0, none⟩ = false := (pushed_box HBX.out HO.out H5.out hg6.out).frozen 0
        have j7 : w6.cell? ⟨w1.heap.size + 1, 0, none⟩ = some (.slice A pre.length c) := (pushed_box HBX.out HO.out H5.out hg6.out).at_ rfl
        refine hK.out _ _ trivial (fun _ => ?_)
        clear hK K
        try simp only [Act.put, List.setIfInBounds_toArray, List.set_cons_zero, List.set_cons_succ]
        refine wpAnyH_ready (rs := [5]) (by kernel_rfl) (by simp) ?_
        refine AllReadyH.cons (o := ({ dst := none, op := Op.store 53 (Operand.tmp 8) (Operand.tmp 27), type := 0, pos := "tree.go:115", after := #[{ on := 4, ground := Ground.data }, { on := 4, ground := Ground.chain }, { on := 0, ground := Ground.phase }, { on := 1, ground := Ground.phase }, { on := 2, ground := Ground.phase }, { on := 3, ground := Ground.phase }, { on := 4, ground := Ground.phase }], guard := none } : Oper)) rfl (fun K hK => ?_) AllReadyH.nil
        go_simp
        refine hK.out _ _ trivial (fun _ => ?_)
        clear hK K
        try simp only [Act.put, List.setIfInBounds_toArray, List.set_cons_zero, List.set_cons_succ]
        refine wpAnyH_done (by kernel_rfl) ?_ _
        try simp only [Exit.inBlock]
        exact ⟨HPU.out.kept.from _, HPU.out.kp, ⟨A', c', by have := HPU.out.box; simpa using this, by have := HPU.out.own; rw [HLL.out] at this; simpa using this⟩, HIB.out.trans HPU.out.kp.be⟩
      · go_simp
        refine (HCL.out _).mono ?_
        rintro e w5 ⟨rfl, hb5⟩
        have H5 := Lib.hid (show Below W.heap.size W w5 from ⟨hb5.os, hb5.tape, hb5.output, hb5.size, hb5.block⟩)
        have j5 : w5.cell? ⟨w1.heap.size + 1, 0, none⟩ = some (.slice A pre.length c) := (hbx.kept H5.out).at_ rfl
        clear hb5
        refine hK.out _ _ trivial (fun _ => ?_)
        clear hK K
        try simp only [Act.put, List.setIfInBounds_toArray, List.set_cons_zero, List.set_cons_succ]
        refine wpAnyH_ready (rs := [0, 3]) (by kernel_rfl) (by simp) ?_
        refine AllReadyH.cons (o := ({ dst := some 23, op := Op.load 53 (Operand.tmp 8), type := 53, pos := "tree.go:115", after := #[], guard := none } : Oper)) rfl (fun K hK => ?_) (AllReadyH.cons (o := ({ dst := some 26, op := Op.buildSlice 53 1 #[(0, Operand.tmp 25)], type := 53, pos := "tree.go:115", after := #[{ on := 2, ground := Ground.data }], guard := none } : Oper)) rfl (fun K hK => ?_) AllReadyH.nil)
        · go_simp
          refine hK.out _ _ trivial (fun _ => ?_)
          clear hK K
          try simp only [Act.put, List.setIfInBounds_toArray, List.set_cons_zero, List.set_cons_succ]
          refine wpAnyH_ready (rs := [3]) (by kernel_rfl) (by simp) ?_
          refine AllReadyH.cons (o := ({ dst := some 26, op := Op.buildSlice 53 1 #[(0, Operand.tmp 25)], type := 53, pos := "tree.go:115", after := #[{ on := 2, ground := Ground.data }], guard := none } : Oper)) rfl (fun K hK => ?_) AllReadyH.nil
          go_simp
          refine hK.out _ _ trivial (fun _ => ?_)
          clear hK K
          try simp only [Act.put, List.setIfInBounds_toArray, List.set_cons_zero, List.set_cons_succ]
          refine wpAnyH_ready (rs := [4]) (by kernel_rfl) (by simp) ?_
          refine AllReadyH.cons (o := ({ dst := some 27, op := Op.call { callee := Callee.builtin Builtin.append, args := #[Operand.tmp 23, Operand.tmp 26], argTypes := #[53, 53] }, type := 53, pos := "tree.go:115", after := #[{ on := 0, ground := Ground.data }, { on := 3, ground := Ground.data }, { on := 2, ground := Ground.chain }], guard := none } : Oper)) rfl (fun K hK => ?_) AllReadyH.nil
          refine step_append_row rfl (.tmp 23) (.tmp 26) 53 rfl w.heap.size 9 i0 (.string ByteArray.empty) 1 16 Tryz.underlying53 hi hz0 hz1 hz2 rfl (by decide) A pre.length c (L.map sv) rfl ((HO.out.below H5.out).below ((Below.refl _ _).alloc (Nat.le_refl _) _)) ⟨w5.heap.size, 0, none⟩ 1 1 [sv x.1] rfl rfl (cell_one_new _ _ _) (by simp [Value.oneCell']) (by simp only [maxLen]; omega) (by omega) (by have := H5.out.size; have := HNW.out; simp; omega) (by omega) ?_
          intro A' c' w6 ho6 hg6 hr6
          have HPU := Lib.hid (pushed (n0 := w.heap.size) HNW.out HNB.out HBX.out HO.out H5.out hg6.out ho6.out hr6.out)
          have f6 : w6.frozen? ⟨w1.heap.size + 1, 0, none⟩ = false := (pushed_box HBX.out HO.out H5.out hg6.out).frozen 0
          have j7 : w6.cell? ⟨w1.heap.size + 1, 0, none⟩ = some (.slice A pre.length c) := (pushed_box HBX.out HO.out H5.out hg6.out).at_ rfl
          refine hK.out _ _ trivial (fun _ => ?_)
          clear hK K
          try simp only [Act.put, List.setIfInBounds_toArray, List.set_cons_zero, List.set_cons_succ]
          refine wpAnyH_ready (rs := [5]) (by kernel_rfl) (by simp) ?_
          refine AllReadyH.cons (o := ({ dst := none, op := Op.store 53 (Operand.tmp 8) (Operand.tmp 27), type := 0, pos := "tree.go:115", after := #[{ on := 4, ground := Ground.data }, { on := 4, ground := Ground.chain }, { on := 0, ground := Ground.phase }, { on := 1, ground := Ground.phase }, { on := 2, ground := Ground.phase }, { on := 3, ground := Ground.phase }, { on := 4, ground := Ground.phase }], guard := none } : Oper)) rfl (fun K hK => ?_) AllReadyH.nil
          go_simp
          refine hK.out _ _ trivial (fun _ => ?_)
          clear hK K
          try simp only [Act.put, List.setIfInBounds_toArray, List.set_cons_zero, List.set_cons_succ]
          refine wpAnyH_done (by kernel_rfl) ?_ _
          try simp only [Exit.inBlock]
          exact ⟨HPU.out.kept.from _, HPU.out.kp, ⟨A', c', by have := HPU.out.box; simpa using this, by have := HPU.out.own; rw [HLL.out] at this; simpa using this⟩, HIB.out.trans HPU.out.kp.be⟩
        · go_simp
          refine hK.out _ _ trivial (fun _ => ?_)
          clear hK K
          try simp only [Act.put, List.setIfInBounds_toArray, List.set_cons_zero, List.set_cons_succ]
          have j6 : (w5.alloc (.cells #[sv x.1] 9)).cell? ⟨w1.heap.size + 1, 0, none⟩ = some (.slice A pre.length c) := ((hbx.kept H5.out).alloc _).at_ rfl
          refine wpAnyH_ready (rs := [0]) (by kernel_rfl) (by simp) ?_
          refine AllReadyH.cons (o := ({ dst := some 23, op := Op.load 53 (Operand.tmp 8), type := 53, pos := "tree.go:115", after := #[], guard := none } : Oper)) rfl (fun K hK => ?_) AllReadyH.nil
          go_simp
          refine hK.out _ _ trivial (fun _ => ?_)
          clear hK K
          try simp only [Act.put, List.setIfInBounds_toArray, List.set_cons_zero, List.set_cons_succ]
          refine wpAnyH_ready (rs := [4]) (by kernel_rfl) (by simp) ?_
          refine AllReadyH.cons (o := ({ dst := some 27, op := Op.call { callee := Callee.builtin Builtin.append, args := #[Operand.tmp 23, Operand.tmp 26], argTypes := #[53, 53] }, type := 53, pos := "tree.go:115", after := #[{ on := 0, ground := Ground.data }, { on := 3, ground := Ground.data }, { on := 2, ground := Ground.chain }], guard := none } : Oper)) rfl (fun K hK => ?_) AllReadyH.nil
          refine step_append_row rfl (.tmp 23) (.tmp 26) 53 rfl w.heap.size 9 i0 (.string ByteArray.empty) 1 16 Tryz.underlying53 hi hz0 hz1 hz2 rfl (by decide) A pre.length c (L.map sv) rfl ((HO.out.below H5.out).below ((Below.refl _ _).alloc (Nat.le_refl _) _)) ⟨w5.heap.size, 0, none⟩ 1 1 [sv x.1] rfl rfl (cell_one_new _ _ _) (by simp [Value.oneCell']) (by simp only [maxLen]; omega) (by omega) (by have := H5.out.size; have := HNW.out; simp; omega) (by omega) ?_
          intro A' c' w6 ho6 hg6 hr6
          have HPU := Lib.hid (pushed (n0 := w.heap.size) HNW.out HNB.out HBX.out HO.out H5.out hg6.out ho6.out hr6.out)
          have f6 : w6.frozen? ⟨w1.heap.size + 1, 0, none⟩ = false := (pushed_box HBX.out HO.out H5.out hg6.out).frozen 0
          have j7 : w6.cell? ⟨w1.heap.size + 1, 0, none⟩ = some (.slice A pre.length c) := (pushed_box HBX.out HO.out H5.out hg6.out).at_ rfl
          refine hK.out _ _ trivial (fun _ => ?_)
          clear hK K
          try simp only [Act.put, List.setIfInBounds_toArray, List.set_cons_zero, List.set_cons_succ]
          refine wpAnyH_ready (rs := [5]) (by kernel_rfl) (by simp) ?_
          refine AllReadyH.cons (o := ({ dst := none, op := Op.store 53 (Operand.tmp 8) (Operand.tmp 27), type := 0, pos := "tree.go:115", after := #[{ on := 4, ground := Ground.data }, { on := 4, ground := Ground.chain }, { on := 0, ground := Ground.phase }, { on := 1, ground := Ground.phase }, { on := 2, ground := Ground.phase }, { on := 3, ground := Ground.phase }, { on := 4, ground := Ground.phase }], guard := none } : Oper)) rfl (fun K hK => ?_) AllReadyH.nil
          go_simp
          refine hK.out _ _ trivial (fun _ => ?_)
          clear hK K
          try simp only [Act.put, List.setIfInBounds_toArray, List.set_cons_zero, List.set_cons_succ]
          refine wpAnyH_done (by kernel_rfl) ?_ _
          try simp only [Exit.inBlock]
          exact ⟨HPU.out.kept.from _, HPU.out.kp, ⟨A', c', by have := HPU.out.box; simpa using this, by have := HPU.out.own; rw [HLL.out] at this; simpa using this⟩, HIB.out.trans HPU.out.kp.be⟩
    case done =>
      rintro D ys W hD hys ⟨⟨A5, c5, hbx, hop⟩, hib⟩ hK
      have jb : W.cell? ⟨w1.heap.size + 1, 0, none⟩ = some (.slice A5 ys.length c5) := hbx.at_ rfl
      have HOP := Lib.hid hop
      have HIB := Lib.hid hib
      have HYS := Lib.hid hys
      have HD := Lib.hid hD
      clear hop hib hys hD s1 s2 s4
      gi_wp2
      refine ⟨by simp, .inl ⟨_, _, rfl, run_takeDeferred hK, ?_⟩⟩
      refine ⟨_, results_tmp2 rfl _ _ _, ?_⟩
      unfold KidsP
      rw [if_pos rfl]
      refine ⟨_, ⟨A5, ys.length, c5, rfl, ?_, HIB.out.trans (belowK_b (w := w) (Nat.le_refl _) W D _ _ (by have := HD.out; have := HBW4.out.size; omega) hK rfl rfl)⟩, rfl⟩
      rw [← HYS.out]
      exact ownsRow_putObj HOP.out _ hK rfl
    case stop =>
      rintro D c pre W _ _ h _
      exact h.elim
  · rw [e]
    replace HF := Lib.hid (show Calls _ _ _ _ (FndP F (none, m) w) by have := HF.out; rw [show (⟨q.toArray⟩ : ByteArray).data.toList = q from rfl, e] at this; exact this)
    have hb : (m != 0) = true := by rcases hm with rfl | rfl <;> rfl
    have HM := Lib.hid (show m ≠ 0 by rcases hm with rfl | rfl <;> omega)
    clear e hm
    gi_wp2_with fail
    refine ⟨trivial, (callsIn_wide.2 HF.out).mono ?_⟩
    rintro e w1 ⟨hb1, rfl⟩
    have HX := Lib.hid (hb1.alloc hb1.size (.cells #[.string ⟨#[]⟩, .slice none 0 0, .int .i64 0, .int .i64 0, .int .i64 0, .int .i64 0] 50))
    clear hb1
    gi_wp2_with fail
    refine ⟨_, results_tmp2 rfl _ _ _, ?_⟩
    unfold KidsP
    rw [if_neg HM.out]
    exact ⟨HX.out, rfl⟩
end Go.Proofs.YtgppclmofphlfaaGreatDoor
