/-
  The reference's Drop. Walks; no statement.
-/
import Derived.Test.YtgppclmofphlfaaGreatDoorTreeRef12
import Derived.Test.YtgppclmofphlfaaGreatDoorTreeRef8
import Derived.Test.YtgppclmofphlfaaGreatDoorTreeRef13
namespace Go.Proofs.YtgppclmofphlfaaGreatDoor
set_option maxRecDepth 100000
open Go.RowKit
set_option linter.unusedVariables false
set_option maxRecDepth 100000

theorem tDrop_1 {q : List UInt8} {v : Int} {t : List Lf} (h : parentP q = none) : tDrop q v t = (t, 90) := by unfold tDrop; rw [h]
theorem tDrop_2 {q up : List UInt8} {v : Int} {t : List Lf} (h : parentP q = some up) (ha : tAt q t = none) : tDrop q v t = (t, 100) := by unfold tDrop; rw [h]; simp only [ha]
theorem tDrop_3 {q up : List UInt8} {v : Int} {t : List Lf} {k : Nat} {a : Lf} (h : parentP q = some up) (ha : tAt q t = some k) (hk : t[k]? = some a) :
    tDrop q v t = if 0 ≤ v ∧ a.ver ≠ v then (t, 102) else if tKids q t ≠ [] then (t, 103) else (t.take k ++ t.drop (k + 1), 0) := by
  have hg : t.getD k lfRoot = a := getD_of hk
  unfold tDrop; rw [h]; simp only [ha, hg]
theorem own_form {w : World} {base n sz : Nat} {e : TypeId} {v : Value} {xs : List Value} (h : w.ownsRow base e sz v n xs) : ∃ A c, v = .slice A n c := by
  rcases h.2 with ⟨e1, e2⟩ | ⟨g, cap, cur, e1, _⟩
  · exact ⟨none, 0, by rw [e2]; exact e1⟩
  · exact ⟨_, _, e1⟩
theorem size_leaf (wx : World) : (sizeOf 50).run Tryz.prog wx = .ok 6 wx := by kernel_rfl
theorem slice_fr (A : Option Addr) (n c h : Nat) (hh : h ≤ c) (hc : c ≤ maxLen) (wx : World) : (Instr.slice 28 (.slice A n c) none (some (.int .i64 (h : Int))) none).run Tryz.prog wx = .ok (.slice A h c) wx := by
  rw [run_slice_h wx _ _ _ _ (by kernel_rfl) .i64 (h : Int) (by omega) (by omega)]
  have e : Tryz.prog.elem 28 = 50 := by kernel_rfl
  rw [e, size_leaf]
  cases A <;> simp [Result.andThen, sliced, Addr.add]
theorem slice_bk (x : Addr) (n c l : Nat) (hh : l ≤ n) (hn : n ≤ c) (hc : c ≤ maxLen) (wx : World) : (Instr.slice 28 (.slice (some x) n c) (some (.int .i64 (l : Int))) none none).run Tryz.prog wx = .ok (.slice (some (if c = l then x else x.add (l * 6))) (n - l) (c - l)) wx := by
  rw [run_slice_l wx _ _ _ _ (by kernel_rfl) .i64 (l : Int) (by omega) (by omega)]
  have e : Tryz.prog.elem 28 = 50 := by kernel_rfl
  rw [e, size_leaf]
  by_cases h : c = l <;> simp [Result.andThen, sliced, h]
/-- the cells of a row of nodes -/
theorem RdS.cells6 {F : Nat → Prop} {w : World} {x : Addr} {c : Nat} {ls : List Lf} (h : RdS RLf F w (some x) c ls) :
    ∃ css : List (List Value), css.length = ls.length ∧ (∀ cs ∈ css, cs.length = 6) ∧ (∀ j u, css.flatten[j]? = some u → w.cell? (x.add j) = some u) ∧ ∀ (k : Nat) (l : Lf) (cs : List Value), ls[k]? = some l → css[k]? = some cs → RLf.rd F w cs l := by
  have hex : ∀ k, ∃ cs : List Value, ∀ l, ls[k]? = some l → cs.length = 6 ∧ (∀ j u, cs[j]? = some u → w.cell? (x.add (k * 6 + j)) = some u) ∧ RLf.rd F w cs l := fun k => by
    cases hk : ls[k]? with
    | none => exact ⟨[], fun l hl => by cases hl⟩
    | some l =>
      obtain ⟨a, cs, e, _, _, hc, hr⟩ := h.2.2.2 k l hk
      obtain rfl := Option.some.inj e
      exact ⟨cs, fun l' hl => by obtain rfl := Option.some.inj hl; exact ⟨RLf.len hr, hc, hr⟩⟩
  obtain ⟨f, hf⟩ := Classical.axiomOfChoice hex
  have hat : ∀ k cs, ((List.range ls.length).map f)[k]? = some cs → k < ls.length ∧ cs = f k := fun k cs hk => by
    rw [List.getElem?_map] at hk
    obtain ⟨i, hi, rfl⟩ := Option.map_eq_some_iff.1 hk
    have hl := (List.getElem?_eq_some_iff.1 hi).1
    simp at hl
    rw [List.getElem?_range hl] at hi
    obtain rfl := Option.some.inj hi
    exact ⟨hl, rfl⟩
  refine ⟨(List.range ls.length).map f, by simp, fun cs hcs => ?_, fun j u hj => ?_, fun k l cs hl hk => ?_⟩
  · obtain ⟨k, hk, e⟩ := List.getElem_of_mem hcs
    obtain ⟨hl, e2⟩ := hat k cs (by rw [List.getElem?_eq_getElem hk, e])
    rw [e2]
    exact (hf k _ (List.getElem?_eq_getElem hl)).1
  · have hlen : ∀ cs ∈ (List.range ls.length).map f, cs.length = 6 := fun cs hcs => by
      obtain ⟨k, hk, e⟩ := List.getElem_of_mem hcs
      obtain ⟨hl, e2⟩ := hat k cs (by rw [List.getElem?_eq_getElem hk, e])
      rw [e2]
      exact (hf k _ (List.getElem?_eq_getElem hl)).1
    have hfl : ∀ (css : List (List Value)), (∀ cs ∈ css, cs.length = 6) → ∀ j u, css.flatten[j]? = some u → ∃ k i cs, css[k]? = some cs ∧ cs[i]? = some u ∧ j = k * 6 + i := by
      intro css
      induction css with
      | nil => intro _ j u hj; simp at hj
      | cons c0 r ih =>
        intro h6 j u hj
        have h0 : c0.length = 6 := h6 c0 List.mem_cons_self
        rw [List.flatten_cons] at hj
        rcases Nat.lt_or_ge j c0.length with hlt | hge
        · rw [List.getElem?_append_left hlt] at hj
          exact ⟨0, j, c0, rfl, hj, by omega⟩
        · rw [List.getElem?_append_right hge] at hj
          obtain ⟨k, i, cs, h1, h2, h3⟩ := ih (fun cs hcs => h6 cs (List.mem_cons_of_mem _ hcs)) _ _ hj
          exact ⟨k + 1, i, cs, by simpa using h1, h2, by omega⟩
    obtain ⟨k, i, cs, h1, h2, rfl⟩ := hfl _ hlen j u hj
    obtain ⟨hl, rfl⟩ := hat k cs h1
    exact (hf k _ (List.getElem?_eq_getElem hl)).2.1 i u h2
  · obtain ⟨hl2, rfl⟩ := hat k cs hk
    exact (hf k l hl).2.2
theorem flat_len6 : ∀ {css : List (List Value)}, (∀ cs ∈ css, cs.length = 6) → css.flatten.length = css.length * 6
  | [], _ => rfl
  | c0 :: r, h => by
    rw [List.flatten_cons, List.length_append, flat_len6 (css := r) (fun cs hc => h cs (List.mem_cons_of_mem _ hc)), h c0 List.mem_cons_self, List.length_cons]
    omega
/-- the first of a row's cells, and those behind the next one -/
theorem flat_take {css : List (List Value)} (k : Nat) {j : Nat} {u : Value} (hj : (css.take k).flatten[j]? = some u) : css.flatten[j]? = some u := by
  have e : css.flatten = (css.take k).flatten ++ (css.drop k).flatten := by rw [← List.flatten_append, List.take_append_drop]
  rw [e, List.getElem?_append_left (List.getElem?_eq_some_iff.1 hj).1]
  exact hj
theorem flat_drop {css : List (List Value)} (h : ∀ cs ∈ css, cs.length = 6) {k : Nat} (hk : k ≤ css.length) {j : Nat} {u : Value} (hj : (css.drop k).flatten[j]? = some u) : css.flatten[k * 6 + j]? = some u := by
  have e : css.flatten = (css.take k).flatten ++ (css.drop k).flatten := by rw [← List.flatten_append, List.take_append_drop]
  have hl : (css.take k).flatten.length = k * 6 := by
    rw [flat_len6 (fun cs hc => h cs (List.mem_of_mem_take hc)), List.length_take]
    rw [Nat.min_eq_left hk]
  rw [e, List.getElem?_append_right (by omega), hl, Nat.add_sub_cancel_left]
  exact hj
theorem one_cells6 {F : Nat → Prop} {w : World} {ls : List Lf} {css : List (List Value)} (hl : css.length = ls.length) (h : ∀ (k : Nat) (l : Lf) (cs : List Value), ls[k]? = some l → css[k]? = some cs → RLf.rd F w cs l) : ∀ u ∈ css.flatten, u.oneCell' = true := by
  intro u hu
  obtain ⟨cs, hcs, hu⟩ := List.mem_flatten.1 hu
  obtain ⟨k, hk, e⟩ := List.getElem_of_mem hcs
  obtain ⟨A, c, rfl, -⟩ := h k _ cs (List.getElem?_eq_getElem (by omega)) (by rw [List.getElem?_eq_getElem hk, e])
  simp only [lfC, List.mem_cons, List.not_mem_nil, or_false] at hu
  rcases hu with rfl | rfl | rfl | rfl | rfl | rfl <;> rfl
/-- the row without element k -/
theorem own_cut {F G : Nat → Prop} {w X : World} {base k n c : Nat} {A : Option Addr} {ls : List Lf} {css : List (List Value)} (hl : css.length = ls.length) (hk : k < ls.length)
    (hr : ∀ (k : Nat) (l : Lf) (cs : List Value), ls[k]? = some l → css[k]? = some cs → RLf.rd F w cs l) (hX : Below w.heap.size w X) (hF : ∀ b, F b → b < base) (hG : ∀ b, F b → G b) (hG2 : ∀ b, base ≤ b → G b)
    (hn : n = ls.length - 1) (ho : X.ownsRow base 50 6 (.slice A n c) n ((css.take k).flatten ++ (css.drop (k + 1)).flatten)) : RdS RLf G X A c (ls.take k ++ ls.drop (k + 1)) := by
  have hown : OwnS RLf 50 G base X A n c (ls.take k ++ ls.drop (k + 1)) := by
    refine ⟨by simp [List.length_take, List.length_drop]; omega, css.take k ++ css.drop (k + 1), by simp [List.length_take, List.length_drop]; omega, by rw [List.flatten_append]; exact ho, fun j x cs hx hc => ?_⟩
    have h1 : ∃ i : Nat, ls[i]? = some x ∧ css[i]? = some cs := by
      rcases Nat.lt_or_ge j k with hjk | hjk
      · rw [List.getElem?_append_left (by simp [List.length_take]; omega), List.getElem?_take, if_pos hjk] at hx hc
        exact ⟨j, hx, hc⟩
      · have e1 : (ls.take k).length = k := by simp [List.length_take]; omega
        have e2 : (css.take k).length = k := by simp [List.length_take]; omega
        rw [List.getElem?_append_right (by omega), e1, List.getElem?_drop] at hx
        rw [List.getElem?_append_right (by omega), e2, List.getElem?_drop] at hc
        exact ⟨_, hx, hc⟩
    obtain ⟨i, h2, h3⟩ := h1
    refine RLf.keep (hr i x cs h2 h3) (Kp.of_below hX) fun b hb _ => ⟨hG b hb, fun e => ?_⟩
    have h4 := (World.ownsRow.lt ho b e.symm).1
    have h5 := hF b hb
    omega
  exact hown.rds hG2
set_option maxHeartbeats 12800000 in
theorem refDrop_any (p : ByteArray) (v : Int) (A : Option Addr) (c : Nat) (t : List Lf) (F : Nat → Prop) (w : World)
    (hp : p.size ≤ maxLen) (h : RdS RLf F w A c t) (hn : t.length ≤ 1000) (hsz : ∀ l ∈ t, l.path.length ≤ maxLen) :
    Calls Tryz.prog 18 #[.agg #[.slice A t.length c], .string p, .int .i64 v] w (FreshRf F (tDrop p.data.toList v t).1 [.int .i64 (tDrop p.data.toList v t).2] w) := by
  obtain ⟨q, rfl⟩ : ∃ l : List UInt8, p = ⟨l.toArray⟩ := ⟨p.data.toList, (sv_of p).symm⟩
  show Calls _ _ _ _ (FreshRf F (tDrop q v t).1 [.int .i64 (tDrop q v t).2] w)
  obtain ⟨W2, hW2⟩ : ∃ W2, W2 = (w.alloc (.cells #[.slice A t.length c] 30)).alloc (.cells #[.slice none 0 0] 30) := ⟨_, rfl⟩
  have HB2 := Lib.hid (show Below w.heap.size w W2 by rw [hW2]; exact ((Below.refl w.heap.size w).alloc (Nat.le_refl _) _).alloc (by simp) _)
  have HS2 := Lib.hid (show W2.heap.size = w.heap.size + 2 by rw [hW2]; simp)
  have hk0 : Bk W2 w.heap.size 30 [.slice A t.length c] := by rw [hW2]; exact (Bk.new w 30 [.slice A t.length c]).alloc _
  have hk1 : Bk W2 (w.heap.size + 1) 30 [.slice none 0 0] := by
    rw [hW2]
    have := Bk.new (w.alloc (.cells #[.slice A t.length c] 30)) 30 [.slice none 0 0]
    rw [show (w.alloc (.cells #[.slice A t.length c] 30)).heap.size = w.heap.size + 1 by simp] at this
    exact this
  have HKW := Lib.hid (fun X (hb : Below (w.heap.size + 2) W2 X) => show X.cell? ⟨w.heap.size, 0, none⟩ = some (.slice A t.length c) ∧ X.cell? ⟨w.heap.size + 1, 0, none⟩ = some (.slice none 0 0) ∧ X.frozen? ⟨w.heap.size + 1, 0, none⟩ = false ∧ Bk X (w.heap.size + 1) 30 [.slice none 0 0] ∧ w.heap.size + 2 ≤ X.heap.size ∧ Below w.heap.size w X from
    ⟨(hk0.below hb (by omega)).at_ rfl, (hk1.below hb (by omega)).at_ rfl, (hk1.below hb (by omega)).frozen 0, hk1.below hb (by omega), by have := hb.size; have := HS2.out; omega, HB2.out.trans (hb.mono (by omega))⟩)
  have HK0 := Lib.hid (fun X (hb : Below (w.heap.size + 2) W2 X) => show Bk X w.heap.size 30 [.slice A t.length c] from hk0.below hb (by omega))
  have HX := Lib.hid (fun X (hb : Below w.heap.size w X) e => fresh_exit (g := w.heap.size + 1) h hb (by omega) (.slice A t.length c) [.int .i64 e])
  have HDN := Lib.hid (fun X A9 c9 t9 r9 (hb : Below w.heap.size w X) hr v => fresh_done (F := F) (A := A9) (c := c9) (t := t9) hb hr v r9)
  replace h := h.keep (F' := fun b => F b ∧ b < w.heap.size) (w' := w) ⟨Nat.le_refl _, fun _ _ _ => rfl⟩ fun b hb hl => ⟨hb, hl⟩
  obtain ⟨F1, hF1⟩ : ∃ F1 : Nat → Prop, F1 = fun b => F b ∧ b < w.heap.size := ⟨_, rfl⟩
  have HF1 := Lib.hid hF1
  rw [← hF1] at h
  clear hF1
  have HP := Lib.hid (fun W => show Calls _ _ _ _ (Ans (optV (parentP q)) W) from refParent_any ⟨q.toArray⟩ W hp)
  have HA := Lib.hid (fun W (hb : Below w.heap.size w W) => show Calls _ _ _ _ (Tells (.int .i64 (atI (tAt q t))) W) from refAt_any ⟨q.toArray⟩ A c t F1 W (h.below hb))
  have HKD := Lib.hid (fun W (hb : Below w.heap.size w W) => show Calls _ _ _ _ (FreshT (tKids q t) W) from refKids_any ⟨q.toArray⟩ A c t F1 W (h.below hb) hn hsz)
  have HR := Lib.hid h
  have HWE := Lib.hid hW2
  have HN := Lib.hid hn
  have HB22 := Lib.hid (Below.refl (w.heap.size + 2) W2)
  clear h hk0 hk1 hp hsz hn hW2
  rcases opt_cases (parentP q) with ⟨e, ev⟩ | ⟨up, e, ev⟩
  · have HV := Lib.hid (tDrop_1 (v := v) (t := t) e)
    rw [ev] at HP
    clear e ev
    go_enter Tryz.func18, Tryz.ntmps18
    go_wp2_with fail
    rw [← HWE.out]
    refine (HP.out _).mono ?_
    rintro e w1 ⟨rfl, hb1⟩
    have hbx1 : Below (w.heap.size + 2) W2 w1 := by have := HS2.out; rw [← this]; exact hb1
    clear hb1
    obtain ⟨j0, j1, z1, kb, hs, hbw⟩ := HKW.out w1 hbx1
    go_wp2_with fail
    go_wp2_with fail
    have kk := kb.set 0 (.slice A t.length c)
    refine bodyPost_ret_by (results_row_tmp rfl _ _ (w.heap.size + 1) 30 _ _ rfl kk Tryz.underlying30 rfl info_tree1) rfl ?_
    rw [HV.out]
    exact HX.out _ hbw 90
  · rw [ev] at HP
    cases hat : tAt q t with
    | none =>
      have HV := Lib.hid (tDrop_2 (v := v) e hat)
      rw [hat] at HA
      replace HA := Lib.hid (fun W hb => show Calls _ _ _ _ (Tells (.int .i64 (-1)) W) from HA.out W hb)
      clear e ev hat
      go_enter Tryz.func18, Tryz.ntmps18
      go_wp2_with fail
      rw [← HWE.out]
      refine (HP.out _).mono ?_
      rintro e w1 ⟨rfl, hb1⟩
      have hbx1 : Below (w.heap.size + 2) W2 w1 := by have := HS2.out; rw [← this]; exact hb1
      clear hb1
      obtain ⟨j0, j1, z1, kb, hs, hbw⟩ := HKW.out w1 hbx1
      go_wp2_with fail
      refine (HA.out _ hbw).mono ?_
      rintro e w2 ⟨rfl, hb2⟩
      have hbx2 := below_next hbx1 hb2 (by omega)
      clear hb2
      clear j0 j1 z1 kb hs hbw
      obtain ⟨j0, j1, z1, kb, hs, hbw⟩ := HKW.out w2 hbx2
      go_wp2_with fail
      have kk := kb.set 0 (.slice A t.length c)
      refine bodyPost_ret_by (results_row_tmp rfl _ _ (w.heap.size + 1) 30 _ _ rfl kk Tryz.underlying30 rfl info_tree1) rfl ?_
      rw [HV.out]
      exact HX.out _ hbw 100
    | some k =>
      obtain ⟨a, hka, hpa⟩ := tAt_is hat
      rw [hat] at HA
      replace HA := Lib.hid (fun W hb => show Calls _ _ _ _ (Tells (.int .i64 (k : Int)) W) from HA.out W hb)
      have hkl : k < t.length := (List.getElem?_eq_some_iff.1 hka).1
      obtain ⟨y, PA, PC, rfl, hyb, -, -, u2, -⟩ := HR.out.lf6 hka
      have hkc : t.length ≤ c := HR.out.1
      have hcm : c ≤ maxLen := HR.out.2.1
      have HCW := Lib.hid (fun w' (hb : Below w.heap.size w w') => cell_kept u2 hb)
      have y1 : (0 : Int) ≤ (k : Int) := by omega
      have y2 : (k : Int) < (t.length : Int) := by omega
      have HV0 := Lib.hid (tDrop_3 (v := v) e hat hka)
      clear hyb u2 e hat hka hpa ev
      by_cases hv : 0 ≤ v ∧ a.ver ≠ v
      · have b1 : (a.ver != v) = true := by simpa using hv.2
        have b2 : (0 : Int) ≤ v := hv.1
        have HV := Lib.hid (show tDrop q v t = (t, 102) by have := HV0.out; rw [if_pos hv] at this; exact this)
        clear hv HV0
        go_enter Tryz.func18, Tryz.ntmps18
        go_wp2_with fail
        rw [← HWE.out]
        refine (HP.out _).mono ?_
        rintro e w1 ⟨rfl, hb1⟩
        have hbx1 : Below (w.heap.size + 2) W2 w1 := by have := HS2.out; rw [← this]; exact hb1
        clear hb1
        obtain ⟨j0, j1, z1, kb, hs, hbw⟩ := HKW.out w1 hbx1
        go_wp2_with fail
        refine (HA.out _ hbw).mono ?_
        rintro e w2 ⟨rfl, hb2⟩
        have hbx2 := below_next hbx1 hb2 (by omega)
        clear hb2
        clear j0 j1 z1 kb hs hbw
        obtain ⟨j0, j1, z1, kb, hs, hbw⟩ := HKW.out w2 hbx2
        have u2 := HCW.out w2 hbw
        go_wp2_with fail
        have kk := kb.set 0 (.slice (some y) t.length c)
        refine bodyPost_ret_by (results_row_tmp rfl _ _ (w.heap.size + 1) 30 _ _ rfl kk Tryz.underlying30 rfl info_tree1) rfl ?_
        rw [HV.out]
        exact HX.out _ hbw 102
      have HV1 := HV0.out
      rw [if_neg hv] at HV1
      replace HV0 := Lib.hid HV1
      clear HV1
      by_cases hks : tKids q t = []
      rotate_left
      · have HV := Lib.hid (show tDrop q v t = (t, 103) by have := HV0.out; rw [if_pos hks] at this; exact this)
        have HNK := Lib.hid (show 0 < (tKids q t).length from List.length_pos_iff.2 hks)
        clear HV0 hks
        by_cases hv0 : 0 ≤ v
        · have b1 : (a.ver != v) = false := by simp; omega
          clear hv
          go_enter Tryz.func18, Tryz.ntmps18
          go_wp2_with fail
          rw [← HWE.out]
          refine (HP.out _).mono ?_
          rintro e w1 ⟨rfl, hb1⟩
          have hbx1 : Below (w.heap.size + 2) W2 w1 := by have := HS2.out; rw [← this]; exact hb1
          clear hb1
          obtain ⟨j0, j1, z1, kb, hs, hbw⟩ := HKW.out w1 hbx1
          go_wp2_with fail
          refine (HA.out _ hbw).mono ?_
          rintro e w2 ⟨rfl, hb2⟩
          have hbx2 := below_next hbx1 hb2 (by omega)
          clear hb2
          clear j0 j1 z1 kb hs hbw
          obtain ⟨j0, j1, z1, kb, hs, hbw⟩ := HKW.out w2 hbx2
          have u2 := HCW.out w2 hbw
          go_wp2_with fail
          refine (HKD.out _ hbw).mono ?_
          rintro e w3 ⟨A3, n3, c3, rfl, ho3, hb3⟩
          have HN3 := Lib.hid ho3.len
          have hbx3 := below_next hbx2 hb3 (by omega)
          clear hb3 ho3 u2
          clear j0 j1 z1 kb hs hbw
          obtain ⟨j0, j1, z1, kb, hs, hbw⟩ := HKW.out w3 hbx3
          have y7 : (0 : Int) < (n3 : Int) := by have := HN3.out; have := HNK.out; omega
          go_wp2_with fail
          have kk := kb.set 0 (.slice (some y) t.length c)
          refine bodyPost_ret_by (results_row_tmp rfl _ _ (w.heap.size + 1) 30 _ _ rfl kk Tryz.underlying30 rfl info_tree1) rfl ?_
          rw [HV.out]
          exact HX.out _ hbw 103
        · clear hv
          go_enter Tryz.func18, Tryz.ntmps18
          go_wp2_with fail
          rw [← HWE.out]
          refine (HP.out _).mono ?_
          rintro e w1 ⟨rfl, hb1⟩
          have hbx1 : Below (w.heap.size + 2) W2 w1 := by have := HS2.out; rw [← this]; exact hb1
          clear hb1
          obtain ⟨j0, j1, z1, kb, hs, hbw⟩ := HKW.out w1 hbx1
          go_wp2_with fail
          refine (HA.out _ hbw).mono ?_
          rintro e w2 ⟨rfl, hb2⟩
          have hbx2 := below_next hbx1 hb2 (by omega)
          clear hb2
          clear j0 j1 z1 kb hs hbw
          obtain ⟨j0, j1, z1, kb, hs, hbw⟩ := HKW.out w2 hbx2
          have u2 := HCW.out w2 hbw
          go_wp2_with fail
          refine (HKD.out _ hbw).mono ?_
          rintro e w3 ⟨A3, n3, c3, rfl, ho3, hb3⟩
          have HN3 := Lib.hid ho3.len
          have hbx3 := below_next hbx2 hb3 (by omega)
          clear hb3 ho3 u2
          clear j0 j1 z1 kb hs hbw
          obtain ⟨j0, j1, z1, kb, hs, hbw⟩ := HKW.out w3 hbx3
          have y7 : (0 : Int) < (n3 : Int) := by have := HN3.out; have := HNK.out; omega
          go_wp2_with fail
          have kk := kb.set 0 (.slice (some y) t.length c)
          refine bodyPost_ret_by (results_row_tmp rfl _ _ (w.heap.size + 1) 30 _ _ rfl kk Tryz.underlying30 rfl info_tree1) rfl ?_
          rw [HV.out]
          exact HX.out _ hbw 103
      have HV := Lib.hid (show tDrop q v t = (t.take k ++ t.drop (k + 1), 0) by have := HV0.out; rw [if_neg (by simpa using hks)] at this; exact this)
      have HNK := Lib.hid hks
      clear HV0 hks
      by_cases hv0 : 0 ≤ v
      · have b1 : (a.ver != v) = false := by simp; omega
        clear hv
        go_enter Tryz.func18, Tryz.ntmps18
        go_wp2_with fail
        rw [← HWE.out]
        refine (HP.out _).mono ?_
        rintro e w1 ⟨rfl, hb1⟩
        have hbx1 : Below (w.heap.size + 2) W2 w1 := by have := HS2.out; rw [← this]; exact hb1
        clear hb1
        obtain ⟨j0, j1, z1, kb, hs, hbw⟩ := HKW.out w1 hbx1
        go_wp2_with fail
        refine (HA.out _ hbw).mono ?_
        rintro e w2 ⟨rfl, hb2⟩
        have hbx2 := below_next hbx1 hb2 (by omega)
        clear hb2
        clear j0 j1 z1 kb hs hbw
        obtain ⟨j0, j1, z1, kb, hs, hbw⟩ := HKW.out w2 hbx2
        have u2 := HCW.out w2 hbw
        go_wp2_with fail
        refine (HKD.out _ hbw).mono ?_
        rintro e w3 ⟨A3, n3, c3, rfl, ho3, hb3⟩
        have HN3 := Lib.hid ho3.len
        have hbx3 := below_next hbx2 hb3 (by omega)
        clear hb3 ho3 u2
        clear j0 j1 z1 kb hs hbw
        obtain ⟨j0, j1, z1, kb, hs, hbw⟩ := HKW.out w3 hbx3
        have y7 : ¬ (0 : Int) < (n3 : Int) := by have := HN3.out; rw [HNK.out] at this; simp at this; omega
        have HS3 := Lib.hid hs
        have HBX3 := Lib.hid hbx3
        have hbE := hbx3.alloc hs (.cells #[] 50)
        have HSE := Lib.hid (show (w3.alloc (.cells #[] 50)).heap.size = w3.heap.size + 1 by simp)
        clear hbx3
        clear j0 j1 z1 kb hs hbw
        obtain ⟨j0, j1, z1, kb, hs, hbw⟩ := HKW.out _ hbE
        have HBE := Lib.hid hbE
        have HBWE := Lib.hid hbw
        have HOE := Lib.hid (World.ownsRow_made (base := w3.heap.size) (e := 50) (size := 6) w3 #[] 0 (Nat.le_refl _) (by simp [maxLen]) (by simp))
        obtain ⟨css, hcl, hc6, hcc, hcr⟩ := HR.out.cells6
        have HCL := Lib.hid hcl
        have HC6 := Lib.hid hc6
        have HCC := Lib.hid (fun X (hX : Below w.heap.size w X) j u (hj : css.flatten[j]? = some u) => cell_kept (hcc j u hj) hX)
        have HCR := Lib.hid hcr
        have HO1 := Lib.hid (one_cells6 hcl hcr)
        obtain ⟨i0, hi, hz0, hz1, hz2⟩ := info_parts info_leaf
        have HNL := Lib.hid HN.out
        have sl1 := fun X => slice_fr (some y) t.length c k (by omega) hcm X
        have sl2 := fun X => slice_bk y t.length c (k + 1) (by omega) hkc hcm X
        have y8 : ((k + 1 : Nat) : Int) = (k : Int) + 1 := by omega
        rw [y8] at sl2
        have yn : t.length ≤ 1000 := HNL.out
        have HCM := Lib.hid hcm
        have HKL := Lib.hid hkl
        clear hcl hc6 hcc hcr hbE
        have A1 := Lib.hid (show (css.take k).flatten.length = k * 6 by
          rw [flat_len6 (fun cs hc => HC6.out cs (List.mem_of_mem_take hc)), List.length_take, HCL.out, Nat.min_eq_left (Nat.le_of_lt HKL.out)])
        have A2 := Lib.hid (show ∀ (j : Nat) u, (css.take k).flatten[j]? = some u → (w3.alloc (.cells #[] 50)).cell? (y.add j) = some u from fun j u hj => HCC.out _ HBWE.out j u (flat_take k hj))
        have A3 := Lib.hid (show ∀ u ∈ (css.take k).flatten, u.oneCell' = true from fun u hu => HO1.out u (by rw [← List.take_append_drop k css, List.flatten_append]; exact List.mem_append_left _ hu))
        have A4 := Lib.hid (show 0 + k ≤ maxLen by have := HKL.out; have := HNL.out; simp only [maxLen]; omega)
        have A5 := Lib.hid (show (0 + k) * 72 ≤ 140737488355328 by have := HKL.out; have := HNL.out; omega)
        have A6 := Lib.hid (show w3.heap.size ≤ (w3.alloc (.cells #[] 50)).heap.size by rw [HSE.out]; omega)
        obtain ⟨y5, hy5⟩ : ∃ z, z = (if c = k + 1 then y else y.add ((k + 1) * 6)) := ⟨_, rfl⟩
        obtain ⟨m, hm⟩ : ∃ m, m = t.length - (k + 1) := ⟨_, rfl⟩
        rw [← hy5, ← hm] at sl2
        have HM := Lib.hid hm
        have D1 := Lib.hid (show (css.drop (k + 1)).flatten.length = m * 6 by
          rw [flat_len6 (fun cs hc => HC6.out cs (List.mem_of_mem_drop hc)), List.length_drop, HCL.out, hm])
        have D2 := Lib.hid (show ∀ X, Below w.heap.size w X → ∀ (j : Nat) u, (css.drop (k + 1)).flatten[j]? = some u → X.cell? (y5.add j) = some u from fun X hX j u hj => by
          rw [hy5]
          by_cases hc : c = k + 1
          · have h0 : (css.drop (k + 1)).flatten.length = 0 := by rw [D1.out, hm]; omega
            have := (List.getElem?_eq_some_iff.1 hj).1
            omega
          · rw [if_neg hc, add_plus]
            exact HCC.out X hX _ u (flat_drop HC6.out (by rw [HCL.out]; exact HKL.out) hj))
        have D3 := Lib.hid (show ∀ u ∈ (css.drop (k + 1)).flatten, u.oneCell' = true from fun u hu => HO1.out u (by rw [← List.take_append_drop (k + 1) css, List.flatten_append]; exact List.mem_append_right _ hu))
        have D4 := Lib.hid (show 0 + k + m ≤ maxLen by have := HKL.out; have := HNL.out; simp only [maxLen]; omega)
        have D5 := Lib.hid (show (0 + k + m) * 72 ≤ 140737488355328 by have := HKL.out; have := HNL.out; omega)
        have D6 := Lib.hid (show 0 + k + m = t.length - 1 by have := HKL.out; omega)
        have HS33 := Lib.hid HS3.out
        clear hm hy5
        go_wp2_with (first
          | (at_builtin
             refine wpList_append_own_at _ rfl _ _ 28 rfl w3.heap.size 50 i0 _ 6 72 Tryz.underlying28 hi hz0 hz1 hz2 rfl (by omega) (.slice (some ⟨w3.heap.size, 0, none⟩) 0 0) 0 [] rfl HOE.out y k c (css.take k).flatten rfl A1.out A2.out A3.out A4.out A5.out A6.out ?_
             intro v5 w5 hown5 hg5 hnil5 hrow5
             have HO5 := Lib.hid hown5
             have hbx5 : Below (w.heap.size + 2) W2 w5 := HBE.out.grown hg5 (by have h1 := HBE.out.size; have h2 := HS2.out; omega) (fun g hg => by have hg2 : some w3.heap.size = some g := hg; injection hg2 with hg2; have := HS33.out; omega)
             have HBX5 := Lib.hid hbx5
             have HS5 := Lib.hid (show w3.heap.size ≤ w5.heap.size from Nat.le_trans A6.out hg5.size)
             clear j0 j1 z1 kb hs hbw
             obtain ⟨j0, j1, z1, kb, hs, hbw⟩ := HKW.out w5 hbx5
             have HBW5 := Lib.hid hbw
             clear hown5 hg5 hnil5 hrow5 hbx5 j1 z1 kb hs hbw)
          | (at_builtin
             refine wpList_append_own_at _ rfl _ _ 28 rfl w3.heap.size 50 i0 _ 6 72 Tryz.underlying28 hi hz0 hz1 hz2 rfl (by omega) v5 (0 + k) ([] ++ (css.take k).flatten) rfl HO5.out y5 m (c - (k + 1)) (css.drop (k + 1)).flatten rfl D1.out (D2.out w5 HBW5.out) D3.out D4.out D5.out HS5.out ?_
             intro v6 w6 hown6 hg6 hnil6 hrow6
             obtain ⟨A6', c6, rfl⟩ := own_form hown6
             have HO6 := Lib.hid hown6
             have hbx6 : Below (w.heap.size + 2) W2 w6 := HBX5.out.grown hg6 (by have h1 := HBX5.out.size; have h2 := HS2.out; omega) (fun g hg => by have h1 := (World.ownsRow.lt HO5.out g hg).1; have := HS33.out; omega)
             have HBX6 := Lib.hid hbx6
             obtain ⟨i0', j1, z1, kb, hs, hbw⟩ := HKW.out w6 hbx6
             have z0 := (HK0.out w6 hbx6).frozen 0
             have HBW6 := Lib.hid hbw
             have HK6 := Lib.hid kb
             clear hown6 hg6 hnil6 hrow6 hbx6 kb hs hbw j0))
        have HO7 := Lib.hid (show w6.ownsRow w3.heap.size 50 6 (.slice A6' (k + m) c6) (k + m) ((css.take k).flatten ++ (css.drop (k + 1)).flatten) by have := HO6.out; simpa using this)
        have hll : (t.take k ++ t.drop (k + 1)).length = k + m := by have h1 := HM.out; have h2 := HKL.out; simp [List.length_take, List.length_drop]; omega
        have hr := own_cut (F := F1) (G := fun b => (F b ∧ b < w.heap.size) ∨ w.heap.size + 2 ≤ b) HCL.out HKL.out HCR.out HBW6.out (base := w3.heap.size) (fun b hb => by rw [HF1.out] at hb; have h1 := hb.2; have h2 := HS33.out; omega) (fun b hb => by rw [HF1.out] at hb; exact .inl hb) (fun b hb => .inr (by have := HS33.out; omega)) (by have := D6.out; omega) HO7.out
        have g0 := grown_set (grown_refl w6 (some w.heap.size)) 0 (Value.slice A6' (k + m) c6)
        have hX7 : Below w.heap.size w (w6.setCell ⟨w.heap.size, 0, none⟩ (.slice A6' (k + m) c6)) := HBW6.out.grown g0 HBW6.out.size (fun g hg => by injection hg with hg; omega)
        have hr7 := hr.keep (F' := fun b => (F b ∧ b < w.heap.size) ∨ w.heap.size + 2 ≤ b) (Kp.of_grown g0 fun b hb e => by injection e with e; omega) fun b hb _ => hb
        have kk := (HK6.out.far (p := ⟨w.heap.size, 0, none⟩) (by simp) (Value.slice A6' (k + m) c6)).set 0 (.slice A6' (k + m) c6)
        refine bodyPost_ret_by (results_row_tmp rfl _ _ (w.heap.size + 1) 30 _ _ rfl kk Tryz.underlying30 rfl info_tree1) rfl ?_
        rw [HV.out]
        have hd := HDN.out _ A6' c6 (t.take k ++ t.drop (k + 1)) [.int .i64 0] hX7 hr7 (.slice A6' (k + m) c6)
        rw [hll] at hd
        exact hd
      · clear hv
        go_enter Tryz.func18, Tryz.ntmps18
        go_wp2_with fail
        rw [← HWE.out]
        refine (HP.out _).mono ?_
        rintro e w1 ⟨rfl, hb1⟩
        have hbx1 : Below (w.heap.size + 2) W2 w1 := by have := HS2.out; rw [← this]; exact hb1
        clear hb1
        obtain ⟨j0, j1, z1, kb, hs, hbw⟩ := HKW.out w1 hbx1
        go_wp2_with fail
        refine (HA.out _ hbw).mono ?_
        rintro e w2 ⟨rfl, hb2⟩
        have hbx2 := below_next hbx1 hb2 (by omega)
        clear hb2
        clear j0 j1 z1 kb hs hbw
        obtain ⟨j0, j1, z1, kb, hs, hbw⟩ := HKW.out w2 hbx2
        have u2 := HCW.out w2 hbw
        go_wp2_with fail
        refine (HKD.out _ hbw).mono ?_
        rintro e w3 ⟨A3, n3, c3, rfl, ho3, hb3⟩
        have HN3 := Lib.hid ho3.len
        have hbx3 := below_next hbx2 hb3 (by omega)
        clear hb3 ho3 u2
        clear j0 j1 z1 kb hs hbw
        obtain ⟨j0, j1, z1, kb, hs, hbw⟩ := HKW.out w3 hbx3
        have y7 : ¬ (0 : Int) < (n3 : Int) := by have := HN3.out; rw [HNK.out] at this; simp at this; omega
        have HS3 := Lib.hid hs
        have HBX3 := Lib.hid hbx3
        have hbE := hbx3.alloc hs (.cells #[] 50)
        have HSE := Lib.hid (show (w3.alloc (.cells #[] 50)).heap.size = w3.heap.size + 1 by simp)
        clear hbx3
        clear j0 j1 z1 kb hs hbw
        obtain ⟨j0, j1, z1, kb, hs, hbw⟩ := HKW.out _ hbE
        have HBE := Lib.hid hbE
        have HBWE := Lib.hid hbw
        have HOE := Lib.hid (World.ownsRow_made (base := w3.heap.size) (e := 50) (size := 6) w3 #[] 0 (Nat.le_refl _) (by simp [maxLen]) (by simp))
        obtain ⟨css, hcl, hc6, hcc, hcr⟩ := HR.out.cells6
        have HCL := Lib.hid hcl
        have HC6 := Lib.hid hc6
        have HCC := Lib.hid (fun X (hX : Below w.heap.size w X) j u (hj : css.flatten[j]? = some u) => cell_kept (hcc j u hj) hX)
        have HCR := Lib.hid hcr
        have HO1 := Lib.hid (one_cells6 hcl hcr)
        obtain ⟨i0, hi, hz0, hz1, hz2⟩ := info_parts info_leaf
        have HNL := Lib.hid HN.out
        have sl1 := fun X => slice_fr (some y) t.length c k (by omega) hcm X
        have sl2 := fun X => slice_bk y t.length c (k + 1) (by omega) hkc hcm X
        have y8 : ((k + 1 : Nat) : Int) = (k : Int) + 1 := by omega
        rw [y8] at sl2
        have yn : t.length ≤ 1000 := HNL.out
        have HCM := Lib.hid hcm
        have HKL := Lib.hid hkl
        clear hcl hc6 hcc hcr hbE
        have A1 := Lib.hid (show (css.take k).flatten.length = k * 6 by
          rw [flat_len6 (fun cs hc => HC6.out cs (List.mem_of_mem_take hc)), List.length_take, HCL.out, Nat.min_eq_left (Nat.le_of_lt HKL.out)])
        have A2 := Lib.hid (show ∀ (j : Nat) u, (css.take k).flatten[j]? = some u → (w3.alloc (.cells #[] 50)).cell? (y.add j) = some u from fun j u hj => HCC.out _ HBWE.out j u (flat_take k hj))
        have A3 := Lib.hid (show ∀ u ∈ (css.take k).flatten, u.oneCell' = true from fun u hu => HO1.out u (by rw [← List.take_append_drop k css, List.flatten_append]; exact List.mem_append_left _ hu))
        have A4 := Lib.hid (show 0 + k ≤ maxLen by have := HKL.out; have := HNL.out; simp only [maxLen]; omega)
        have A5 := Lib.hid (show (0 + k) * 72 ≤ 140737488355328 by have := HKL.out; have := HNL.out; omega)
        have A6 := Lib.hid (show w3.heap.size ≤ (w3.alloc (.cells #[] 50)).heap.size by rw [HSE.out]; omega)
        obtain ⟨y5, hy5⟩ : ∃ z, z = (if c = k + 1 then y else y.add ((k + 1) * 6)) := ⟨_, rfl⟩
        obtain ⟨m, hm⟩ : ∃ m, m = t.length - (k + 1) := ⟨_, rfl⟩
        rw [← hy5, ← hm] at sl2
        have HM := Lib.hid hm
        have D1 := Lib.hid (show (css.drop (k + 1)).flatten.length = m * 6 by
          rw [flat_len6 (fun cs hc => HC6.out cs (List.mem_of_mem_drop hc)), List.length_drop, HCL.out, hm])
        have D2 := Lib.hid (show ∀ X, Below w.heap.size w X → ∀ (j : Nat) u, (css.drop (k + 1)).flatten[j]? = some u → X.cell? (y5.add j) = some u from fun X hX j u hj => by
          rw [hy5]
          by_cases hc : c = k + 1
          · have h0 : (css.drop (k + 1)).flatten.length = 0 := by rw [D1.out, hm]; omega
            have := (List.getElem?_eq_some_iff.1 hj).1
            omega
          · rw [if_neg hc, add_plus]
            exact HCC.out X hX _ u (flat_drop HC6.out (by rw [HCL.out]; exact HKL.out) hj))
        have D3 := Lib.hid (show ∀ u ∈ (css.drop (k + 1)).flatten, u.oneCell' = true from fun u hu => HO1.out u (by rw [← List.take_append_drop (k + 1) css, List.flatten_append]; exact List.mem_append_right _ hu))
        have D4 := Lib.hid (show 0 + k + m ≤ maxLen by have := HKL.out; have := HNL.out; simp only [maxLen]; omega)
        have D5 := Lib.hid (show (0 + k + m) * 72 ≤ 140737488355328 by have := HKL.out; have := HNL.out; omega)
        have D6 := Lib.hid (show 0 + k + m = t.length - 1 by have := HKL.out; omega)
        have HS33 := Lib.hid HS3.out
        clear hm hy5
        go_wp2_with (first
          | (at_builtin
             refine wpList_append_own_at _ rfl _ _ 28 rfl w3.heap.size 50 i0 _ 6 72 Tryz.underlying28 hi hz0 hz1 hz2 rfl (by omega) (.slice (some ⟨w3.heap.size, 0, none⟩) 0 0) 0 [] rfl HOE.out y k c (css.take k).flatten rfl A1.out A2.out A3.out A4.out A5.out A6.out ?_
             intro v5 w5 hown5 hg5 hnil5 hrow5
             have HO5 := Lib.hid hown5
             have hbx5 : Below (w.heap.size + 2) W2 w5 := HBE.out.grown hg5 (by have h1 := HBE.out.size; have h2 := HS2.out; omega) (fun g hg => by have hg2 : some w3.heap.size = some g := hg; injection hg2 with hg2; have := HS33.out; omega)
             have HBX5 := Lib.hid hbx5
             have HS5 := Lib.hid (show w3.heap.size ≤ w5.heap.size from Nat.le_trans A6.out hg5.size)
             clear j0 j1 z1 kb hs hbw
             obtain ⟨j0, j1, z1, kb, hs, hbw⟩ := HKW.out w5 hbx5
             have HBW5 := Lib.hid hbw
             clear hown5 hg5 hnil5 hrow5 hbx5 j1 z1 kb hs hbw)
          | (at_builtin
             refine wpList_append_own_at _ rfl _ _ 28 rfl w3.heap.size 50 i0 _ 6 72 Tryz.underlying28 hi hz0 hz1 hz2 rfl (by omega) v5 (0 + k) ([] ++ (css.take k).flatten) rfl HO5.out y5 m (c - (k + 1)) (css.drop (k + 1)).flatten rfl D1.out (D2.out w5 HBW5.out) D3.out D4.out D5.out HS5.out ?_
             intro v6 w6 hown6 hg6 hnil6 hrow6
             obtain ⟨A6', c6, rfl⟩ := own_form hown6
             have HO6 := Lib.hid hown6
             have hbx6 : Below (w.heap.size + 2) W2 w6 := HBX5.out.grown hg6 (by have h1 := HBX5.out.size; have h2 := HS2.out; omega) (fun g hg => by have h1 := (World.ownsRow.lt HO5.out g hg).1; have := HS33.out; omega)
             have HBX6 := Lib.hid hbx6
             obtain ⟨i0', j1, z1, kb, hs, hbw⟩ := HKW.out w6 hbx6
             have z0 := (HK0.out w6 hbx6).frozen 0
             have HBW6 := Lib.hid hbw
             have HK6 := Lib.hid kb
             clear hown6 hg6 hnil6 hrow6 hbx6 kb hs hbw j0))
        have HO7 := Lib.hid (show w6.ownsRow w3.heap.size 50 6 (.slice A6' (k + m) c6) (k + m) ((css.take k).flatten ++ (css.drop (k + 1)).flatten) by have := HO6.out; simpa using this)
        have hll : (t.take k ++ t.drop (k + 1)).length = k + m := by have h1 := HM.out; have h2 := HKL.out; simp [List.length_take, List.length_drop]; omega
        have hr := own_cut (F := F1) (G := fun b => (F b ∧ b < w.heap.size) ∨ w.heap.size + 2 ≤ b) HCL.out HKL.out HCR.out HBW6.out (base := w3.heap.size) (fun b hb => by rw [HF1.out] at hb; have h1 := hb.2; have h2 := HS33.out; omega) (fun b hb => by rw [HF1.out] at hb; exact .inl hb) (fun b hb => .inr (by have := HS33.out; omega)) (by have := D6.out; omega) HO7.out
        have g0 := grown_set (grown_refl w6 (some w.heap.size)) 0 (Value.slice A6' (k + m) c6)
        have hX7 : Below w.heap.size w (w6.setCell ⟨w.heap.size, 0, none⟩ (.slice A6' (k + m) c6)) := HBW6.out.grown g0 HBW6.out.size (fun g hg => by injection hg with hg; omega)
        have hr7 := hr.keep (F' := fun b => (F b ∧ b < w.heap.size) ∨ w.heap.size + 2 ≤ b) (Kp.of_grown g0 fun b hb e => by injection e with e; omega) fun b hb _ => hb
        have kk := (HK6.out.far (p := ⟨w.heap.size, 0, none⟩) (by simp) (Value.slice A6' (k + m) c6)).set 0 (.slice A6' (k + m) c6)
        refine bodyPost_ret_by (results_row_tmp rfl _ _ (w.heap.size + 1) 30 _ _ rfl kk Tryz.underlying30 rfl info_tree1) rfl ?_
        rw [HV.out]
        have hd := HDN.out _ A6' c6 (t.take k ++ t.drop (k + 1)) [.int .i64 0] hX7 hr7 (.slice A6' (k + m) c6)
        rw [hll] at hd
        exact hd
end Go.Proofs.YtgppclmofphlfaaGreatDoor
