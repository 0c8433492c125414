/-
  The reference's Set. Walks; no statement.
-/
import Derived.Test.YtgppclmofphlfaaGreatDoorTreeRef12
import Derived.Test.YtgppclmofphlfaaGreatDoorMPathR
import Derived.Test.YtgppclmofphlfaaGreatDoorMTreeE
import Derived.Deep.RegionHeld
namespace Go.Proofs.YtgppclmofphlfaaGreatDoor
set_option maxRecDepth 100000
open Go.RowKit
set_option linter.unusedVariables false
set_option maxRecDepth 100000

theorem results_ints2 {P : Program} {fn : Func} {p u v : Tmp} {ty : TypeId} (h : fn.results = #[.cell p ty, .tmp u, .tmp v]) (tmps : Array Value) (w : World) (g : Nat) (t : TypeId) (cs : List Value) (d : TypeDesc)
    (hp : tmps.getD p undef = .pointer (some ⟨g, 0, none⟩)) (hg : Bk w g t cs)
    (hu : P.underlying ty = some d) (hd : (match d with | .struct _ | .array _ _ => true | _ => false) = true) (hi : (P.info? ty).map (·.size) = some cs.toArray.size) :
    (results fn tmps).run P w = .ok (.tuple #[.agg cs.toArray, tmps.getD u undef, tmps.getD v undef]) w := results_tree2 h tmps w g t cs d hp hg hu hd hi
theorem tSet_1 {q data : List UInt8} {v : Int} {t : List Lf} (h : partsOf q = none) : tSet q data v t = (t, 0, 90) := by unfold tSet; rw [if_pos h]
theorem tSet_2 {q data : List UInt8} {v : Int} {t : List Lf} {up : List (List UInt8)} (h : partsOf q = some up) (ha : tAt q t = none) : tSet q data v t = (t, 0, 100) := by unfold tSet; rw [if_neg (by rw [h]; simp), ha]
theorem tSet_3 {q data : List UInt8} {v : Int} {t : List Lf} {up : List (List UInt8)} {k : Nat} {a : Lf} (h : partsOf q = some up) (ha : tAt q t = some k) (hk : t[k]? = some a) : tSet q data v t =
    if 0 ≤ v ∧ a.ver ≠ v then (t, 0, 102) else if data.length > 128 then (t, 0, 104) else
    (tWith { a with data := data, ver := IntKind.i64.wrap (a.ver + 1) } t, IntKind.i64.wrap (a.ver + 1), 0) := by
  have hg : t.getD k lfRoot = a := getD_of hk
  unfold tSet; rw [if_neg (by rw [h]; simp), ha]; simp only [hg]
theorem cell_far {w : World} {p : Addr} {v u : Value} {b : Nat} (h : w.cell? p = some v) (hne : p.block ≠ b) : (w.setCell ⟨b, 0, none⟩ u).cell? p = some v := by
  have g1 := grown_set (grown_refl w (some b)) 0 u
  have hk : Kp (fun k => k = p.block) w (w.setCell ⟨b, 0, none⟩ u) := Kp.of_grown g1 fun k hk e => by injection e with e; exact hne (hk.symm.trans e)
  rw [World.cell?_of_block (w := w) (hk.blk p.block rfl (World.block_lt_of_cell? _ _ h))]
  exact h
theorem info_bytes1' : (Tryz.prog.info? 32).map (·.size) = some 1 := by kernel_rfl
theorem info_int1' : (Tryz.prog.info? 3).map (·.size) = some 1 := by kernel_rfl
set_option maxHeartbeats 12800000 in
theorem refSet_any (p : ByteArray) (DA : Option Addr) (DC : Nat) (data : List UInt8) (v : Int) (A : Option Addr) (c : Nat) (t : List Lf) (F G : Nat → Prop) (w : World)
    (hp : p.size ≤ maxLen) (h : RdS RLf F w A c t) (hd : BF G w DA DC data) (hdl : data.length ≤ 140737488355328) (hn : t.length ≤ 1000) :
    Calls Tryz.prog 20 #[.agg #[.slice A t.length c], .string p, .slice DA data.length DC, .int .i64 v] w (FreshRf F (tSet p.data.toList data v t).1 [.int .i64 (tSet p.data.toList data v t).2.1, .int .i64 (tSet p.data.toList data v t).2.2] w) := by
  obtain ⟨q, rfl⟩ : ∃ l : List UInt8, p = ⟨l.toArray⟩ := ⟨p.data.toList, (sv_of p).symm⟩
  show Calls _ _ _ _ (FreshRf F (tSet q data v t).1 [.int .i64 (tSet q data v t).2.1, .int .i64 (tSet q data v t).2.2] w)
  obtain ⟨W2, hW2⟩ : ∃ W2, W2 = (w.alloc (.cells #[.slice A t.length c] 30)).alloc (.cells #[.slice none 0 0] 30) := ⟨_, rfl⟩
  have HB2 := Lib.hid (show Below w.heap.size w W2 by rw [hW2]; exact ((Below.refl w.heap.size w).alloc (Nat.le_refl _) _).alloc (by simp) _)
  have HS2 := Lib.hid (show W2.heap.size = w.heap.size + 2 by rw [hW2]; simp)
  have hk0 : Bk W2 w.heap.size 30 [.slice A t.length c] := by rw [hW2]; exact (Bk.new w 30 [.slice A t.length c]).alloc _
  have hk1 : Bk W2 (w.heap.size + 1) 30 [.slice none 0 0] := by
    rw [hW2]
    have := Bk.new (w.alloc (.cells #[.slice A t.length c] 30)) 30 [.slice none 0 0]
    rw [show (w.alloc (.cells #[.slice A t.length c] 30)).heap.size = w.heap.size + 1 by simp] at this
    exact this
  have HKW := Lib.hid (fun X (hb : Below (w.heap.size + 2) W2 X) => show X.cell? ⟨w.heap.size, 0, none⟩ = some (.slice A t.length c) ∧ X.cell? ⟨w.heap.size + 1, 0, none⟩ = some (.slice none 0 0) ∧ X.frozen? ⟨w.heap.size + 1, 0, none⟩ = false ∧ Bk X (w.heap.size + 1) 30 [.slice none 0 0] ∧ w.heap.size + 2 ≤ X.heap.size ∧ Below w.heap.size w X from
    ⟨(hk0.below hb (by omega)).at_ rfl, (hk1.below hb (by omega)).at_ rfl, (hk1.below hb (by omega)).frozen 0, hk1.below hb (by omega), by have := hb.size; have := HS2.out; omega, HB2.out.trans (hb.mono (by omega))⟩)
  have HX := Lib.hid (fun X (hb : Below w.heap.size w X) e => fresh_exit (g := w.heap.size + 1) h hb (by omega) (.slice A t.length c) [.int .i64 0, .int .i64 e])
  have HDN := Lib.hid (fun X A9 c9 t9 r9 (hb : Below w.heap.size w X) hr v => fresh_done (F := F) (A := A9) (c := c9) (t := t9) hb hr v r9)
  replace h := h.keep (F' := fun b => F b ∧ b < w.heap.size) (w' := w) ⟨Nat.le_refl _, fun _ _ _ => rfl⟩ fun b hb hl => ⟨hb, hl⟩
  obtain ⟨F1, hF1⟩ : ∃ F1 : Nat → Prop, F1 = fun b => F b ∧ b < w.heap.size := ⟨_, rfl⟩
  have HF1 := Lib.hid hF1
  rw [← hF1] at h
  clear hF1
  have HC := Lib.hid (fun W => refCheck_any ⟨q.toArray⟩ W hp)
  have HA := Lib.hid (fun W (hb : Below w.heap.size w W) => show Calls _ _ _ _ (Tells (.int .i64 (atI (tAt q t))) W) from refAt_any ⟨q.toArray⟩ A c t F1 W (h.below hb))
  have HR := Lib.hid h
  have HD := Lib.hid hd
  have HDL := Lib.hid hdl
  have HWE := Lib.hid hW2
  have HB22 := Lib.hid (Below.refl (w.heap.size + 2) W2)
  clear h hd hk0 hk1 hp hdl hW2
  rcases Option.eq_none_or_eq_some (partsOf q) with e | ⟨up, e⟩
  · have HV := Lib.hid (tSet_1 (data := data) (v := v) (t := t) e)
    replace HC := Lib.hid (fun W => show Calls _ _ _ _ (Ans (.int .i64 90) W) by have := HC.out W; rw [show (⟨q.toArray⟩ : ByteArray).data.toList = q from rfl, e] at this; exact this)
    clear e
    go_enter Tryz.func20, Tryz.ntmps20
    go_wp2_with fail
    rw [← HWE.out]
    refine (HC.out _).mono ?_
    rintro e w1 ⟨rfl, hb1⟩
    have hbx1 : Below (w.heap.size + 2) W2 w1 := by have := HS2.out; rw [← this]; exact hb1
    clear hb1
    obtain ⟨j0, j1, z1, kb, hs, hbw⟩ := HKW.out w1 hbx1
    go_wp2_with fail
    have kk := kb.set 0 (.slice A t.length c)
    refine bodyPost_ret_by (results_ints2 rfl _ _ (w.heap.size + 1) 30 _ _ rfl kk Tryz.underlying30 rfl info_tree1) rfl ?_
    rw [HV.out]
    exact HX.out _ hbw 90
  · replace HC := Lib.hid (fun W => show Calls _ _ _ _ (Ans (.int .i64 0) W) by have := HC.out W; rw [show (⟨q.toArray⟩ : ByteArray).data.toList = q from rfl, e] at this; exact this)
    cases hat : tAt q t with
    | none =>
      have HV := Lib.hid (tSet_2 (data := data) (v := v) e hat)
      rw [hat] at HA
      replace HA := Lib.hid (fun W hb => show Calls _ _ _ _ (Tells (.int .i64 (-1)) W) from HA.out W hb)
      clear e hat
      go_enter Tryz.func20, Tryz.ntmps20
      go_wp2_with fail
      rw [← HWE.out]
      refine (HC.out _).mono ?_
      rintro e w1 ⟨rfl, hb1⟩
      have hbx1 : Below (w.heap.size + 2) W2 w1 := by have := HS2.out; rw [← this]; exact hb1
      clear hb1
      obtain ⟨j0, j1, z1, kb, hs, hbw⟩ := HKW.out w1 hbx1
      go_wp2_with fail
      refine (HA.out _ hbw).mono ?_
      rintro e w2 ⟨rfl, hb2⟩
      have hbx2 := below_next hbx1 hb2 (by omega)
      clear hb2
      clear j0 j1 z1 kb hs hbw
      obtain ⟨j0, j1, z1, kb, hs, hbw⟩ := HKW.out w2 hbx2
      go_wp2_with fail
      have kk := kb.set 0 (.slice A t.length c)
      refine bodyPost_ret_by (results_ints2 rfl _ _ (w.heap.size + 1) 30 _ _ rfl kk Tryz.underlying30 rfl info_tree1) rfl ?_
      rw [HV.out]
      exact HX.out _ hbw 100
    | some k =>
      obtain ⟨a, hka, hpa⟩ := tAt_is hat
      rw [hat] at HA
      replace HA := Lib.hid (fun W hb => show Calls _ _ _ _ (Tells (.int .i64 (k : Int)) W) from HA.out W hb)
      have hkl : k < t.length := (List.getElem?_eq_some_iff.1 hka).1
      obtain ⟨y, PA, PC, rfl, hyb, u0, u1, u2, u3, u4, u5, hpb⟩ := HR.out.lf6 hka
      have HCW := Lib.hid (fun w' (hb : Below w.heap.size w w') => show _ ∧ _ ∧ _ ∧ _ ∧ _ ∧ _ from ⟨cell_kept u0 hb, cell_kept u1 hb, cell_kept u2 hb, cell_kept u3 hb, cell_kept u4 hb, cell_kept u5 hb⟩)
      have y1 : (0 : Int) ≤ (k : Int) := by omega
      have y2 : (k : Int) < (t.length : Int) := by omega
      have HV0 := Lib.hid (tSet_3 (data := data) (v := v) e hat hka)
      clear hyb u0 u1 u2 u3 u4 u5 hpb e hat hka hpa
      by_cases hv : 0 ≤ v ∧ a.ver ≠ v
      · have b1 : (a.ver != v) = true := by simpa using hv.2
        have b2 : (0 : Int) ≤ v := hv.1
        have HV := Lib.hid (show tSet q data v t = (t, 0, 102) by have := HV0.out; rw [if_pos hv] at this; exact this)
        clear hv HV0
        go_enter Tryz.func20, Tryz.ntmps20
        go_wp2_with fail
        rw [← HWE.out]
        refine (HC.out _).mono ?_
        rintro e w1 ⟨rfl, hb1⟩
        have hbx1 : Below (w.heap.size + 2) W2 w1 := by have := HS2.out; rw [← this]; exact hb1
        clear hb1
        obtain ⟨j0, j1, z1, kb, hs, hbw⟩ := HKW.out w1 hbx1
        go_wp2_with fail
        refine (HA.out _ hbw).mono ?_
        rintro e w2 ⟨rfl, hb2⟩
        have hbx2 := below_next hbx1 hb2 (by omega)
        clear hb2
        clear j0 j1 z1 kb hs hbw
        obtain ⟨j0, j1, z1, kb, hs, hbw⟩ := HKW.out w2 hbx2
        have hs22 : w.heap.size + 2 ≤ w2.heap.size := hs
        obtain ⟨c0, c1, c2, c3, c4, c5⟩ := HCW.out w2 hbw
        obtain ⟨w3, hw3⟩ : ∃ w3, w3 = w2.alloc (.cells #[.string ⟨a.path.toArray⟩, .slice PA a.data.length PC, .int .i64 a.ver, .int .i64 a.own, .int .i64 a.next, .int .i64 a.born] 50) := ⟨_, rfl⟩
        have hbx3 : Below (w.heap.size + 2) W2 w3 := by rw [hw3]; exact hbx2.alloc (by omega) (.cells #[.string ⟨a.path.toArray⟩, .slice PA a.data.length PC, .int .i64 a.ver, .int .i64 a.own, .int .i64 a.next, .int .i64 a.born] 50)
        have hbox : Bk w3 w2.heap.size 50 (lfC a PA PC) := by rw [hw3]; exact Bk.new w2 50 (lfC a PA PC)
        have HBX := Lib.hid hbox
        have hs23 : w2.heap.size < w3.heap.size := hbox.lt
        have HW3 := Lib.hid hw3
        clear hw3 hbox
        go_upto_region 7 with fail
        rw [← HW3.out]
        clear c0 c1 c2 c3 c4 c5
        clear j0 j1 z1 kb hs hbw
        obtain ⟨j0, j1, z1, kb, hs, hbw⟩ := HKW.out w3 hbx3
        have l2 : w3.cell? ⟨w2.heap.size, 2, none⟩ = some (.int .i64 a.ver) := HBX.out.at_ rfl
        go_wp2_with fail
        have kk := kb.set 0 (.slice (some y) t.length c)
        refine bodyPost_ret_by (results_ints2 rfl _ _ (w.heap.size + 1) 30 _ _ rfl kk Tryz.underlying30 rfl info_tree1) rfl ?_
        rw [HV.out]
        exact HX.out _ hbw 102
      have HV1 := HV0.out
      rw [if_neg hv] at HV1
      replace HV0 := Lib.hid HV1
      clear HV1
      by_cases hd : 128 < data.length
      · have b3 : (128 : Int) < (data.length : Int) := by omega
        have HV := Lib.hid (show tSet q data v t = (t, 0, 104) by have := HV0.out; rw [if_pos hd] at this; exact this)
        clear HV0 hd
        by_cases hv0 : 0 ≤ v
        · have b1 : (a.ver != v) = false := by simp; omega
          clear hv
          go_enter Tryz.func20, Tryz.ntmps20
          go_wp2_with fail
          rw [← HWE.out]
          refine (HC.out _).mono ?_
          rintro e w1 ⟨rfl, hb1⟩
          have hbx1 : Below (w.heap.size + 2) W2 w1 := by have := HS2.out; rw [← this]; exact hb1
          clear hb1
          obtain ⟨j0, j1, z1, kb, hs, hbw⟩ := HKW.out w1 hbx1
          go_wp2_with fail
          refine (HA.out _ hbw).mono ?_
          rintro e w2 ⟨rfl, hb2⟩
          have hbx2 := below_next hbx1 hb2 (by omega)
          clear hb2
          clear j0 j1 z1 kb hs hbw
          obtain ⟨j0, j1, z1, kb, hs, hbw⟩ := HKW.out w2 hbx2
          have hs22 : w.heap.size + 2 ≤ w2.heap.size := hs
          obtain ⟨c0, c1, c2, c3, c4, c5⟩ := HCW.out w2 hbw
          obtain ⟨w3, hw3⟩ : ∃ w3, w3 = w2.alloc (.cells #[.string ⟨a.path.toArray⟩, .slice PA a.data.length PC, .int .i64 a.ver, .int .i64 a.own, .int .i64 a.next, .int .i64 a.born] 50) := ⟨_, rfl⟩
          have hbx3 : Below (w.heap.size + 2) W2 w3 := by rw [hw3]; exact hbx2.alloc (by omega) (.cells #[.string ⟨a.path.toArray⟩, .slice PA a.data.length PC, .int .i64 a.ver, .int .i64 a.own, .int .i64 a.next, .int .i64 a.born] 50)
          have hbox : Bk w3 w2.heap.size 50 (lfC a PA PC) := by rw [hw3]; exact Bk.new w2 50 (lfC a PA PC)
          have HBX := Lib.hid hbox
          have hs23 : w2.heap.size < w3.heap.size := hbox.lt
          have HW3 := Lib.hid hw3
          clear hw3 hbox
          go_upto_region 7 with fail
          rw [← HW3.out]
          clear c0 c1 c2 c3 c4 c5
          clear j0 j1 z1 kb hs hbw
          obtain ⟨j0, j1, z1, kb, hs, hbw⟩ := HKW.out w3 hbx3
          have l2 : w3.cell? ⟨w2.heap.size, 2, none⟩ = some (.int .i64 a.ver) := HBX.out.at_ rfl
          go_wp2_with fail
          have kk := kb.set 0 (.slice (some y) t.length c)
          refine bodyPost_ret_by (results_ints2 rfl _ _ (w.heap.size + 1) 30 _ _ rfl kk Tryz.underlying30 rfl info_tree1) rfl ?_
          rw [HV.out]
          exact HX.out _ hbw 104
        · clear hv
          go_enter Tryz.func20, Tryz.ntmps20
          go_wp2_with fail
          rw [← HWE.out]
          refine (HC.out _).mono ?_
          rintro e w1 ⟨rfl, hb1⟩
          have hbx1 : Below (w.heap.size + 2) W2 w1 := by have := HS2.out; rw [← this]; exact hb1
          clear hb1
          obtain ⟨j0, j1, z1, kb, hs, hbw⟩ := HKW.out w1 hbx1
          go_wp2_with fail
          refine (HA.out _ hbw).mono ?_
          rintro e w2 ⟨rfl, hb2⟩
          have hbx2 := below_next hbx1 hb2 (by omega)
          clear hb2
          clear j0 j1 z1 kb hs hbw
          obtain ⟨j0, j1, z1, kb, hs, hbw⟩ := HKW.out w2 hbx2
          have hs22 : w.heap.size + 2 ≤ w2.heap.size := hs
          obtain ⟨c0, c1, c2, c3, c4, c5⟩ := HCW.out w2 hbw
          obtain ⟨w3, hw3⟩ : ∃ w3, w3 = w2.alloc (.cells #[.string ⟨a.path.toArray⟩, .slice PA a.data.length PC, .int .i64 a.ver, .int .i64 a.own, .int .i64 a.next, .int .i64 a.born] 50) := ⟨_, rfl⟩
          have hbx3 : Below (w.heap.size + 2) W2 w3 := by rw [hw3]; exact hbx2.alloc (by omega) (.cells #[.string ⟨a.path.toArray⟩, .slice PA a.data.length PC, .int .i64 a.ver, .int .i64 a.own, .int .i64 a.next, .int .i64 a.born] 50)
          have hbox : Bk w3 w2.heap.size 50 (lfC a PA PC) := by rw [hw3]; exact Bk.new w2 50 (lfC a PA PC)
          have HBX := Lib.hid hbox
          have hs23 : w2.heap.size < w3.heap.size := hbox.lt
          have HW3 := Lib.hid hw3
          clear hw3 hbox
          go_upto_region 7 with fail
          rw [← HW3.out]
          clear c0 c1 c2 c3 c4 c5
          clear j0 j1 z1 kb hs hbw
          obtain ⟨j0, j1, z1, kb, hs, hbw⟩ := HKW.out w3 hbx3
          have l2 : w3.cell? ⟨w2.heap.size, 2, none⟩ = some (.int .i64 a.ver) := HBX.out.at_ rfl
          go_wp2_with fail
          have kk := kb.set 0 (.slice (some y) t.length c)
          refine bodyPost_ret_by (results_ints2 rfl _ _ (w.heap.size + 1) 30 _ _ rfl kk Tryz.underlying30 rfl info_tree1) rfl ?_
          rw [HV.out]
          exact HX.out _ hbw 104
      have b3 : ¬ (128 : Int) < (data.length : Int) := by omega
      have HV1 := HV0.out
      rw [if_neg hd] at HV1
      replace HV0 := Lib.hid HV1
      clear HV1
      by_cases hv0 : 0 ≤ v
      · have b1 : (a.ver != v) = false := by simp; omega
        clear hv
        obtain ⟨nv, hnv⟩ : ∃ nv, nv = IntKind.i64.wrap (a.ver + 1) := ⟨_, rfl⟩
        rw [← hnv] at HV0
        have y3 : IntKind.i64.wrap (a.ver + 1) = nv := hnv.symm
        have y4 : wrap64 (a.ver + 1) = nv := by rw [hnv]; unfold wrap64 IntKind.wrap IntKind.bits IntKind.signed; simp; omega
        clear hnv
        obtain ⟨l', hl'⟩ : ∃ l' : Lf, l' = { a with data := data, ver := nv } := ⟨_, rfl⟩
        have HV := Lib.hid (show tSet q data v t = (tWith l' t, nv, 0) by rw [hl']; exact HV0.out)
        have HL' := Lib.hid hl'
        clear hl' HV0
        have HCB := Lib.hid (fun X (hX : Below w.heap.size w X) => copyBytes_big DA data.length DC data X (HD.out.below hX).rd HDL.out)
        go_enter Tryz.func20, Tryz.ntmps20
        go_wp2_with fail
        rw [← HWE.out]
        refine (HC.out _).mono ?_
        rintro e w1 ⟨rfl, hb1⟩
        have hbx1 : Below (w.heap.size + 2) W2 w1 := by have := HS2.out; rw [← this]; exact hb1
        clear hb1
        obtain ⟨j0, j1, z1, kb, hs, hbw⟩ := HKW.out w1 hbx1
        go_wp2_with fail
        refine (HA.out _ hbw).mono ?_
        rintro e w2 ⟨rfl, hb2⟩
        have hbx2 := below_next hbx1 hb2 (by omega)
        clear hb2
        clear j0 j1 z1 kb hs hbw
        obtain ⟨j0, j1, z1, kb, hs, hbw⟩ := HKW.out w2 hbx2
        have hs22 : w.heap.size + 2 ≤ w2.heap.size := hs
        obtain ⟨c0, c1, c2, c3, c4, c5⟩ := HCW.out w2 hbw
        obtain ⟨w3, hw3⟩ : ∃ w3, w3 = w2.alloc (.cells #[.string ⟨a.path.toArray⟩, .slice PA a.data.length PC, .int .i64 a.ver, .int .i64 a.own, .int .i64 a.next, .int .i64 a.born] 50) := ⟨_, rfl⟩
        have hbx3 : Below (w.heap.size + 2) W2 w3 := by rw [hw3]; exact hbx2.alloc (by omega) (.cells #[.string ⟨a.path.toArray⟩, .slice PA a.data.length PC, .int .i64 a.ver, .int .i64 a.own, .int .i64 a.next, .int .i64 a.born] 50)
        have hbox : Bk w3 w2.heap.size 50 (lfC a PA PC) := by rw [hw3]; exact Bk.new w2 50 (lfC a PA PC)
        have HBX := Lib.hid hbox
        have hs23 : w2.heap.size < w3.heap.size := hbox.lt
        have HW3 := Lib.hid hw3
        clear hw3 hbox
        go_upto_region 7 with fail
        rw [← HW3.out]
        clear c0 c1 c2 c3 c4 c5
        clear j0 j1 z1 kb hs hbw
        obtain ⟨j0, j1, z1, kb, hs, hbw⟩ := HKW.out w3 hbx3
        have l2 : w3.cell? ⟨w2.heap.size, 2, none⟩ = some (.int .i64 a.ver) := HBX.out.at_ rfl
        go_wp2_with fail
        refine (HCB.out _ hbw).mono ?_
        rintro e w4 ⟨A4, n4, c4, rfl, ho4, hb4⟩
        obtain rfl : data.length = n4 := ho4.len
        have hbx4 := below_next hbx3 hb4 (by omega)
        have HB4 := Lib.hid (HBX.out.kept hb4)
        have HF4 := Lib.hid (show BF (From w3.heap.size) w4 A4 c4 data from BF.own ho4)
        have HS4 := Lib.hid hb4.size
        clear ho4 hb4 l2
        clear j0 j1 z1 kb hs hbw
        obtain ⟨j0, j1, z1, kb, hs, hbw⟩ := HKW.out w4 hbx4
        have HKB := Lib.hid kb
        have k4 := HB4.out
        go_wp2_with (first
          | (refine wpList_store_cell rfl 32 _ _ rfl w2.heap.size 1 (.slice A4 data.length c4) rfl rfl rfl rfl info_bytes1' 50 _ k4 (by simp [lfC]) ?_; intro w5 hk5 hg5; have q5 : w5.cell? ⟨w2.heap.size, 2, none⟩ = some (.int .i64 a.ver) := hk5.out.at_ rfl)
          | (refine wpList_store_cell rfl 3 _ _ rfl w2.heap.size 2 (.int .i64 nv) rfl rfl rfl rfl info_int1' 50 _ hk5.out (by simp [lfC]) ?_; intro w6 hk6 hg6))
        have HK6 := Lib.hid (show Bk w6 w2.heap.size 50 [.string ⟨a.path.toArray⟩, .slice A4 data.length c4, .int .i64 nv, .int .i64 a.own, .int .i64 a.next, .int .i64 a.born] from hk6.out)
        have hbx6 : Below (w.heap.size + 2) W2 w6 := (hbx4.grown hg5.out (by have := hbx4.size; have := HS2.out; omega) (fun g hg => by injection hg with hg; omega)).grown hg6.out (by have := hbx4.size; have := HS2.out; have := hg5.out.size; omega) (fun g hg => by injection hg with hg; omega)
        have HBF6 := Lib.hid (show BF (From (w.heap.size + 2)) w6 A4 c4 data from bf_from (bf_set (bf_set HF4.out hg5.out (fun b hb => by unfold From at hb; omega)) hg6.out (fun b hb => by unfold From at hb; omega)) (by omega))
        clear j0 j1 z1 kb hs hbw
        obtain ⟨j0, j1, z1, kb, hs, hbw⟩ := HKW.out w6 hbx6
        have HBW6 := Lib.hid hbw
        have HBX6 := Lib.hid hbx6
        have HW := Lib.hid (show Calls Tryz.prog _ #[.agg #[.slice (some y) t.length c], .agg #[.string ⟨a.path.toArray⟩, .slice A4 data.length c4, .int .i64 nv, .int .i64 a.own, .int .i64 a.next, .int .i64 a.born]] w6.drew (FreshW (fun b => F1 b ∨ w.heap.size + 2 ≤ b) (tWith l' t) w6.drew) by
          have := refWith_any l' A4 c4 (some y) c t (fun b => F1 b ∨ w.heap.size + 2 ≤ b) w6.drew (((HR.out.below HBW6.out).below (below_drew (Below.refl _ _))).keep ⟨Nat.le_refl _, fun _ _ _ => rfl⟩ fun b hb _ => .inl hb)
            (by rw [HL'.out]; exact (HBF6.out.below (below_drew (Below.refl _ _))).keep ⟨Nat.le_refl _, fun _ _ _ => rfl⟩ fun b hb _ => .inr hb) hn
          rw [HL'.out] at this ⊢
          exact this)
        have HSX := Lib.hid (fun X (hb : Below w6.heap.size w6 X) => show X.cell? ⟨w.heap.size, 0, none⟩ = some (.slice (some y) t.length c) ∧ X.cell? ⟨w2.heap.size, 0, none⟩ = some (.string ⟨a.path.toArray⟩) ∧ X.cell? ⟨w2.heap.size, 1, none⟩ = some (.slice A4 data.length c4) ∧ X.cell? ⟨w2.heap.size, 2, none⟩ = some (.int .i64 nv) ∧ X.cell? ⟨w2.heap.size, 3, none⟩ = some (.int .i64 a.own) ∧ X.cell? ⟨w2.heap.size, 4, none⟩ = some (.int .i64 a.next) ∧ X.cell? ⟨w2.heap.size, 5, none⟩ = some (.int .i64 a.born) from
          ⟨cell_kept j0 hb, (HK6.out.kept hb).at_ rfl, (HK6.out.kept hb).at_ rfl, (HK6.out.kept hb).at_ rfl, (HK6.out.kept hb).at_ rfl, (HK6.out.kept hb).at_ rfl, (HK6.out.kept hb).at_ rfl⟩)
        have HSY := Lib.hid (fun X (hb : Below w6.heap.size w6 X) u => show (X.setCell ⟨w.heap.size + 1, 0, none⟩ u).cell? ⟨w.heap.size, 0, none⟩ = some (.slice (some y) t.length c) ∧ (X.setCell ⟨w.heap.size + 1, 0, none⟩ u).cell? ⟨w2.heap.size, 0, none⟩ = some (.string ⟨a.path.toArray⟩) ∧ (X.setCell ⟨w.heap.size + 1, 0, none⟩ u).cell? ⟨w2.heap.size, 1, none⟩ = some (.slice A4 data.length c4) ∧ (X.setCell ⟨w.heap.size + 1, 0, none⟩ u).cell? ⟨w2.heap.size, 2, none⟩ = some (.int .i64 nv) ∧ (X.setCell ⟨w.heap.size + 1, 0, none⟩ u).cell? ⟨w2.heap.size, 3, none⟩ = some (.int .i64 a.own) ∧ (X.setCell ⟨w.heap.size + 1, 0, none⟩ u).cell? ⟨w2.heap.size, 4, none⟩ = some (.int .i64 a.next) ∧ (X.setCell ⟨w.heap.size + 1, 0, none⟩ u).cell? ⟨w2.heap.size, 5, none⟩ = some (.int .i64 a.born) from
          ⟨cell_far (cell_kept j0 hb) (by simp), cell_far ((HK6.out.kept hb).at_ rfl) (by simp; omega), cell_far ((HK6.out.kept hb).at_ rfl) (by simp; omega), cell_far ((HK6.out.kept hb).at_ rfl) (by simp; omega), cell_far ((HK6.out.kept hb).at_ rfl) (by simp; omega), cell_far ((HK6.out.kept hb).at_ rfl) (by simp; omega), cell_far ((HK6.out.kept hb).at_ rfl) (by simp; omega)⟩)
        have HBD := Lib.hid (below_drew (Below.refl w6.heap.size w6))
        clear j0 j1 z1 kb hs hbw k4 q5
        go_region_held (fun X => X.cell? ⟨w.heap.size, 0, none⟩ = some (.slice (some y) t.length c) ∧ X.cell? ⟨w2.heap.size, 0, none⟩ = some (.string ⟨a.path.toArray⟩) ∧ X.cell? ⟨w2.heap.size, 1, none⟩ = some (.slice A4 data.length c4) ∧ X.cell? ⟨w2.heap.size, 2, none⟩ = some (.int .i64 nv) ∧ X.cell? ⟨w2.heap.size, 3, none⟩ = some (.int .i64 a.own) ∧ X.cell? ⟨w2.heap.size, 4, none⟩ = some (.int .i64 a.next) ∧ X.cell? ⟨w2.heap.size, 5, none⟩ = some (.int .i64 a.born))
          (first | with_reducible exact HSX.out _ HB7.out | with_reducible exact HSX.out _ HBD.out | with_reducible exact HSY.out _ HB7.out _)
          (first
            | (go_at_call 46
               with_reducible refine HW.out.mono ?_
               rintro e w7 ⟨hb7, A7, c7, rfl, hr7⟩
               have HB7 := Lib.hid (show Below w6.heap.size w6 w7 from HBD.out.trans hb7)
               have HR7 := Lib.hid hr7
               have hbx7 := below_next HBX6.out HB7.out (by have := HBX6.out.size; have := HS2.out; omega)
               obtain ⟨j0, j1, z1, kb, hs, hbw⟩ := HKW.out w7 hbx7
               have HBW7 := Lib.hid hbw
               have HKB7 := Lib.hid kb
               clear hb7 hr7 hbx7 j0 kb hs hbw)
            | fail)
        go_wp2_with fail
        have kk := HKB7.out.set 0 (.slice A7 (tWith l' t).length c7)
        refine bodyPost_ret_by (results_ints2 rfl _ _ (w.heap.size + 1) 30 _ _ rfl kk Tryz.underlying30 rfl info_tree1) rfl ?_
        rw [HV.out]
        exact HDN.out w7 A7 c7 (tWith l' t) [.int .i64 nv, .int .i64 0] HBW7.out (HR7.out.keep ⟨Nat.le_refl _, fun _ _ _ => rfl⟩ fun b hb _ => by
          rcases hb with (hb | hb) | hb
          · rw [HF1.out] at hb; exact .inl hb
          · exact .inr hb
          · exact .inr (by have h1 : w6.heap.size ≤ b := hb; have h2 := HBX6.out.size; have h3 := HS2.out; omega)) _
      · clear hv
        obtain ⟨nv, hnv⟩ : ∃ nv, nv = IntKind.i64.wrap (a.ver + 1) := ⟨_, rfl⟩
        rw [← hnv] at HV0
        have y3 : IntKind.i64.wrap (a.ver + 1) = nv := hnv.symm
        have y4 : wrap64 (a.ver + 1) = nv := by rw [hnv]; unfold wrap64 IntKind.wrap IntKind.bits IntKind.signed; simp; omega
        clear hnv
        obtain ⟨l', hl'⟩ : ∃ l' : Lf, l' = { a with data := data, ver := nv } := ⟨_, rfl⟩
        have HV := Lib.hid (show tSet q data v t = (tWith l' t, nv, 0) by rw [hl']; exact HV0.out)
        have HL' := Lib.hid hl'
        clear hl' HV0
        have HCB := Lib.hid (fun X (hX : Below w.heap.size w X) => copyBytes_big DA data.length DC data X (HD.out.below hX).rd HDL.out)
        go_enter Tryz.func20, Tryz.ntmps20
        go_wp2_with fail
        rw [← HWE.out]
        refine (HC.out _).mono ?_
        rintro e w1 ⟨rfl, hb1⟩
        have hbx1 : Below (w.heap.size + 2) W2 w1 := by have := HS2.out; rw [← this]; exact hb1
        clear hb1
        obtain ⟨j0, j1, z1, kb, hs, hbw⟩ := HKW.out w1 hbx1
        go_wp2_with fail
        refine (HA.out _ hbw).mono ?_
        rintro e w2 ⟨rfl, hb2⟩
        have hbx2 := below_next hbx1 hb2 (by omega)
        clear hb2
        clear j0 j1 z1 kb hs hbw
        obtain ⟨j0, j1, z1, kb, hs, hbw⟩ := HKW.out w2 hbx2
        have hs22 : w.heap.size + 2 ≤ w2.heap.size := hs
        obtain ⟨c0, c1, c2, c3, c4, c5⟩ := HCW.out w2 hbw
        obtain ⟨w3, hw3⟩ : ∃ w3, w3 = w2.alloc (.cells #[.string ⟨a.path.toArray⟩, .slice PA a.data.length PC, .int .i64 a.ver, .int .i64 a.own, .int .i64 a.next, .int .i64 a.born] 50) := ⟨_, rfl⟩
        have hbx3 : Below (w.heap.size + 2) W2 w3 := by rw [hw3]; exact hbx2.alloc (by omega) (.cells #[.string ⟨a.path.toArray⟩, .slice PA a.data.length PC, .int .i64 a.ver, .int .i64 a.own, .int .i64 a.next, .int .i64 a.born] 50)
        have hbox : Bk w3 w2.heap.size 50 (lfC a PA PC) := by rw [hw3]; exact Bk.new w2 50 (lfC a PA PC)
        have HBX := Lib.hid hbox
        have hs23 : w2.heap.size < w3.heap.size := hbox.lt
        have HW3 := Lib.hid hw3
        clear hw3 hbox
        go_upto_region 7 with fail
        rw [← HW3.out]
        clear c0 c1 c2 c3 c4 c5
        clear j0 j1 z1 kb hs hbw
        obtain ⟨j0, j1, z1, kb, hs, hbw⟩ := HKW.out w3 hbx3
        have l2 : w3.cell? ⟨w2.heap.size, 2, none⟩ = some (.int .i64 a.ver) := HBX.out.at_ rfl
        go_wp2_with fail
        refine (HCB.out _ hbw).mono ?_
        rintro e w4 ⟨A4, n4, c4, rfl, ho4, hb4⟩
        obtain rfl : data.length = n4 := ho4.len
        have hbx4 := below_next hbx3 hb4 (by omega)
        have HB4 := Lib.hid (HBX.out.kept hb4)
        have HF4 := Lib.hid (show BF (From w3.heap.size) w4 A4 c4 data from BF.own ho4)
        have HS4 := Lib.hid hb4.size
        clear ho4 hb4 l2
        clear j0 j1 z1 kb hs hbw
        obtain ⟨j0, j1, z1, kb, hs, hbw⟩ := HKW.out w4 hbx4
        have HKB := Lib.hid kb
        have k4 := HB4.out
        go_wp2_with (first
          | (refine wpList_store_cell rfl 32 _ _ rfl w2.heap.size 1 (.slice A4 data.length c4) rfl rfl rfl rfl info_bytes1' 50 _ k4 (by simp [lfC]) ?_; intro w5 hk5 hg5; have q5 : w5.cell? ⟨w2.heap.size, 2, none⟩ = some (.int .i64 a.ver) := hk5.out.at_ rfl)
          | (refine wpList_store_cell rfl 3 _ _ rfl w2.heap.size 2 (.int .i64 nv) rfl rfl rfl rfl info_int1' 50 _ hk5.out (by simp [lfC]) ?_; intro w6 hk6 hg6))
        have HK6 := Lib.hid (show Bk w6 w2.heap.size 50 [.string ⟨a.path.toArray⟩, .slice A4 data.length c4, .int .i64 nv, .int .i64 a.own, .int .i64 a.next, .int .i64 a.born] from hk6.out)
        have hbx6 : Below (w.heap.size + 2) W2 w6 := (hbx4.grown hg5.out (by have := hbx4.size; have := HS2.out; omega) (fun g hg => by injection hg with hg; omega)).grown hg6.out (by have := hbx4.size; have := HS2.out; have := hg5.out.size; omega) (fun g hg => by injection hg with hg; omega)
        have HBF6 := Lib.hid (show BF (From (w.heap.size + 2)) w6 A4 c4 data from bf_from (bf_set (bf_set HF4.out hg5.out (fun b hb => by unfold From at hb; omega)) hg6.out (fun b hb => by unfold From at hb; omega)) (by omega))
        clear j0 j1 z1 kb hs hbw
        obtain ⟨j0, j1, z1, kb, hs, hbw⟩ := HKW.out w6 hbx6
        have HBW6 := Lib.hid hbw
        have HBX6 := Lib.hid hbx6
        have HW := Lib.hid (show Calls Tryz.prog _ #[.agg #[.slice (some y) t.length c], .agg #[.string ⟨a.path.toArray⟩, .slice A4 data.length c4, .int .i64 nv, .int .i64 a.own, .int .i64 a.next, .int .i64 a.born]] w6.drew (FreshW (fun b => F1 b ∨ w.heap.size + 2 ≤ b) (tWith l' t) w6.drew) by
          have := refWith_any l' A4 c4 (some y) c t (fun b => F1 b ∨ w.heap.size + 2 ≤ b) w6.drew (((HR.out.below HBW6.out).below (below_drew (Below.refl _ _))).keep ⟨Nat.le_refl _, fun _ _ _ => rfl⟩ fun b hb _ => .inl hb)
            (by rw [HL'.out]; exact (HBF6.out.below (below_drew (Below.refl _ _))).keep ⟨Nat.le_refl _, fun _ _ _ => rfl⟩ fun b hb _ => .inr hb) hn
          rw [HL'.out] at this ⊢
          exact this)
        have HSX := Lib.hid (fun X (hb : Below w6.heap.size w6 X) => show X.cell? ⟨w.heap.size, 0, none⟩ = some (.slice (some y) t.length c) ∧ X.cell? ⟨w2.heap.size, 0, none⟩ = some (.string ⟨a.path.toArray⟩) ∧ X.cell? ⟨w2.heap.size, 1, none⟩ = some (.slice A4 data.length c4) ∧ X.cell? ⟨w2.heap.size, 2, none⟩ = some (.int .i64 nv) ∧ X.cell? ⟨w2.heap.size, 3, none⟩ = some (.int .i64 a.own) ∧ X.cell? ⟨w2.heap.size, 4, none⟩ = some (.int .i64 a.next) ∧ X.cell? ⟨w2.heap.size, 5, none⟩ = some (.int .i64 a.born) from
          ⟨cell_kept j0 hb, (HK6.out.kept hb).at_ rfl, (HK6.out.kept hb).at_ rfl, (HK6.out.kept hb).at_ rfl, (HK6.out.kept hb).at_ rfl, (HK6.out.kept hb).at_ rfl, (HK6.out.kept hb).at_ rfl⟩)
        have HSY := Lib.hid (fun X (hb : Below w6.heap.size w6 X) u => show (X.setCell ⟨w.heap.size + 1, 0, none⟩ u).cell? ⟨w.heap.size, 0, none⟩ = some (.slice (some y) t.length c) ∧ (X.setCell ⟨w.heap.size + 1, 0, none⟩ u).cell? ⟨w2.heap.size, 0, none⟩ = some (.string ⟨a.path.toArray⟩) ∧ (X.setCell ⟨w.heap.size + 1, 0, none⟩ u).cell? ⟨w2.heap.size, 1, none⟩ = some (.slice A4 data.length c4) ∧ (X.setCell ⟨w.heap.size + 1, 0, none⟩ u).cell? ⟨w2.heap.size, 2, none⟩ = some (.int .i64 nv) ∧ (X.setCell ⟨w.heap.size + 1, 0, none⟩ u).cell? ⟨w2.heap.size, 3, none⟩ = some (.int .i64 a.own) ∧ (X.setCell ⟨w.heap.size + 1, 0, none⟩ u).cell? ⟨w2.heap.size, 4, none⟩ = some (.int .i64 a.next) ∧ (X.setCell ⟨w.heap.size + 1, 0, none⟩ u).cell? ⟨w2.heap.size, 5, none⟩ = some (.int .i64 a.born) from
          ⟨cell_far (cell_kept j0 hb) (by simp), cell_far ((HK6.out.kept hb).at_ rfl) (by simp; omega), cell_far ((HK6.out.kept hb).at_ rfl) (by simp; omega), cell_far ((HK6.out.kept hb).at_ rfl) (by simp; omega), cell_far ((HK6.out.kept hb).at_ rfl) (by simp; omega), cell_far ((HK6.out.kept hb).at_ rfl) (by simp; omega), cell_far ((HK6.out.kept hb).at_ rfl) (by simp; omega)⟩)
        have HBD := Lib.hid (below_drew (Below.refl w6.heap.size w6))
        clear j0 j1 z1 kb hs hbw k4 q5
        go_region_held (fun X => X.cell? ⟨w.heap.size, 0, none⟩ = some (.slice (some y) t.length c) ∧ X.cell? ⟨w2.heap.size, 0, none⟩ = some (.string ⟨a.path.toArray⟩) ∧ X.cell? ⟨w2.heap.size, 1, none⟩ = some (.slice A4 data.length c4) ∧ X.cell? ⟨w2.heap.size, 2, none⟩ = some (.int .i64 nv) ∧ X.cell? ⟨w2.heap.size, 3, none⟩ = some (.int .i64 a.own) ∧ X.cell? ⟨w2.heap.size, 4, none⟩ = some (.int .i64 a.next) ∧ X.cell? ⟨w2.heap.size, 5, none⟩ = some (.int .i64 a.born))
          (first | with_reducible exact HSX.out _ HB7.out | with_reducible exact HSX.out _ HBD.out | with_reducible exact HSY.out _ HB7.out _)
          (first
            | (go_at_call 46
               with_reducible refine HW.out.mono ?_
               rintro e w7 ⟨hb7, A7, c7, rfl, hr7⟩
               have HB7 := Lib.hid (show Below w6.heap.size w6 w7 from HBD.out.trans hb7)
               have HR7 := Lib.hid hr7
               have hbx7 := below_next HBX6.out HB7.out (by have := HBX6.out.size; have := HS2.out; omega)
               obtain ⟨j0, j1, z1, kb, hs, hbw⟩ := HKW.out w7 hbx7
               have HBW7 := Lib.hid hbw
               have HKB7 := Lib.hid kb
               clear hb7 hr7 hbx7 j0 kb hs hbw)
            | fail)
        go_wp2_with fail
        have kk := HKB7.out.set 0 (.slice A7 (tWith l' t).length c7)
        refine bodyPost_ret_by (results_ints2 rfl _ _ (w.heap.size + 1) 30 _ _ rfl kk Tryz.underlying30 rfl info_tree1) rfl ?_
        rw [HV.out]
        exact HDN.out w7 A7 c7 (tWith l' t) [.int .i64 nv, .int .i64 0] HBW7.out (HR7.out.keep ⟨Nat.le_refl _, fun _ _ _ => rfl⟩ fun b hb _ => by
          rcases hb with (hb | hb) | hb
          · rw [HF1.out] at hb; exact .inl hb
          · exact .inr hb
          · exact .inr (by have h1 : w6.heap.size ≤ b := hb; have h2 := HBX6.out.size; have h3 := HS2.out; omega)) _
end Go.Proofs.YtgppclmofphlfaaGreatDoor
