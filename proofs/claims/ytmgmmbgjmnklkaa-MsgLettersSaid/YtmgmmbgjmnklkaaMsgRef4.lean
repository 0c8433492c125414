/-
  The reference's ReadEntry. A walk; no statement.
-/
import Derived.Test.YtmgmmbgjmnklkaaMsgRef3
import Derived.Test.YtmgmmbgjmnklkaaMsgTwoWay
namespace Go.Proofs.Ytmgmmbgjmnklkaa
set_option maxRecDepth 100000
open Go.RowKit
open Pk
set_option linter.unusedVariables false


theorem cell_alloc_old {w : World} {p : Addr} {v : Value} (h : w.cell? p = some v) (o : Obj) : (w.alloc o).cell? p = some v := kept_cell h ((Below.refl w.heap.size w).alloc (Nat.le_refl _) o)
set_option maxHeartbeats 1600000 in
theorem refReadEntry_any (L : Option Addr) (ln lc : Nat) (l : List UInt8) (w : World) (h : Sl w L ln lc l) (hn : ln ≤ 4294967296) :
    Calls Try.prog 31 #[.slice L ln lc] w (DecE l w) := by
  have hB := (Below.refl w.heap.size w).alloc (Nat.le_refl _) (.cells #[.int .i64 0, .int .i64 0, .int .i64 0, .slice none 0 0] 24)
  have HB := Lib.hid hB
  have HK := Lib.hid (Bk.new w 24 [.int .i64 0, .int .i64 0, .int .i64 0, .slice none 0 0])
  have HC := Lib.hid (refFields_any L ln lc l 2 3 _ (h.below hB) hn (by omega))
  clear h hn hB
  go_enter Try.func31, Try.ntmps31
  go_wp2_with fail
  refine HC.out.mono ?_
  rintro e w2 ⟨hb2, ⟨f0, rest, vs, hf, hv, A, c, B, d, rfl, hof, hoi⟩ | ⟨hno, u, v, rfl⟩⟩
  rotate_left
  · have HB2 := Lib.hid (below_next HB.out hb2 HB.out.size)
    have HK2 := Lib.hid (HK.out.kept hb2)
    have HD := Lib.hid (show decEn l = none by
      unfold decEn okX rdEn
      cases hq : rdFlds 2 l with
      | none => rfl
      | some fs =>
        match fs with
        | [] => rfl
        | [_] => rfl
        | [f0, f1] => simp only [hno f0 [f1] hq]
        | _ :: _ :: _ :: _ => rfl)
    have j0 := HK2.out.at_ (i := 0) rfl
    have z0 := HK2.out.frozen 0
    have j1 := HK2.out.at_ (i := 1) rfl
    have z1 := HK2.out.frozen 1
    have j2 := HK2.out.at_ (i := 2) rfl
    have z2 := HK2.out.frozen 2
    have j3 := HK2.out.at_ (i := 3) rfl
    have z3 := HK2.out.frozen 3
    clear hb2 hno
    go_wp2_with fail
    have kk := (((HK2.out.set 0 (.int .i64 0)).set 1 (.int .i64 0)).set 2 (.int .i64 0)).set 3 (.slice none 0 0)
    have gr := grown_set (grown_set (grown_set (grown_set (grown_refl w2 (some w.heap.size)) 0 (.int .i64 0)) 1 (.int .i64 0)) 2 (.int .i64 0)) 3 (.slice none 0 0)
    refine bodyPost_ret_by (results_row_tmp rfl _ _ w.heap.size 24 _ _ rfl kk Try.underlying24 rfl info1_E) rfl ?_
    exact ⟨HB2.out.grown gr HB2.out.size (fun g hg => by cases hg; omega), .inr ⟨HD.out, rfl⟩⟩
  obtain ⟨hl3, hrg⟩ := rdNums_range hv
  obtain ⟨_, hfl⟩ := rdFlds_join hf
  match rest, hfl, vs, hl3 with
  | [f1], _, [x, y, z], _ =>
    have HB2 := Lib.hid (below_next HB.out hb2 HB.out.size)
    have HK2 := Lib.hid (HK.out.kept hb2)
    obtain ⟨xf, B1, d1, rfl, hxf, q1, hbf⟩ := (RdS.of_own hof).b1 (k := 1) (l := f1) rfl
    obtain ⟨gi, rfl, hgi, hgil, hci⟩ := hoi.at_ (by omega)
    have q1 : w2.cell? ⟨xf.block, xf.off + 1, none⟩ = some (.slice B1 f1.length d1) := by have := q1; simpa [Addr.add] using this
    have HX := Lib.hid (show rdEn l = some ⟨x - 1, y, z, f1⟩ by unfold rdEn; rw [hf]; simp only [hv])
    have HF := Lib.hid hbf
    have xr := hrg x (by simp)
    have i0 := hci 0 x rfl
    have i1 := hci 1 y rfl
    have i2 := hci 2 z rfl
    have y3 : IntKind.i64.wrap (x - 1) = x - 1 := by rw [IntKind.wrap_i64]; omega
    obtain ⟨xr0, xr1⟩ := xr
    clear hb2 hof hoi hxf hbf hci hv hf hrg hgi hgil
    go_wp2_with fail
    refine wp_region_held_drew (S := fun w' => w'.cell? ⟨gi, 0, none⟩ = some (.int .i64 x) ∧ w'.cell? ⟨gi, 1, none⟩ = some (.int .i64 y) ∧ w'.cell? ⟨gi, 2, none⟩ = some (.int .i64 z) ∧ w'.cell? ⟨xf.block, xf.off + 1, none⟩ = some (.slice B1 f1.length d1)) (by kernel_rfl) (⟨i0, i1, i2, q1⟩) (fun hHeld => ?_)
    refine wpAnyH_take (i := 0) (oi := ({ dst := some 17, op := Op.move (Operand.tmp 5), type := 70, pos := "ref.go:222", after := #[], guard := none } : Oper)) (v := ?_) rfl (by kernel_rfl) (by kernel_rfl) (by kernel_rfl) (fun _ _ _ h => h) (Or.inl ⟨by rfl, ?_⟩) (by assumption) ?_
    rotate_left
    · intro w hSw; (try dsimp only at hSw); go_simp; first | done | with_reducible rfl
    try simp only [Act.put, List.setIfInBounds_toArray, List.set_cons_zero, List.set_cons_succ]
    refine wpAnyH_take (i := 1) (oi := ({ dst := some 18, op := Op.indexAddr 70 (Operand.tmp 17) (Operand.const (Value.int IntKind.i64 0)), type := 0, pos := "ref.go:222", after := #[{ on := 0, ground := Ground.data }], guard := none } : Oper)) (v := ?_) rfl (by kernel_rfl) (by kernel_rfl) (by kernel_rfl) (fun _ _ _ h => h) (Or.inl ⟨by rfl, ?_⟩) (by assumption) ?_
    rotate_left
    · intro w hSw; (try dsimp only at hSw); go_simp; first | done | with_reducible rfl
    try simp only [Act.put, List.setIfInBounds_toArray, List.set_cons_zero, List.set_cons_succ]
    refine wpAnyH_take (i := 2) (oi := ({ dst := some 19, op := Op.load 3 (Operand.tmp 18), type := 3, pos := "ref.go:222", after := #[{ on := 1, ground := Ground.data }], guard := none } : Oper)) (v := ?_) rfl (by kernel_rfl) (by kernel_rfl) (by kernel_rfl) (fun _ _ _ h => h) (Or.inl ⟨by rfl, ?_⟩) (by assumption) ?_
    rotate_left
    · intro w hSw; (try dsimp only at hSw); go_simp; first | done | with_reducible rfl
    try simp only [Act.put, List.setIfInBounds_toArray, List.set_cons_zero, List.set_cons_succ]
    refine wpAnyH_take (i := 3) (oi := ({ dst := some 20, op := Op.binOp BinOp.sub 3 (Operand.tmp 19) (Operand.const (Value.int IntKind.i64 1)) 3, type := 3, pos := "ref.go:222", after := #[{ on := 2, ground := Ground.data }], guard := none } : Oper)) (v := ?_) rfl (by kernel_rfl) (by kernel_rfl) (by kernel_rfl) (fun _ _ _ h => h) (Or.inl ⟨by rfl, ?_⟩) (by assumption) ?_
    rotate_left
    · intro w hSw; (try dsimp only at hSw); go_simp; first | done | with_reducible rfl
    try simp only [Act.put, List.setIfInBounds_toArray, List.set_cons_zero, List.set_cons_succ]
    refine wpAnyH_take (i := 4) (oi := ({ dst := some 21, op := Op.move (Operand.tmp 5), type := 70, pos := "ref.go:222", after := #[], guard := none } : Oper)) (v := ?_) rfl (by kernel_rfl) (by kernel_rfl) (by kernel_rfl) (fun _ _ _ h => h) (Or.inl ⟨by rfl, ?_⟩) (by assumption) ?_
    rotate_left
    · intro w hSw; (try dsimp only at hSw); go_simp; first | done | with_reducible rfl
    try simp only [Act.put, List.setIfInBounds_toArray, List.set_cons_zero, List.set_cons_succ]
    refine wpAnyH_take (i := 5) (oi := ({ dst := some 22, op := Op.indexAddr 70 (Operand.tmp 21) (Operand.const (Value.int IntKind.i64 1)), type := 0, pos := "ref.go:222", after := #[{ on := 4, ground := Ground.data }], guard := none } : Oper)) (v := ?_) rfl (by kernel_rfl) (by kernel_rfl) (by kernel_rfl) (fun _ _ _ h => h) (Or.inl ⟨by rfl, ?_⟩) (by assumption) ?_
    rotate_left
    · intro w hSw; (try dsimp only at hSw); go_simp; first | done | with_reducible rfl
    try simp only [Act.put, List.setIfInBounds_toArray, List.set_cons_zero, List.set_cons_succ]
    refine wpAnyH_take (i := 6) (oi := ({ dst := some 23, op := Op.load 3 (Operand.tmp 22), type := 3, pos := "ref.go:222", after := #[{ on := 5, ground := Ground.data }], guard := none } : Oper)) (v := ?_) rfl (by kernel_rfl) (by kernel_rfl) (by kernel_rfl) (fun _ _ _ h => h) (Or.inl ⟨by rfl, ?_⟩) (by assumption) ?_
    rotate_left
    · intro w hSw; (try dsimp only at hSw); go_simp; first | done | with_reducible rfl
    try simp only [Act.put, List.setIfInBounds_toArray, List.set_cons_zero, List.set_cons_succ]
    refine wpAnyH_take (i := 7) (oi := ({ dst := some 24, op := Op.move (Operand.tmp 5), type := 70, pos := "ref.go:222", after := #[], guard := none } : Oper)) (v := ?_) rfl (by kernel_rfl) (by kernel_rfl) (by kernel_rfl) (fun _ _ _ h => h) (Or.inl ⟨by rfl, ?_⟩) (by assumption) ?_
    rotate_left
    · intro w hSw; (try dsimp only at hSw); go_simp; first | done | with_reducible rfl
    try simp only [Act.put, List.setIfInBounds_toArray, List.set_cons_zero, List.set_cons_succ]
    refine wpAnyH_take (i := 8) (oi := ({ dst := some 25, op := Op.indexAddr 70 (Operand.tmp 24) (Operand.const (Value.int IntKind.i64 2)), type := 0, pos := "ref.go:222", after := #[{ on := 7, ground := Ground.data }], guard := none } : Oper)) (v := ?_) rfl (by kernel_rfl) (by kernel_rfl) (by kernel_rfl) (fun _ _ _ h => h) (Or.inl ⟨by rfl, ?_⟩) (by assumption) ?_
    rotate_left
    · intro w hSw; (try dsimp only at hSw); go_simp; first | done | with_reducible rfl
    try simp only [Act.put, List.setIfInBounds_toArray, List.set_cons_zero, List.set_cons_succ]
    refine wpAnyH_take (i := 9) (oi := ({ dst := some 26, op := Op.load 3 (Operand.tmp 25), type := 3, pos := "ref.go:222", after := #[{ on := 8, ground := Ground.data }], guard := none } : Oper)) (v := ?_) rfl (by kernel_rfl) (by kernel_rfl) (by kernel_rfl) (fun _ _ _ h => h) (Or.inl ⟨by rfl, ?_⟩) (by assumption) ?_
    rotate_left
    · intro w hSw; (try dsimp only at hSw); go_simp; first | done | with_reducible rfl
    try simp only [Act.put, List.setIfInBounds_toArray, List.set_cons_zero, List.set_cons_succ]
    refine wpAnyH_take (i := 10) (oi := ({ dst := some 27, op := Op.move (Operand.tmp 4), type := 44, pos := "ref.go:222", after := #[], guard := none } : Oper)) (v := ?_) rfl (by kernel_rfl) (by kernel_rfl) (by kernel_rfl) (fun _ _ _ h => h) (Or.inl ⟨by rfl, ?_⟩) (by assumption) ?_
    rotate_left
    · intro w hSw; (try dsimp only at hSw); go_simp; first | done | with_reducible rfl
    try simp only [Act.put, List.setIfInBounds_toArray, List.set_cons_zero, List.set_cons_succ]
    refine wpAnyH_take (i := 11) (oi := ({ dst := some 28, op := Op.indexAddr 44 (Operand.tmp 27) (Operand.const (Value.int IntKind.i64 1)), type := 0, pos := "ref.go:222", after := #[{ on := 10, ground := Ground.data }], guard := none } : Oper)) (v := ?_) rfl (by kernel_rfl) (by kernel_rfl) (by kernel_rfl) (fun _ _ _ h => h) (Or.inl ⟨by rfl, ?_⟩) (by assumption) ?_
    rotate_left
    · intro w hSw; (try dsimp only at hSw); go_simp; first | done | with_reducible rfl
    try simp only [Act.put, List.setIfInBounds_toArray, List.set_cons_zero, List.set_cons_succ]
    refine wpAnyH_take (i := 12) (oi := ({ dst := some 29, op := Op.load 22 (Operand.tmp 28), type := 22, pos := "ref.go:222", after := #[{ on := 11, ground := Ground.data }], guard := none } : Oper)) (v := ?_) rfl (by kernel_rfl) (by kernel_rfl) (by kernel_rfl) (fun _ _ _ h => h) (Or.inl ⟨by rfl, ?_⟩) (by assumption) ?_
    rotate_left
    · intro w hSw; (try dsimp only at hSw); go_simp; first | done | with_reducible rfl
    try simp only [Act.put, List.setIfInBounds_toArray, List.set_cons_zero, List.set_cons_succ]
    refine wpAnyH_take (i := 13) (oi := ({ dst := some 30, op := Op.build 24 #[(0, Operand.tmp 20), (1, Operand.tmp 23), (2, Operand.tmp 26), (3, Operand.tmp 29)], type := 24, pos := "ref.go:222", after := #[{ on := 3, ground := Ground.data }, { on := 6, ground := Ground.data }, { on := 9, ground := Ground.data }, { on := 12, ground := Ground.data }], guard := none } : Oper)) (v := ?_) rfl (by kernel_rfl) (by kernel_rfl) (by kernel_rfl) (fun _ _ _ h => h) (Or.inl ⟨by rfl, ?_⟩) (by assumption) ?_
    rotate_left
    · intro w hSw; (try dsimp only at hSw); go_simp; first | done | with_reducible rfl
    try simp only [Act.put, List.setIfInBounds_toArray, List.set_cons_zero, List.set_cons_succ]
    refine wpAnyH_ready (rs := [14]) (by kernel_rfl) (by simp) ?_
    refine AllReadyH.cons (o := ({ dst := some 7, op := Op.alloc 24, type := 0, pos := "ref.go:222", after := #[], guard := none } : Oper)) rfl (fun K hK => ?_) AllReadyH.nil
    go_simp
    refine hK.out _ _ (⟨cell_drew (cell_alloc_old i0 _), cell_drew (cell_alloc_old i1 _), cell_drew (cell_alloc_old i2 _), cell_drew (cell_alloc_old q1 _)⟩) (fun hHeld => ?_)
    clear hK K
    try simp only [Act.put, List.setIfInBounds_toArray, List.set_cons_zero, List.set_cons_succ]
    refine wpAnyH_ready (rs := [15]) (by kernel_rfl) (by simp) ?_
    refine AllReadyH.cons (o := ({ dst := none, op := Op.store 24 (Operand.tmp 7) (Operand.tmp 30), type := 0, pos := "ref.go:222", after := #[{ on := 14, ground := Ground.data }, { on := 13, ground := Ground.data }, { on := 0, ground := Ground.phase }, { on := 1, ground := Ground.phase }, { on := 2, ground := Ground.phase }, { on := 3, ground := Ground.phase }, { on := 4, ground := Ground.phase }, { on := 5, ground := Ground.phase }, { on := 6, ground := Ground.phase }, { on := 7, ground := Ground.phase }, { on := 8, ground := Ground.phase }, { on := 9, ground := Ground.phase }, { on := 10, ground := Ground.phase }, { on := 11, ground := Ground.phase }, { on := 12, ground := Ground.phase }, { on := 13, ground := Ground.phase }, { on := 14, ground := Ground.phase }], guard := none } : Oper)) rfl (fun K hK => ?_) AllReadyH.nil
    go_simp
    refine hK.out _ _ (⟨cell_drew (cell_alloc_old i0 _), cell_drew (cell_alloc_old i1 _), cell_drew (cell_alloc_old i2 _), cell_drew (cell_alloc_old q1 _)⟩) (fun hHeld => ?_)
    clear hK K
    try simp only [Act.put, List.setIfInBounds_toArray, List.set_cons_zero, List.set_cons_succ]
    refine wpAnyH_done (by kernel_rfl) ?_ _
    have hal := below_drew ((Below.refl w2.heap.size w2).alloc (Nat.le_refl _) (.cells #[.int .i64 (x - 1), .int .i64 y, .int .i64 z, .slice B1 f1.length d1] 24))
    have HB3 := Lib.hid (below_next HB2.out hal HB2.out.size)
    have HK3 := Lib.hid (HK2.out.kept hal)
    have HJ3 := Lib.hid (bk_drew (Bk.new w2 24 [.int .i64 (x - 1), .int .i64 y, .int .i64 z, .slice B1 f1.length d1]))
    have HF3 := Lib.hid (HF.out.below hal)
    obtain ⟨X, hX⟩ : ∃ X, X = (w2.alloc (.cells #[.int .i64 (x - 1), .int .i64 y, .int .i64 z, .slice B1 f1.length d1] 24)).drew := ⟨_, rfl⟩
    rw [← hX] at HB3 HK3 HJ3 HF3 ⊢
    clear hX hal i0 i1 i2 q1
    have m0 := HJ3.out.at_ (i := 0) rfl; have m1 := HJ3.out.at_ (i := 1) rfl; have m2 := HJ3.out.at_ (i := 2) rfl; have m3 := HJ3.out.at_ (i := 3) rfl
    go_wp2_with fail
    clear m0 m1 m2 m3
    refine (refEntry_any ⟨x - 1, y, z, f1⟩ B1 d1 _).mono ?_
    rintro e w4 ⟨rfl, hb4⟩
    have HB5 := Lib.hid (below_next HB3.out hb4 HB3.out.size)
    have HK5 := Lib.hid (HK3.out.kept hb4)
    have HJ5 := Lib.hid (HJ3.out.kept hb4)
    have HF5 := Lib.hid (HF3.out.below hb4)
    clear hb4
    have j0 := HK5.out.at_ (i := 0) rfl; have z0 := HK5.out.frozen 0; have j1 := HK5.out.at_ (i := 1) rfl; have z1 := HK5.out.frozen 1; have j2 := HK5.out.at_ (i := 2) rfl; have z2 := HK5.out.frozen 2; have j3 := HK5.out.at_ (i := 3) rfl; have z3 := HK5.out.frozen 3
    cases ho : En.ok ⟨x - 1, y, z, f1⟩
    · have HD := Lib.hid (show decEn l = none by unfold decEn okX; rw [HX.out]; simp [ho])
      clear ho
      go_wp2_with fail
      have kk := ((((HK5.out).set 0 (.int .i64 0)).set 1 (.int .i64 0)).set 2 (.int .i64 0)).set 3 (.slice none 0 0)
      have gr := grown_set (grown_set (grown_set (grown_set (grown_refl w4 (some w.heap.size)) 0 (.int .i64 0)) 1 (.int .i64 0)) 2 (.int .i64 0)) 3 (.slice none 0 0)
      refine bodyPost_ret_by (results_row_tmp rfl _ _ w.heap.size 24 _ _ rfl kk Try.underlying24 rfl info1_E) rfl ?_
      exact ⟨HB5.out.grown gr HB5.out.size (fun g hg => by cases hg; omega), .inr ⟨HD.out, rfl⟩⟩
    · have HD := Lib.hid (show decEn l = some ⟨x - 1, y, z, f1⟩ by unfold decEn okX; rw [HX.out]; simp [ho])
      clear ho
      have m0 := HJ5.out.at_ (i := 0) rfl; have m1 := HJ5.out.at_ (i := 1) rfl; have m2 := HJ5.out.at_ (i := 2) rfl; have m3 := HJ5.out.at_ (i := 3) rfl
      go_wp2_with fail
      have kk := ((((HK5.out).set 0 (.int .i64 (x - 1))).set 1 (.int .i64 y)).set 2 (.int .i64 z)).set 3 (.slice B1 f1.length d1)
      have gr := grown_set (grown_set (grown_set (grown_set (grown_refl w4 (some w.heap.size)) 0 (.int .i64 (x - 1))) 1 (.int .i64 y)) 2 (.int .i64 z)) 3 (.slice B1 f1.length d1)
      have hlt := HK.out.lt
      have hf := HF5.out.keep (F' := From w.heap.size) (Kp.of_grown gr fun b hb e => by injection e with e; unfold From at hb; simp at hb; omega) (fun b hb _ => by unfold From at *; simp at hb; omega)
      refine bodyPost_ret_by (results_row_tmp rfl _ _ w.heap.size 24 _ _ rfl kk Try.underlying24 rfl info1_E) rfl ?_
      exact ⟨HB5.out.grown gr HB5.out.size (fun g hg => by cases hg; omega), .inl ⟨_, B1, d1, HD.out, rfl, hf⟩⟩
end Go.Proofs.Ytmgmmbgjmnklkaa
