import Derived.Test.YtmgmmbgjmnklkaaMsgRef2
import Derived.Test.YtmgmmbgjmnklkaaRefSplit
import Derived.Test.YtmgmmbgjmnklkaaMsgTwoWay
import Derived.Deep.CutRange

/-
  The reference's fields. A walk; no statement.
-/
namespace Go.Proofs.Ytmgmmbgjmnklkaa
set_option maxRecDepth 100000
open Go.RowKit
open Pk
set_option linter.unusedVariables false

theorem add_zero8 (a : Addr) : a.add 0 = a := by unfold Addr.add; simp
theorem own_i_more {w : World} {B B' : Nat} {A : Option Addr} {n c : Nat} {l : List Int} (h : OwnI w B A n c l) (hb : B' ≤ B) : OwnI w B' A n c l := by
  refine ⟨h.1, ?_⟩
  rcases h.2 with h2 | ⟨g, cap, cur, e1, e2, e3⟩
  · exact .inl h2
  · exact .inr ⟨g, cap, cur, e1, Nat.le_trans hb e2, e3⟩
/-- so many fields, the first of them so many numbers -/
def FldP (l : List UInt8) (n k : Nat) (w : World) (e : Ending) (w' : World) : Prop :=
  Below w.heap.size w w' ∧ ((∃ f0 rest vs, rdFlds n l = some (f0 :: rest) ∧ rdNums k f0 = some vs ∧ ∃ A c B d, e = .returned (.tuple #[.slice A n c, .slice B k d, .bool true]) ∧ OwnRs w' w.heap.size A n c (f0 :: rest) ∧ OwnI w' w.heap.size B k d vs) ∨
    ((∀ f0 rest, rdFlds n l = some (f0 :: rest) → rdNums k f0 = none) ∧ ∃ u v, e = .returned (.tuple #[u, v, .bool false])))
set_option maxHeartbeats 1600000 in
theorem refFields_any (L : Option Addr) (ln lc : Nat) (l : List UInt8) (n k : Nat) (w : World) (h : Sl w L ln lc l) (hn : ln ≤ 4294967296) (hn1 : 1 ≤ n) :
    Calls Try.prog 52 #[.slice L ln lc, .int .i64 n, .int .i64 k] w (FldP l n k w) := by
  have H := Lib.hid (refSplit_any L ln lc l w h.rd h.1 h.2.1 (by omega))
  clear h hn
  go_enter Try.func52, Try.ntmps52
  go_wp2_with fail
  refine H.out.mono ?_
  rintro e w1 ⟨hb1, ⟨h0, rfl⟩ | ⟨h0, A1, m1, c1, rfl, ho1⟩⟩
  · have hk : (((splitN l).1 : Int) != 0) = true := by rw [bne_iff_ne]; omega
    have HF := Lib.hid (show ∀ f0 rest, rdFlds n l = some (f0 :: rest) → rdNums k f0 = none by
      intro f0 rest hf
      unfold rdFlds at hf
      rw [if_neg (fun q => h0 q.1)] at hf
      cases hf)
    clear h0
    go_wp2_with fail
    go_ret3
    exact ⟨hb1, .inr ⟨HF.out, _, _, rfl⟩⟩
  have hlen : (splitN l).2.length = m1 := ho1.1
  by_cases hm : m1 = n
  rotate_left
  · have hk : ((m1 : Int) != (n : Int)) = true := by rw [bne_iff_ne]; omega
    have HF := Lib.hid (show ∀ f0 rest, rdFlds n l = some (f0 :: rest) → rdNums k f0 = none by
      intro f0 rest hf
      unfold rdFlds at hf
      rw [if_neg (fun q => hm (by rw [← hlen]; exact q.2))] at hf
      cases hf)
    clear h0 hm hlen
    go_wp2_with fail
    go_ret3
    exact ⟨hb1, .inr ⟨HF.out, _, _, rfl⟩⟩
  subst hm
  have hsf := split_fields h0
  have HRF := Lib.hid (show rdFlds m1 l = some (splitN l).2 by unfold rdFlds; rw [if_pos ⟨h0, hlen⟩])
  match hfs : (splitN l).2, hlen with
  | [], hlen => simp at hlen; omega
  | f0 :: rest, hlen =>
    rw [hfs] at HRF ho1 hsf
    have HO := Lib.hid ho1
    obtain ⟨x, B, d, rfl, hxb, c0, hbf⟩ := (RdS.of_own ho1).b1 (k := 0) (l := f0) rfl
    rw [add_zero8] at c0
    have HI := Lib.hid (refInts_any B f0.length d f0 w1 hbf.rd hbf.1.1 hbf.1.2.1 (by have := hsf f0 (by simp); omega))
    have HB := Lib.hid hb1
    have y0 : (0 : Int) < (m1 : Int) := by omega
    clear hb1 ho1 hbf hxb h0 hlen hsf hfs
    go_wp2_with fail
    clear c0 y0
    refine HI.out.mono ?_
    rintro e w2 ⟨hb2, ⟨h0, rfl⟩ | ⟨h0, A2, m2, c2, rfl, ho2⟩⟩
    · have hk : (((intsN f0).1 : Int) == 0) = false := by rw [beq_eq_false_iff_ne]; omega
      have HF := Lib.hid (show ∀ g0 rest', rdFlds m1 l = some (g0 :: rest') → rdNums k g0 = none by
        intro g0 rest' hf
        rw [HRF.out] at hf
        injection hf with hf
        injection hf with hf _
        subst hf
        unfold rdNums
        rw [if_neg (fun q => h0 q.1)])
      have HB2 := Lib.hid (below_next HB.out hb2 HB.out.size)
      clear h0 hb2
      go_wp2_with fail
      go_ret3
      exact ⟨HB2.out, .inr ⟨HF.out, _, _, rfl⟩⟩
    have hl2 : (intsN f0).2.length = m2 := ho2.len
    have HB2 := Lib.hid (below_next HB.out hb2 HB.out.size)
    have HO2 := Lib.hid (HO.out.below hb2)
    by_cases hm : m2 = k
    · subst hm
      have HRN := Lib.hid (show rdNums m2 f0 = some (intsN f0).2 by unfold rdNums; rw [if_pos ⟨h0, hl2⟩])
      have HI2 := Lib.hid (own_i_more ho2 HB.out.size)
      clear h0 hl2 hb2 ho2
      go_wp2_with fail
      go_ret3
      exact ⟨HB2.out, .inl ⟨f0, rest, _, HRF.out, HRN.out, _, _, _, _, by simp, HO2.out, HI2.out⟩⟩
    · have hk : ((m2 : Int) == (k : Int)) = false := by rw [beq_eq_false_iff_ne]; omega
      have HF := Lib.hid (show ∀ g0 rest', rdFlds m1 l = some (g0 :: rest') → rdNums k g0 = none by
        intro g0 rest' hf
        rw [HRF.out] at hf
        injection hf with hf
        injection hf with hf _
        subst hf
        unfold rdNums
        rw [if_neg (fun q => hm (by rw [← hl2]; exact q.2))])
      clear h0 hb2 hm hl2 ho2
      go_wp2_with fail
      go_ret3
      exact ⟨HB2.out, .inr ⟨HF.out, _, _, rfl⟩⟩
end Go.Proofs.Ytmgmmbgjmnklkaa

/-
  The reference's ReadEntry. A walk; no statement.
-/
namespace Go.Proofs.Ytmgmmbgjmnklkaa
set_option maxRecDepth 100000
open Go.RowKit
open Pk
set_option linter.unusedVariables false


theorem cell_alloc_old {w : World} {p : Addr} {v : Value} (h : w.cell? p = some v) (o : Obj) : (w.alloc o).cell? p = some v := kept_cell h ((Below.refl w.heap.size w).alloc (Nat.le_refl _) o)
set_option maxHeartbeats 1600000 in
theorem refReadEntry_any (L : Option Addr) (ln lc : Nat) (l : List UInt8) (w : World) (h : Sl w L ln lc l) (hn : ln ≤ 4294967296) :
    Calls Try.prog 31 #[.slice L ln lc] w (DecE l w) := by
  have hB := (Below.refl w.heap.size w).alloc (Nat.le_refl _) (.cells #[.int .i64 0, .int .i64 0, .int .i64 0, .slice none 0 0] 24)
  have HB := Lib.hid hB
  have HK := Lib.hid (Bk.new w 24 [.int .i64 0, .int .i64 0, .int .i64 0, .slice none 0 0])
  have HC := Lib.hid (refFields_any L ln lc l 2 3 _ (h.below hB) hn (by omega))
  clear h hn hB
  go_enter Try.func31, Try.ntmps31
  go_wp2_with fail
  refine HC.out.mono ?_
  rintro e w2 ⟨hb2, ⟨f0, rest, vs, hf, hv, A, c, B, d, rfl, hof, hoi⟩ | ⟨hno, u, v, rfl⟩⟩
  rotate_left
  · have HB2 := Lib.hid (below_next HB.out hb2 HB.out.size)
    have HK2 := Lib.hid (HK.out.kept hb2)
    have HD := Lib.hid (show decEn l = none by
      unfold decEn okX rdEn
      cases hq : rdFlds 2 l with
      | none => rfl
      | some fs =>
        match fs with
        | [] => rfl
        | [_] => rfl
        | [f0, f1] => simp only [hno f0 [f1] hq]
        | _ :: _ :: _ :: _ => rfl)
    have j0 := HK2.out.at_ (i := 0) rfl
    have z0 := HK2.out.frozen 0
    have j1 := HK2.out.at_ (i := 1) rfl
    have z1 := HK2.out.frozen 1
    have j2 := HK2.out.at_ (i := 2) rfl
    have z2 := HK2.out.frozen 2
    have j3 := HK2.out.at_ (i := 3) rfl
    have z3 := HK2.out.frozen 3
    clear hb2 hno
    go_wp2_with fail
    have kk := (((HK2.out.set 0 (.int .i64 0)).set 1 (.int .i64 0)).set 2 (.int .i64 0)).set 3 (.slice none 0 0)
    have gr := grown_set (grown_set (grown_set (grown_set (grown_refl w2 (some w.heap.size)) 0 (.int .i64 0)) 1 (.int .i64 0)) 2 (.int .i64 0)) 3 (.slice none 0 0)
    refine bodyPost_ret_by (results_row_tmp rfl _ _ w.heap.size 24 _ _ rfl kk Try.underlying24 rfl info1_E) rfl ?_
    exact ⟨HB2.out.grown gr HB2.out.size (fun g hg => by cases hg; omega), .inr ⟨HD.out, rfl⟩⟩
  obtain ⟨hl3, hrg⟩ := rdNums_range hv
  obtain ⟨_, hfl⟩ := rdFlds_join hf
  match rest, hfl, vs, hl3 with
  | [f1], _, [x, y, z], _ =>
    have HB2 := Lib.hid (below_next HB.out hb2 HB.out.size)
    have HK2 := Lib.hid (HK.out.kept hb2)
    obtain ⟨xf, B1, d1, rfl, hxf, q1, hbf⟩ := (RdS.of_own hof).b1 (k := 1) (l := f1) rfl
    obtain ⟨gi, rfl, hgi, hgil, hci⟩ := hoi.at_ (by omega)
    have q1 : w2.cell? ⟨xf.block, xf.off + 1, none⟩ = some (.slice B1 f1.length d1) := by have := q1; simpa [Addr.add] using this
    have HX := Lib.hid (show rdEn l = some ⟨x - 1, y, z, f1⟩ by unfold rdEn; rw [hf]; simp only [hv])
    have HF := Lib.hid hbf
    have xr := hrg x (by simp)
    have i0 := hci 0 x rfl
    have i1 := hci 1 y rfl
    have i2 := hci 2 z rfl
    have y3 : IntKind.i64.wrap (x - 1) = x - 1 := by rw [IntKind.wrap_i64]; omega
    obtain ⟨xr0, xr1⟩ := xr
    clear hb2 hof hoi hxf hbf hci hv hf hrg hgi hgil
    go_wp2_with fail
    refine wp_region_held_drew (S := fun w' => w'.cell? ⟨gi, 0, none⟩ = some (.int .i64 x) ∧ w'.cell? ⟨gi, 1, none⟩ = some (.int .i64 y) ∧ w'.cell? ⟨gi, 2, none⟩ = some (.int .i64 z) ∧ w'.cell? ⟨xf.block, xf.off + 1, none⟩ = some (.slice B1 f1.length d1)) (by kernel_rfl) (⟨i0, i1, i2, q1⟩) (fun hHeld => ?_)
    refine wpAnyH_take (i := 0) (oi := ({ dst := some 17, op := Op.move (Operand.tmp 5), type := 70, pos := "ref.go:222", after := #[], guard := none } : Oper)) (v := ?_) rfl (by kernel_rfl) (by kernel_rfl) (by kernel_rfl) (fun _ _ _ h => h) (Or.inl ⟨by rfl, ?_⟩) (by assumption) ?_
    rotate_left
    · intro w hSw; (try dsimp only at hSw); go_simp; first | done | with_reducible rfl
    try simp only [Act.put, List.setIfInBounds_toArray, List.set_cons_zero, List.set_cons_succ]
    refine wpAnyH_take (i := 1) (oi := ({ dst := some 18, op := Op.indexAddr 70 (Operand.tmp 17) (Operand.const (Value.int IntKind.i64 0)), type := 0, pos := "ref.go:222", after := #[{ on := 0, ground := Ground.data }], guard := none } : Oper)) (v := ?_) rfl (by kernel_rfl) (by kernel_rfl) (by kernel_rfl) (fun _ _ _ h => h) (Or.inl ⟨by rfl, ?_⟩) (by assumption) ?_
    rotate_left
    · intro w hSw; (try dsimp only at hSw); go_simp; first | done | with_reducible rfl
    try simp only [Act.put, List.setIfInBounds_toArray, List.set_cons_zero, List.set_cons_succ]
    refine wpAnyH_take (i := 2) (oi := ({ dst := some 19, op := Op.load 3 (Operand.tmp 18), type := 3, pos := "ref.go:222", after := #[{ on := 1, ground := Ground.data }], guard := none } : Oper)) (v := ?_) rfl (by kernel_rfl) (by kernel_rfl) (by kernel_rfl) (fun _ _ _ h => h) (Or.inl ⟨by rfl, ?_⟩) (by assumption) ?_
    rotate_left
    · intro w hSw; (try dsimp only at hSw); go_simp; first | done | with_reducible rfl
    try simp only [Act.put, List.setIfInBounds_toArray, List.set_cons_zero, List.set_cons_succ]
    refine wpAnyH_take (i := 3) (oi := ({ dst := some 20, op := Op.binOp BinOp.sub 3 (Operand.tmp 19) (Operand.const (Value.int IntKind.i64 1)) 3, type := 3, pos := "ref.go:222", after := #[{ on := 2, ground := Ground.data }], guard := none } : Oper)) (v := ?_) rfl (by kernel_rfl) (by kernel_rfl) (by kernel_rfl) (fun _ _ _ h => h) (Or.inl ⟨by rfl, ?_⟩) (by assumption) ?_
    rotate_left
    · intro w hSw; (try dsimp only at hSw); go_simp; first | done | with_reducible rfl
    try simp only [Act.put, List.setIfInBounds_toArray, List.set_cons_zero, List.set_cons_succ]
    refine wpAnyH_take (i := 4) (oi := ({ dst := some 21, op := Op.move (Operand.tmp 5), type := 70, pos := "ref.go:222", after := #[], guard := none } : Oper)) (v := ?_) rfl (by kernel_rfl) (by kernel_rfl) (by kernel_rfl) (fun _ _ _ h => h) (Or.inl ⟨by rfl, ?_⟩) (by assumption) ?_
    rotate_left
    · intro w hSw; (try dsimp only at hSw); go_simp; first | done | with_reducible rfl
    try simp only [Act.put, List.setIfInBounds_toArray, List.set_cons_zero, List.set_cons_succ]
    refine wpAnyH_take (i := 5) (oi := ({ dst := some 22, op := Op.indexAddr 70 (Operand.tmp 21) (Operand.const (Value.int IntKind.i64 1)), type := 0, pos := "ref.go:222", after := #[{ on := 4, ground := Ground.data }], guard := none } : Oper)) (v := ?_) rfl (by kernel_rfl) (by kernel_rfl) (by kernel_rfl) (fun _ _ _ h => h) (Or.inl ⟨by rfl, ?_⟩) (by assumption) ?_
    rotate_left
    · intro w hSw; (try dsimp only at hSw); go_simp; first | done | with_reducible rfl
    try simp only [Act.put, List.setIfInBounds_toArray, List.set_cons_zero, List.set_cons_succ]
    refine wpAnyH_take (i := 6) (oi := ({ dst := some 23, op := Op.load 3 (Operand.tmp 22), type := 3, pos := "ref.go:222", after := #[{ on := 5, ground := Ground.data }], guard := none } : Oper)) (v := ?_) rfl (by kernel_rfl) (by kernel_rfl) (by kernel_rfl) (fun _ _ _ h => h) (Or.inl ⟨by rfl, ?_⟩) (by assumption) ?_
    rotate_left
    · intro w hSw; (try dsimp only at hSw); go_simp; first | done | with_reducible rfl
    try simp only [Act.put, List.setIfInBounds_toArray, List.set_cons_zero, List.set_cons_succ]
    refine wpAnyH_take (i := 7) (oi := ({ dst := some 24, op := Op.move (Operand.tmp 5), type := 70, pos := "ref.go:222", after := #[], guard := none } : Oper)) (v := ?_) rfl (by kernel_rfl) (by kernel_rfl) (by kernel_rfl) (fun _ _ _ h => h) (Or.inl ⟨by rfl, ?_⟩) (by assumption) ?_
    rotate_left
    · intro w hSw; (try dsimp only at hSw); go_simp; first | done | with_reducible rfl
    try simp only [Act.put, List.setIfInBounds_toArray, List.set_cons_zero, List.set_cons_succ]
    refine wpAnyH_take (i := 8) (oi := ({ dst := some 25, op := Op.indexAddr 70 (Operand.tmp 24) (Operand.const (Value.int IntKind.i64 2)), type := 0, pos := "ref.go:222", after := #[{ on := 7, ground := Ground.data }], guard := none } : Oper)) (v := ?_) rfl (by kernel_rfl) (by kernel_rfl) (by kernel_rfl) (fun _ _ _ h => h) (Or.inl ⟨by rfl, ?_⟩) (by assumption) ?_
    rotate_left
    · intro w hSw; (try dsimp only at hSw); go_simp; first | done | with_reducible rfl
    try simp only [Act.put, List.setIfInBounds_toArray, List.set_cons_zero, List.set_cons_succ]
    refine wpAnyH_take (i := 9) (oi := ({ dst := some 26, op := Op.load 3 (Operand.tmp 25), type := 3, pos := "ref.go:222", after := #[{ on := 8, ground := Ground.data }], guard := none } : Oper)) (v := ?_) rfl (by kernel_rfl) (by kernel_rfl) (by kernel_rfl) (fun _ _ _ h => h) (Or.inl ⟨by rfl, ?_⟩) (by assumption) ?_
    rotate_left
    · intro w hSw; (try dsimp only at hSw); go_simp; first | done | with_reducible rfl
    try simp only [Act.put, List.setIfInBounds_toArray, List.set_cons_zero, List.set_cons_succ]
    refine wpAnyH_take (i := 10) (oi := ({ dst := some 27, op := Op.move (Operand.tmp 4), type := 44, pos := "ref.go:222", after := #[], guard := none } : Oper)) (v := ?_) rfl (by kernel_rfl) (by kernel_rfl) (by kernel_rfl) (fun _ _ _ h => h) (Or.inl ⟨by rfl, ?_⟩) (by assumption) ?_
    rotate_left
    · intro w hSw; (try dsimp only at hSw); go_simp; first | done | with_reducible rfl
    try simp only [Act.put, List.setIfInBounds_toArray, List.set_cons_zero, List.set_cons_succ]
    refine wpAnyH_take (i := 11) (oi := ({ dst := some 28, op := Op.indexAddr 44 (Operand.tmp 27) (Operand.const (Value.int IntKind.i64 1)), type := 0, pos := "ref.go:222", after := #[{ on := 10, ground := Ground.data }], guard := none } : Oper)) (v := ?_) rfl (by kernel_rfl) (by kernel_rfl) (by kernel_rfl) (fun _ _ _ h => h) (Or.inl ⟨by rfl, ?_⟩) (by assumption) ?_
    rotate_left
    · intro w hSw; (try dsimp only at hSw); go_simp; first | done | with_reducible rfl
    try simp only [Act.put, List.setIfInBounds_toArray, List.set_cons_zero, List.set_cons_succ]
    refine wpAnyH_take (i := 12) (oi := ({ dst := some 29, op := Op.load 22 (Operand.tmp 28), type := 22, pos := "ref.go:222", after := #[{ on := 11, ground := Ground.data }], guard := none } : Oper)) (v := ?_) rfl (by kernel_rfl) (by kernel_rfl) (by kernel_rfl) (fun _ _ _ h => h) (Or.inl ⟨by rfl, ?_⟩) (by assumption) ?_
    rotate_left
    · intro w hSw; (try dsimp only at hSw); go_simp; first | done | with_reducible rfl
    try simp only [Act.put, List.setIfInBounds_toArray, List.set_cons_zero, List.set_cons_succ]
    refine wpAnyH_take (i := 13) (oi := ({ dst := some 30, op := Op.build 24 #[(0, Operand.tmp 20), (1, Operand.tmp 23), (2, Operand.tmp 26), (3, Operand.tmp 29)], type := 24, pos := "ref.go:222", after := #[{ on := 3, ground := Ground.data }, { on := 6, ground := Ground.data }, { on := 9, ground := Ground.data }, { on := 12, ground := Ground.data }], guard := none } : Oper)) (v := ?_) rfl (by kernel_rfl) (by kernel_rfl) (by kernel_rfl) (fun _ _ _ h => h) (Or.inl ⟨by rfl, ?_⟩) (by assumption) ?_
    rotate_left
    · intro w hSw; (try dsimp only at hSw); go_simp; first | done | with_reducible rfl
    try simp only [Act.put, List.setIfInBounds_toArray, List.set_cons_zero, List.set_cons_succ]
    refine wpAnyH_ready (rs := [14]) (by kernel_rfl) (by simp) ?_
    refine AllReadyH.cons (o := ({ dst := some 7, op := Op.alloc 24, type := 0, pos := "ref.go:222", after := #[], guard := none } : Oper)) rfl (fun K hK => ?_) AllReadyH.nil
    go_simp
    refine hK.out _ _ (⟨cell_drew (cell_alloc_old i0 _), cell_drew (cell_alloc_old i1 _), cell_drew (cell_alloc_old i2 _), cell_drew (cell_alloc_old q1 _)⟩) (fun hHeld => ?_)
    clear hK K
    try simp only [Act.put, List.setIfInBounds_toArray, List.set_cons_zero, List.set_cons_succ]
    refine wpAnyH_ready (rs := [15]) (by kernel_rfl) (by simp) ?_
    refine AllReadyH.cons (o := ({ dst := none, op := Op.store 24 (Operand.tmp 7) (Operand.tmp 30), type := 0, pos := "ref.go:222", after := #[{ on := 14, ground := Ground.data }, { on := 13, ground := Ground.data }, { on := 0, ground := Ground.phase }, { on := 1, ground := Ground.phase }, { on := 2, ground := Ground.phase }, { on := 3, ground := Ground.phase }, { on := 4, ground := Ground.phase }, { on := 5, ground := Ground.phase }, { on := 6, ground := Ground.phase }, { on := 7, ground := Ground.phase }, { on := 8, ground := Ground.phase }, { on := 9, ground := Ground.phase }, { on := 10, ground := Ground.phase }, { on := 11, ground := Ground.phase }, { on := 12, ground := Ground.phase }, { on := 13, ground := Ground.phase }, { on := 14, ground := Ground.phase }], guard := none } : Oper)) rfl (fun K hK => ?_) AllReadyH.nil
    go_simp
    refine hK.out _ _ (⟨cell_drew (cell_alloc_old i0 _), cell_drew (cell_alloc_old i1 _), cell_drew (cell_alloc_old i2 _), cell_drew (cell_alloc_old q1 _)⟩) (fun hHeld => ?_)
    clear hK K
    try simp only [Act.put, List.setIfInBounds_toArray, List.set_cons_zero, List.set_cons_succ]
    refine wpAnyH_done (by kernel_rfl) ?_ _
    have hal := below_drew ((Below.refl w2.heap.size w2).alloc (Nat.le_refl _) (.cells #[.int .i64 (x - 1), .int .i64 y, .int .i64 z, .slice B1 f1.length d1] 24))
    have HB3 := Lib.hid (below_next HB2.out hal HB2.out.size)
    have HK3 := Lib.hid (HK2.out.kept hal)
    have HJ3 := Lib.hid (bk_drew (Bk.new w2 24 [.int .i64 (x - 1), .int .i64 y, .int .i64 z, .slice B1 f1.length d1]))
    have HF3 := Lib.hid (HF.out.below hal)
    obtain ⟨X, hX⟩ : ∃ X, X = (w2.alloc (.cells #[.int .i64 (x - 1), .int .i64 y, .int .i64 z, .slice B1 f1.length d1] 24)).drew := ⟨_, rfl⟩
    rw [← hX] at HB3 HK3 HJ3 HF3 ⊢
    clear hX hal i0 i1 i2 q1
    have m0 := HJ3.out.at_ (i := 0) rfl; have m1 := HJ3.out.at_ (i := 1) rfl; have m2 := HJ3.out.at_ (i := 2) rfl; have m3 := HJ3.out.at_ (i := 3) rfl
    go_wp2_with fail
    clear m0 m1 m2 m3
    refine (refEntry_any ⟨x - 1, y, z, f1⟩ B1 d1 _).mono ?_
    rintro e w4 ⟨rfl, hb4⟩
    have HB5 := Lib.hid (below_next HB3.out hb4 HB3.out.size)
    have HK5 := Lib.hid (HK3.out.kept hb4)
    have HJ5 := Lib.hid (HJ3.out.kept hb4)
    have HF5 := Lib.hid (HF3.out.below hb4)
    clear hb4
    have j0 := HK5.out.at_ (i := 0) rfl; have z0 := HK5.out.frozen 0; have j1 := HK5.out.at_ (i := 1) rfl; have z1 := HK5.out.frozen 1; have j2 := HK5.out.at_ (i := 2) rfl; have z2 := HK5.out.frozen 2; have j3 := HK5.out.at_ (i := 3) rfl; have z3 := HK5.out.frozen 3
    cases ho : En.ok ⟨x - 1, y, z, f1⟩
    · have HD := Lib.hid (show decEn l = none by unfold decEn okX; rw [HX.out]; simp [ho])
      clear ho
      go_wp2_with fail
      have kk := ((((HK5.out).set 0 (.int .i64 0)).set 1 (.int .i64 0)).set 2 (.int .i64 0)).set 3 (.slice none 0 0)
      have gr := grown_set (grown_set (grown_set (grown_set (grown_refl w4 (some w.heap.size)) 0 (.int .i64 0)) 1 (.int .i64 0)) 2 (.int .i64 0)) 3 (.slice none 0 0)
      refine bodyPost_ret_by (results_row_tmp rfl _ _ w.heap.size 24 _ _ rfl kk Try.underlying24 rfl info1_E) rfl ?_
      exact ⟨HB5.out.grown gr HB5.out.size (fun g hg => by cases hg; omega), .inr ⟨HD.out, rfl⟩⟩
    · have HD := Lib.hid (show decEn l = some ⟨x - 1, y, z, f1⟩ by unfold decEn okX; rw [HX.out]; simp [ho])
      clear ho
      have m0 := HJ5.out.at_ (i := 0) rfl; have m1 := HJ5.out.at_ (i := 1) rfl; have m2 := HJ5.out.at_ (i := 2) rfl; have m3 := HJ5.out.at_ (i := 3) rfl
      go_wp2_with fail
      have kk := ((((HK5.out).set 0 (.int .i64 (x - 1))).set 1 (.int .i64 y)).set 2 (.int .i64 z)).set 3 (.slice B1 f1.length d1)
      have gr := grown_set (grown_set (grown_set (grown_set (grown_refl w4 (some w.heap.size)) 0 (.int .i64 (x - 1))) 1 (.int .i64 y)) 2 (.int .i64 z)) 3 (.slice B1 f1.length d1)
      have hlt := HK.out.lt
      have hf := HF5.out.keep (F' := From w.heap.size) (Kp.of_grown gr fun b hb e => by injection e with e; unfold From at hb; simp at hb; omega) (fun b hb _ => by unfold From at *; simp at hb; omega)
      refine bodyPost_ret_by (results_row_tmp rfl _ _ w.heap.size 24 _ _ rfl kk Try.underlying24 rfl info1_E) rfl ?_
      exact ⟨HB5.out.grown gr HB5.out.size (fun g hg => by cases hg; omega), .inl ⟨_, B1, d1, HD.out, rfl, hf⟩⟩
end Go.Proofs.Ytmgmmbgjmnklkaa

/-
  The reference's ReadLetter. A walk; no statement.
-/
namespace Go.Proofs.Ytmgmmbgjmnklkaa
set_option maxRecDepth 100000
open Go.RowKit
open Pk
set_option linter.unusedVariables false

set_option maxHeartbeats 3200000 in
theorem refReadLetter_any (L : Option Addr) (ln lc : Nat) (l : List UInt8) (w : World) (h : Sl w L ln lc l) (hn : ln ≤ 4294967296) :
    Calls Try.prog 29 #[.slice L ln lc] w (DecL l w) := by
  have hB := (Below.refl w.heap.size w).alloc (Nat.le_refl _) (.cells #[.int .i64 0, .int .i64 0, .int .i64 0, .slice none 0 0, .slice none 0 0] 46)
  have HB := Lib.hid hB
  have HK := Lib.hid (Bk.new w 46 [.int .i64 0, .int .i64 0, .int .i64 0, .slice none 0 0, .slice none 0 0])
  have HC := Lib.hid (refFields_any L ln lc l 3 3 _ (h.below hB) hn (by omega))
  have hlt0 := (Bk.new w 46 [.int .i64 0, .int .i64 0, .int .i64 0, .slice none 0 0, .slice none 0 0]).lt
  have HLT := Lib.hid hlt0
  clear h hn hB hlt0
  go_enter Try.func29, Try.ntmps29
  go_wp2_with fail
  refine HC.out.mono ?_
  rintro e w2 ⟨hb2, ⟨f0, rest, vs, hf, hv, A, c, B, d, rfl, hof, hoi⟩ | ⟨hno, u, v, rfl⟩⟩
  rotate_left
  · have HB2 := Lib.hid (below_next HB.out hb2 HB.out.size)
    have HK2 := Lib.hid (HK.out.kept hb2)
    have HD := Lib.hid (show decLt l = none by
      unfold decLt okX rdLt
      cases hq : rdFlds 3 l with
      | none => rfl
      | some fs =>
        match fs with
        | [] => rfl
        | [_] => rfl
        | [_, _] => rfl
        | [f0, f1, f2] => simp only [hno f0 [f1, f2] hq]
        | _ :: _ :: _ :: _ :: _ => rfl)
    have j0 := HK2.out.at_ (i := 0) rfl; have z0 := HK2.out.frozen 0; have j1 := HK2.out.at_ (i := 1) rfl; have z1 := HK2.out.frozen 1; have j2 := HK2.out.at_ (i := 2) rfl; have z2 := HK2.out.frozen 2; have j3 := HK2.out.at_ (i := 3) rfl; have z3 := HK2.out.frozen 3; have j4 := HK2.out.at_ (i := 4) rfl; have z4 := HK2.out.frozen 4
    clear hb2 hno
    go_wp2_with fail
    have kk := (((((HK2.out).set 0 (.int .i64 0)).set 1 (.int .i64 0)).set 2 (.int .i64 0)).set 3 (.slice none 0 0)).set 4 (.slice none 0 0)
    have gr := grown_set (grown_set (grown_set (grown_set (grown_set (grown_refl w2 (some w.heap.size)) 0 (.int .i64 0)) 1 (.int .i64 0)) 2 (.int .i64 0)) 3 (.slice none 0 0)) 4 (.slice none 0 0)
    refine bodyPost_ret_by (results_row_tmp rfl _ _ w.heap.size 46 _ _ rfl kk Try.underlying46 rfl info1_L) rfl ?_
    exact ⟨HB2.out.grown gr HB2.out.size (fun g hg => by cases hg; omega), .inr ⟨HD.out, rfl⟩⟩
  obtain ⟨hl3, hrg⟩ := rdNums_range hv
  obtain ⟨hjx, hfl⟩ := rdFlds_join hf
  have hf6 := (joinX_fields hjx).2.2
  match rest, hfl, vs, hl3 with
  | [f1, f2], _, [x, y, z], _ =>
    have HB2 := Lib.hid (below_next HB.out hb2 HB.out.size)
    have HK2 := Lib.hid (HK.out.kept hb2)
    obtain ⟨xf, B1, d1, rfl, hxf, q1, hbf⟩ := (RdS.of_own hof).b1 (k := 1) (l := f1) rfl
    obtain ⟨xf2, B2, d2, hx2, _, q2, hbf2⟩ := (RdS.of_own hof).b1 (k := 2) (l := f2) rfl
    injection hx2 with hx2
    subst hx2
    obtain ⟨gi, rfl, hgi, hgil, hci⟩ := hoi.at_ (by omega)
    have q1 : w2.cell? ⟨xf.block, xf.off + 1, none⟩ = some (.slice B1 f1.length d1) := by have := q1; simpa [Addr.add] using this
    have q2 : w2.cell? ⟨xf.block, xf.off + 2, none⟩ = some (.slice B2 f2.length d2) := by have := q2; simpa [Addr.add] using this
    have HX := Lib.hid (show rdLt l = match rdSplit f2 with | some ts => some ⟨x, y, z, f1, ts⟩ | none => none by unfold rdLt; rw [hf]; simp only [hv]; cases rdSplit f2 <;> rfl)
    have HF := Lib.hid hbf
    have HS := Lib.hid (refSplit_any B2 f2.length d2 f2 w2 hbf2.rd hbf2.1.1 hbf2.1.2.1 (by have := hf6 f2 (by simp); omega))
    have i0 := hci 0 x rfl
    have i1 := hci 1 y rfl
    have i2 := hci 2 z rfl
    clear hb2 hof hoi hxf hbf hbf2 hci hv hf hrg hgi hgil hjx hf6
    go_wp2_with fail
    refine HS.out.mono ?_
    rintro e w3 ⟨hb3, ⟨h0, rfl⟩ | ⟨h0, A4, n4, c4, rfl, ho4⟩⟩
    all_goals have HB3 := Lib.hid (below_next HB2.out hb3 HB2.out.size)
    all_goals have HK3 := Lib.hid (HK2.out.kept hb3)
    all_goals have HF3 := Lib.hid (HF.out.below hb3)
    all_goals have p0 := kept_cell i0 hb3
    all_goals have p1 := kept_cell i1 hb3
    all_goals have p2 := kept_cell i2 hb3
    all_goals have r1 := kept_cell q1 hb3
    · have hk : (((splitN f2).1 : Int) != 0) = true := by rw [bne_iff_ne]; omega
      have HD := Lib.hid (show decLt l = none by unfold decLt okX; rw [HX.out]; unfold rdSplit; rw [if_neg h0])
      clear h0 hb3 i0 i1 i2 q1 q2
      go_wp2_with fail
      refine wp_region_held_drew (S := fun w' => w'.cell? ⟨gi, 0, none⟩ = some (.int .i64 x) ∧ w'.cell? ⟨gi, 1, none⟩ = some (.int .i64 y) ∧ w'.cell? ⟨gi, 2, none⟩ = some (.int .i64 z) ∧ w'.cell? ⟨xf.block, xf.off + 1, none⟩ = some (.slice B1 f1.length d1)) (by kernel_rfl) (⟨p0, p1, p2, r1⟩) (fun hHeld => ?_)
      refine wpAnyH_take (i := 0) (oi := ({ dst := some 26, op := Op.move (Operand.tmp 5), type := 70, pos := "ref.go:193", after := #[], guard := none } : Oper)) (v := ?_) rfl (by kernel_rfl) (by kernel_rfl) (by kernel_rfl) (fun _ _ _ h => h) (Or.inl ⟨by rfl, ?_⟩) (by assumption) ?_
      rotate_left
      · intro w hSw; (try dsimp only at hSw); go_simp; first | done | with_reducible rfl
      try simp only [Act.put, List.setIfInBounds_toArray, List.set_cons_zero, List.set_cons_succ]
      refine wpAnyH_take (i := 1) (oi := ({ dst := some 27, op := Op.indexAddr 70 (Operand.tmp 26) (Operand.const (Value.int IntKind.i64 0)), type := 0, pos := "ref.go:193", after := #[{ on := 0, ground := Ground.data }], guard := none } : Oper)) (v := ?_) rfl (by kernel_rfl) (by kernel_rfl) (by kernel_rfl) (fun _ _ _ h => h) (Or.inl ⟨by rfl, ?_⟩) (by assumption) ?_
      rotate_left
      · intro w hSw; (try dsimp only at hSw); go_simp; first | done | with_reducible rfl
      try simp only [Act.put, List.setIfInBounds_toArray, List.set_cons_zero, List.set_cons_succ]
      refine wpAnyH_take (i := 2) (oi := ({ dst := some 28, op := Op.load 3 (Operand.tmp 27), type := 3, pos := "ref.go:193", after := #[{ on := 1, ground := Ground.data }], guard := none } : Oper)) (v := ?_) rfl (by kernel_rfl) (by kernel_rfl) (by kernel_rfl) (fun _ _ _ h => h) (Or.inl ⟨by rfl, ?_⟩) (by assumption) ?_
      rotate_left
      · intro w hSw; (try dsimp only at hSw); go_simp; first | done | with_reducible rfl
      try simp only [Act.put, List.setIfInBounds_toArray, List.set_cons_zero, List.set_cons_succ]
      refine wpAnyH_take (i := 3) (oi := ({ dst := some 29, op := Op.move (Operand.tmp 5), type := 70, pos := "ref.go:193", after := #[], guard := none } : Oper)) (v := ?_) rfl (by kernel_rfl) (by kernel_rfl) (by kernel_rfl) (fun _ _ _ h => h) (Or.inl ⟨by rfl, ?_⟩) (by assumption) ?_
      rotate_left
      · intro w hSw; (try dsimp only at hSw); go_simp; first | done | with_reducible rfl
      try simp only [Act.put, List.setIfInBounds_toArray, List.set_cons_zero, List.set_cons_succ]
      refine wpAnyH_take (i := 4) (oi := ({ dst := some 30, op := Op.indexAddr 70 (Operand.tmp 29) (Operand.const (Value.int IntKind.i64 1)), type := 0, pos := "ref.go:193", after := #[{ on := 3, ground := Ground.data }], guard := none } : Oper)) (v := ?_) rfl (by kernel_rfl) (by kernel_rfl) (by kernel_rfl) (fun _ _ _ h => h) (Or.inl ⟨by rfl, ?_⟩) (by assumption) ?_
      rotate_left
      · intro w hSw; (try dsimp only at hSw); go_simp; first | done | with_reducible rfl
      try simp only [Act.put, List.setIfInBounds_toArray, List.set_cons_zero, List.set_cons_succ]
      refine wpAnyH_take (i := 5) (oi := ({ dst := some 31, op := Op.load 3 (Operand.tmp 30), type := 3, pos := "ref.go:193", after := #[{ on := 4, ground := Ground.data }], guard := none } : Oper)) (v := ?_) rfl (by kernel_rfl) (by kernel_rfl) (by kernel_rfl) (fun _ _ _ h => h) (Or.inl ⟨by rfl, ?_⟩) (by assumption) ?_
      rotate_left
      · intro w hSw; (try dsimp only at hSw); go_simp; first | done | with_reducible rfl
      try simp only [Act.put, List.setIfInBounds_toArray, List.set_cons_zero, List.set_cons_succ]
      refine wpAnyH_take (i := 6) (oi := ({ dst := some 32, op := Op.build 43 #[(0, Operand.tmp 28), (1, Operand.tmp 31)], type := 43, pos := "ref.go:193", after := #[{ on := 2, ground := Ground.data }, { on := 5, ground := Ground.data }], guard := none } : Oper)) (v := ?_) rfl (by kernel_rfl) (by kernel_rfl) (by kernel_rfl) (fun _ _ _ h => h) (Or.inl ⟨by rfl, ?_⟩) (by assumption) ?_
      rotate_left
      · intro w hSw; (try dsimp only at hSw); go_simp; first | done | with_reducible rfl
      try simp only [Act.put, List.setIfInBounds_toArray, List.set_cons_zero, List.set_cons_succ]
      refine wpAnyH_take (i := 7) (oi := ({ dst := some 33, op := Op.move (Operand.tmp 5), type := 70, pos := "ref.go:193", after := #[], guard := none } : Oper)) (v := ?_) rfl (by kernel_rfl) (by kernel_rfl) (by kernel_rfl) (fun _ _ _ h => h) (Or.inl ⟨by rfl, ?_⟩) (by assumption) ?_
      rotate_left
      · intro w hSw; (try dsimp only at hSw); go_simp; first | done | with_reducible rfl
      try simp only [Act.put, List.setIfInBounds_toArray, List.set_cons_zero, List.set_cons_succ]
      refine wpAnyH_take (i := 8) (oi := ({ dst := some 34, op := Op.indexAddr 70 (Operand.tmp 33) (Operand.const (Value.int IntKind.i64 2)), type := 0, pos := "ref.go:193", after := #[{ on := 7, ground := Ground.data }], guard := none } : Oper)) (v := ?_) rfl (by kernel_rfl) (by kernel_rfl) (by kernel_rfl) (fun _ _ _ h => h) (Or.inl ⟨by rfl, ?_⟩) (by assumption) ?_
      rotate_left
      · intro w hSw; (try dsimp only at hSw); go_simp; first | done | with_reducible rfl
      try simp only [Act.put, List.setIfInBounds_toArray, List.set_cons_zero, List.set_cons_succ]
      refine wpAnyH_take (i := 9) (oi := ({ dst := some 35, op := Op.load 3 (Operand.tmp 34), type := 3, pos := "ref.go:193", after := #[{ on := 8, ground := Ground.data }], guard := none } : Oper)) (v := ?_) rfl (by kernel_rfl) (by kernel_rfl) (by kernel_rfl) (fun _ _ _ h => h) (Or.inl ⟨by rfl, ?_⟩) (by assumption) ?_
      rotate_left
      · intro w hSw; (try dsimp only at hSw); go_simp; first | done | with_reducible rfl
      try simp only [Act.put, List.setIfInBounds_toArray, List.set_cons_zero, List.set_cons_succ]
      refine wpAnyH_take (i := 10) (oi := ({ dst := some 36, op := Op.move (Operand.tmp 4), type := 44, pos := "ref.go:193", after := #[], guard := none } : Oper)) (v := ?_) rfl (by kernel_rfl) (by kernel_rfl) (by kernel_rfl) (fun _ _ _ h => h) (Or.inl ⟨by rfl, ?_⟩) (by assumption) ?_
      rotate_left
      · intro w hSw; (try dsimp only at hSw); go_simp; first | done | with_reducible rfl
      try simp only [Act.put, List.setIfInBounds_toArray, List.set_cons_zero, List.set_cons_succ]
      refine wpAnyH_take (i := 11) (oi := ({ dst := some 37, op := Op.indexAddr 44 (Operand.tmp 36) (Operand.const (Value.int IntKind.i64 1)), type := 0, pos := "ref.go:193", after := #[{ on := 10, ground := Ground.data }], guard := none } : Oper)) (v := ?_) rfl (by kernel_rfl) (by kernel_rfl) (by kernel_rfl) (fun _ _ _ h => h) (Or.inl ⟨by rfl, ?_⟩) (by assumption) ?_
      rotate_left
      · intro w hSw; (try dsimp only at hSw); go_simp; first | done | with_reducible rfl
      try simp only [Act.put, List.setIfInBounds_toArray, List.set_cons_zero, List.set_cons_succ]
      refine wpAnyH_take (i := 12) (oi := ({ dst := some 38, op := Op.load 22 (Operand.tmp 37), type := 22, pos := "ref.go:193", after := #[{ on := 11, ground := Ground.data }], guard := none } : Oper)) (v := ?_) rfl (by kernel_rfl) (by kernel_rfl) (by kernel_rfl) (fun _ _ _ h => h) (Or.inl ⟨by rfl, ?_⟩) (by assumption) ?_
      rotate_left
      · intro w hSw; (try dsimp only at hSw); go_simp; first | done | with_reducible rfl
      try simp only [Act.put, List.setIfInBounds_toArray, List.set_cons_zero, List.set_cons_succ]
      refine wpAnyH_take (i := 13) (oi := ({ dst := some 39, op := Op.move (Operand.tmp 7), type := 44, pos := "ref.go:193", after := #[], guard := none } : Oper)) (v := ?_) rfl (by kernel_rfl) (by kernel_rfl) (by kernel_rfl) (fun _ _ _ h => h) (Or.inl ⟨by rfl, ?_⟩) (by assumption) ?_
      rotate_left
      · intro w hSw; (try dsimp only at hSw); go_simp; first | done | with_reducible rfl
      try simp only [Act.put, List.setIfInBounds_toArray, List.set_cons_zero, List.set_cons_succ]
      refine wpAnyH_take (i := 14) (oi := ({ dst := some 40, op := Op.build 46 #[(0, Operand.tmp 32), (1, Operand.tmp 35), (2, Operand.tmp 38), (3, Operand.tmp 39)], type := 46, pos := "ref.go:193", after := #[{ on := 6, ground := Ground.data }, { on := 9, ground := Ground.data }, { on := 12, ground := Ground.data }, { on := 13, ground := Ground.data }], guard := none } : Oper)) (v := ?_) rfl (by kernel_rfl) (by kernel_rfl) (by kernel_rfl) (fun _ _ _ h => h) (Or.inl ⟨by rfl, ?_⟩) (by assumption) ?_
      rotate_left
      · intro w hSw; (try dsimp only at hSw); go_simp; first | done | with_reducible rfl
      try simp only [Act.put, List.setIfInBounds_toArray, List.set_cons_zero, List.set_cons_succ]
      refine wpAnyH_ready (rs := [15]) (by kernel_rfl) (by simp) ?_
      refine AllReadyH.cons (o := ({ dst := some 9, op := Op.alloc 46, type := 0, pos := "ref.go:193", after := #[], guard := none } : Oper)) rfl (fun K hK => ?_) AllReadyH.nil
      go_simp
      refine hK.out _ _ (⟨cell_drew (cell_alloc_old p0 _), cell_drew (cell_alloc_old p1 _), cell_drew (cell_alloc_old p2 _), cell_drew (cell_alloc_old r1 _)⟩) (fun hHeld => ?_)
      clear hK K
      try simp only [Act.put, List.setIfInBounds_toArray, List.set_cons_zero, List.set_cons_succ]
      refine wpAnyH_ready (rs := [16]) (by kernel_rfl) (by simp) ?_
      refine AllReadyH.cons (o := ({ dst := none, op := Op.store 46 (Operand.tmp 9) (Operand.tmp 40), type := 0, pos := "ref.go:193", after := #[{ on := 15, ground := Ground.data }, { on := 14, ground := Ground.data }, { on := 0, ground := Ground.phase }, { on := 1, ground := Ground.phase }, { on := 2, ground := Ground.phase }, { on := 3, ground := Ground.phase }, { on := 4, ground := Ground.phase }, { on := 5, ground := Ground.phase }, { on := 6, ground := Ground.phase }, { on := 7, ground := Ground.phase }, { on := 8, ground := Ground.phase }, { on := 9, ground := Ground.phase }, { on := 10, ground := Ground.phase }, { on := 11, ground := Ground.phase }, { on := 12, ground := Ground.phase }, { on := 13, ground := Ground.phase }, { on := 14, ground := Ground.phase }, { on := 15, ground := Ground.phase }], guard := none } : Oper)) rfl (fun K hK => ?_) AllReadyH.nil
      go_simp
      refine hK.out _ _ (⟨cell_drew (cell_alloc_old p0 _), cell_drew (cell_alloc_old p1 _), cell_drew (cell_alloc_old p2 _), cell_drew (cell_alloc_old r1 _)⟩) (fun hHeld => ?_)
      clear hK K
      try simp only [Act.put, List.setIfInBounds_toArray, List.set_cons_zero, List.set_cons_succ]
      refine wpAnyH_done (by kernel_rfl) ?_ _
      have hal := below_drew ((Below.refl w3.heap.size w3).alloc (Nat.le_refl _) (.cells #[.int .i64 x, .int .i64 y, .int .i64 z, .slice B1 f1.length d1, .slice none 0 0] 46))
      have HB4 := Lib.hid (below_next HB3.out hal HB3.out.size)
      have HK4 := Lib.hid (HK3.out.kept hal)
      have HJ4 := Lib.hid (bk_drew (Bk.new w3 46 [.int .i64 x, .int .i64 y, .int .i64 z, .slice B1 f1.length d1, .slice none 0 0]))
      have HF4 := Lib.hid (HF3.out.below hal)
      obtain ⟨X, hX⟩ : ∃ X, X = (w3.alloc (.cells #[.int .i64 x, .int .i64 y, .int .i64 z, .slice B1 f1.length d1, .slice none 0 0] 46)).drew := ⟨_, rfl⟩
      rw [← hX] at HB4 HK4 HJ4 HF4 ⊢
      clear hX hal p0 p1 p2 r1
      have j0 := HK4.out.at_ (i := 0) rfl; have z0 := HK4.out.frozen 0; have j1 := HK4.out.at_ (i := 1) rfl; have z1 := HK4.out.frozen 1; have j2 := HK4.out.at_ (i := 2) rfl; have z2 := HK4.out.frozen 2; have j3 := HK4.out.at_ (i := 3) rfl; have z3 := HK4.out.frozen 3; have j4 := HK4.out.at_ (i := 4) rfl; have z4 := HK4.out.frozen 4
      go_wp2_with fail
      have kk := (((((HK4.out).set 0 (.int .i64 0)).set 1 (.int .i64 0)).set 2 (.int .i64 0)).set 3 (.slice none 0 0)).set 4 (.slice none 0 0)
      have gr := grown_set (grown_set (grown_set (grown_set (grown_set (grown_refl X (some w.heap.size)) 0 (.int .i64 0)) 1 (.int .i64 0)) 2 (.int .i64 0)) 3 (.slice none 0 0)) 4 (.slice none 0 0)
      refine bodyPost_ret_by (results_row_tmp rfl _ _ w.heap.size 46 _ _ rfl kk Try.underlying46 rfl info1_L) rfl ?_
      exact ⟨HB4.out.grown gr HB4.out.size (fun g hg => by cases hg; omega), .inr ⟨HD.out, rfl⟩⟩
    · have HT3 := Lib.hid (RdS.of_own ho4)
      obtain ⟨ts, hts⟩ : ∃ ts, ts = (splitN f2).2 := ⟨_, rfl⟩
      have HXX := Lib.hid (show rdLt l = some ⟨x, y, z, f1, ts⟩ by rw [HX.out]; unfold rdSplit; rw [if_pos h0, hts])
      have hn4 : ts.length = n4 := by rw [hts]; exact ho4.1
      rw [← hts] at HT3
      subst hn4
      clear h0 hb3 i0 i1 i2 q1 q2 hts ho4
      go_wp2_with fail
      refine wp_region_held_drew (S := fun w' => w'.cell? ⟨gi, 0, none⟩ = some (.int .i64 x) ∧ w'.cell? ⟨gi, 1, none⟩ = some (.int .i64 y) ∧ w'.cell? ⟨gi, 2, none⟩ = some (.int .i64 z) ∧ w'.cell? ⟨xf.block, xf.off + 1, none⟩ = some (.slice B1 f1.length d1)) (by kernel_rfl) (⟨p0, p1, p2, r1⟩) (fun hHeld => ?_)
      refine wpAnyH_take (i := 0) (oi := ({ dst := some 26, op := Op.move (Operand.tmp 5), type := 70, pos := "ref.go:193", after := #[], guard := none } : Oper)) (v := ?_) rfl (by kernel_rfl) (by kernel_rfl) (by kernel_rfl) (fun _ _ _ h => h) (Or.inl ⟨by rfl, ?_⟩) (by assumption) ?_
      rotate_left
      · intro w hSw; (try dsimp only at hSw); go_simp; first | done | with_reducible rfl
      try simp only [Act.put, List.setIfInBounds_toArray, List.set_cons_zero, List.set_cons_succ]
      refine wpAnyH_take (i := 1) (oi := ({ dst := some 27, op := Op.indexAddr 70 (Operand.tmp 26) (Operand.const (Value.int IntKind.i64 0)), type := 0, pos := "ref.go:193", after := #[{ on := 0, ground := Ground.data }], guard := none } : Oper)) (v := ?_) rfl (by kernel_rfl) (by kernel_rfl) (by kernel_rfl) (fun _ _ _ h => h) (Or.inl ⟨by rfl, ?_⟩) (by assumption) ?_
      rotate_left
      · intro w hSw; (try dsimp only at hSw); go_simp; first | done | with_reducible rfl
      try simp only [Act.put, List.setIfInBounds_toArray, List.set_cons_zero, List.set_cons_succ]
      refine wpAnyH_take (i := 2) (oi := ({ dst := some 28, op := Op.load 3 (Operand.tmp 27), type := 3, pos := "ref.go:193", after := #[{ on := 1, ground := Ground.data }], guard := none } : Oper)) (v := ?_) rfl (by kernel_rfl) (by kernel_rfl) (by kernel_rfl) (fun _ _ _ h => h) (Or.inl ⟨by rfl, ?_⟩) (by assumption) ?_
      rotate_left
      · intro w hSw; (try dsimp only at hSw); go_simp; first | done | with_reducible rfl
      try simp only [Act.put, List.setIfInBounds_toArray, List.set_cons_zero, List.set_cons_succ]
      refine wpAnyH_take (i := 3) (oi := ({ dst := some 29, op := Op.move (Operand.tmp 5), type := 70, pos := "ref.go:193", after := #[], guard := none } : Oper)) (v := ?_) rfl (by kernel_rfl) (by kernel_rfl) (by kernel_rfl) (fun _ _ _ h => h) (Or.inl ⟨by rfl, ?_⟩) (by assumption) ?_
      rotate_left
      · intro w hSw; (try dsimp only at hSw); go_simp; first | done | with_reducible rfl
      try simp only [Act.put, List.setIfInBounds_toArray, List.set_cons_zero, List.set_cons_succ]
      refine wpAnyH_take (i := 4) (oi := ({ dst := some 30, op := Op.indexAddr 70 (Operand.tmp 29) (Operand.const (Value.int IntKind.i64 1)), type := 0, pos := "ref.go:193", after := #[{ on := 3, ground := Ground.data }], guard := none } : Oper)) (v := ?_) rfl (by kernel_rfl) (by kernel_rfl) (by kernel_rfl) (fun _ _ _ h => h) (Or.inl ⟨by rfl, ?_⟩) (by assumption) ?_
      rotate_left
      · intro w hSw; (try dsimp only at hSw); go_simp; first | done | with_reducible rfl
      try simp only [Act.put, List.setIfInBounds_toArray, List.set_cons_zero, List.set_cons_succ]
      refine wpAnyH_take (i := 5) (oi := ({ dst := some 31, op := Op.load 3 (Operand.tmp 30), type := 3, pos := "ref.go:193", after := #[{ on := 4, ground := Ground.data }], guard := none } : Oper)) (v := ?_) rfl (by kernel_rfl) (by kernel_rfl) (by kernel_rfl) (fun _ _ _ h => h) (Or.inl ⟨by rfl, ?_⟩) (by assumption) ?_
      rotate_left
      · intro w hSw; (try dsimp only at hSw); go_simp; first | done | with_reducible rfl
      try simp only [Act.put, List.setIfInBounds_toArray, List.set_cons_zero, List.set_cons_succ]
      refine wpAnyH_take (i := 6) (oi := ({ dst := some 32, op := Op.build 43 #[(0, Operand.tmp 28), (1, Operand.tmp 31)], type := 43, pos := "ref.go:193", after := #[{ on := 2, ground := Ground.data }, { on := 5, ground := Ground.data }], guard := none } : Oper)) (v := ?_) rfl (by kernel_rfl) (by kernel_rfl) (by kernel_rfl) (fun _ _ _ h => h) (Or.inl ⟨by rfl, ?_⟩) (by assumption) ?_
      rotate_left
      · intro w hSw; (try dsimp only at hSw); go_simp; first | done | with_reducible rfl
      try simp only [Act.put, List.setIfInBounds_toArray, List.set_cons_zero, List.set_cons_succ]
      refine wpAnyH_take (i := 7) (oi := ({ dst := some 33, op := Op.move (Operand.tmp 5), type := 70, pos := "ref.go:193", after := #[], guard := none } : Oper)) (v := ?_) rfl (by kernel_rfl) (by kernel_rfl) (by kernel_rfl) (fun _ _ _ h => h) (Or.inl ⟨by rfl, ?_⟩) (by assumption) ?_
      rotate_left
      · intro w hSw; (try dsimp only at hSw); go_simp; first | done | with_reducible rfl
      try simp only [Act.put, List.setIfInBounds_toArray, List.set_cons_zero, List.set_cons_succ]
      refine wpAnyH_take (i := 8) (oi := ({ dst := some 34, op := Op.indexAddr 70 (Operand.tmp 33) (Operand.const (Value.int IntKind.i64 2)), type := 0, pos := "ref.go:193", after := #[{ on := 7, ground := Ground.data }], guard := none } : Oper)) (v := ?_) rfl (by kernel_rfl) (by kernel_rfl) (by kernel_rfl) (fun _ _ _ h => h) (Or.inl ⟨by rfl, ?_⟩) (by assumption) ?_
      rotate_left
      · intro w hSw; (try dsimp only at hSw); go_simp; first | done | with_reducible rfl
      try simp only [Act.put, List.setIfInBounds_toArray, List.set_cons_zero, List.set_cons_succ]
      refine wpAnyH_take (i := 9) (oi := ({ dst := some 35, op := Op.load 3 (Operand.tmp 34), type := 3, pos := "ref.go:193", after := #[{ on := 8, ground := Ground.data }], guard := none } : Oper)) (v := ?_) rfl (by kernel_rfl) (by kernel_rfl) (by kernel_rfl) (fun _ _ _ h => h) (Or.inl ⟨by rfl, ?_⟩) (by assumption) ?_
      rotate_left
      · intro w hSw; (try dsimp only at hSw); go_simp; first | done | with_reducible rfl
      try simp only [Act.put, List.setIfInBounds_toArray, List.set_cons_zero, List.set_cons_succ]
      refine wpAnyH_take (i := 10) (oi := ({ dst := some 36, op := Op.move (Operand.tmp 4), type := 44, pos := "ref.go:193", after := #[], guard := none } : Oper)) (v := ?_) rfl (by kernel_rfl) (by kernel_rfl) (by kernel_rfl) (fun _ _ _ h => h) (Or.inl ⟨by rfl, ?_⟩) (by assumption) ?_
      rotate_left
      · intro w hSw; (try dsimp only at hSw); go_simp; first | done | with_reducible rfl
      try simp only [Act.put, List.setIfInBounds_toArray, List.set_cons_zero, List.set_cons_succ]
      refine wpAnyH_take (i := 11) (oi := ({ dst := some 37, op := Op.indexAddr 44 (Operand.tmp 36) (Operand.const (Value.int IntKind.i64 1)), type := 0, pos := "ref.go:193", after := #[{ on := 10, ground := Ground.data }], guard := none } : Oper)) (v := ?_) rfl (by kernel_rfl) (by kernel_rfl) (by kernel_rfl) (fun _ _ _ h => h) (Or.inl ⟨by rfl, ?_⟩) (by assumption) ?_
      rotate_left
      · intro w hSw; (try dsimp only at hSw); go_simp; first | done | with_reducible rfl
      try simp only [Act.put, List.setIfInBounds_toArray, List.set_cons_zero, List.set_cons_succ]
      refine wpAnyH_take (i := 12) (oi := ({ dst := some 38, op := Op.load 22 (Operand.tmp 37), type := 22, pos := "ref.go:193", after := #[{ on := 11, ground := Ground.data }], guard := none } : Oper)) (v := ?_) rfl (by kernel_rfl) (by kernel_rfl) (by kernel_rfl) (fun _ _ _ h => h) (Or.inl ⟨by rfl, ?_⟩) (by assumption) ?_
      rotate_left
      · intro w hSw; (try dsimp only at hSw); go_simp; first | done | with_reducible rfl
      try simp only [Act.put, List.setIfInBounds_toArray, List.set_cons_zero, List.set_cons_succ]
      refine wpAnyH_take (i := 13) (oi := ({ dst := some 39, op := Op.move (Operand.tmp 7), type := 44, pos := "ref.go:193", after := #[], guard := none } : Oper)) (v := ?_) rfl (by kernel_rfl) (by kernel_rfl) (by kernel_rfl) (fun _ _ _ h => h) (Or.inl ⟨by rfl, ?_⟩) (by assumption) ?_
      rotate_left
      · intro w hSw; (try dsimp only at hSw); go_simp; first | done | with_reducible rfl
      try simp only [Act.put, List.setIfInBounds_toArray, List.set_cons_zero, List.set_cons_succ]
      refine wpAnyH_take (i := 14) (oi := ({ dst := some 40, op := Op.build 46 #[(0, Operand.tmp 32), (1, Operand.tmp 35), (2, Operand.tmp 38), (3, Operand.tmp 39)], type := 46, pos := "ref.go:193", after := #[{ on := 6, ground := Ground.data }, { on := 9, ground := Ground.data }, { on := 12, ground := Ground.data }, { on := 13, ground := Ground.data }], guard := none } : Oper)) (v := ?_) rfl (by kernel_rfl) (by kernel_rfl) (by kernel_rfl) (fun _ _ _ h => h) (Or.inl ⟨by rfl, ?_⟩) (by assumption) ?_
      rotate_left
      · intro w hSw; (try dsimp only at hSw); go_simp; first | done | with_reducible rfl
      try simp only [Act.put, List.setIfInBounds_toArray, List.set_cons_zero, List.set_cons_succ]
      refine wpAnyH_ready (rs := [15]) (by kernel_rfl) (by simp) ?_
      refine AllReadyH.cons (o := ({ dst := some 9, op := Op.alloc 46, type := 0, pos := "ref.go:193", after := #[], guard := none } : Oper)) rfl (fun K hK => ?_) AllReadyH.nil
      go_simp
      refine hK.out _ _ (⟨cell_drew (cell_alloc_old p0 _), cell_drew (cell_alloc_old p1 _), cell_drew (cell_alloc_old p2 _), cell_drew (cell_alloc_old r1 _)⟩) (fun hHeld => ?_)
      clear hK K
      try simp only [Act.put, List.setIfInBounds_toArray, List.set_cons_zero, List.set_cons_succ]
      refine wpAnyH_ready (rs := [16]) (by kernel_rfl) (by simp) ?_
      refine AllReadyH.cons (o := ({ dst := none, op := Op.store 46 (Operand.tmp 9) (Operand.tmp 40), type := 0, pos := "ref.go:193", after := #[{ on := 15, ground := Ground.data }, { on := 14, ground := Ground.data }, { on := 0, ground := Ground.phase }, { on := 1, ground := Ground.phase }, { on := 2, ground := Ground.phase }, { on := 3, ground := Ground.phase }, { on := 4, ground := Ground.phase }, { on := 5, ground := Ground.phase }, { on := 6, ground := Ground.phase }, { on := 7, ground := Ground.phase }, { on := 8, ground := Ground.phase }, { on := 9, ground := Ground.phase }, { on := 10, ground := Ground.phase }, { on := 11, ground := Ground.phase }, { on := 12, ground := Ground.phase }, { on := 13, ground := Ground.phase }, { on := 14, ground := Ground.phase }, { on := 15, ground := Ground.phase }], guard := none } : Oper)) rfl (fun K hK => ?_) AllReadyH.nil
      go_simp
      refine hK.out _ _ (⟨cell_drew (cell_alloc_old p0 _), cell_drew (cell_alloc_old p1 _), cell_drew (cell_alloc_old p2 _), cell_drew (cell_alloc_old r1 _)⟩) (fun hHeld => ?_)
      clear hK K
      try simp only [Act.put, List.setIfInBounds_toArray, List.set_cons_zero, List.set_cons_succ]
      refine wpAnyH_done (by kernel_rfl) ?_ _
      have hal := below_drew ((Below.refl w3.heap.size w3).alloc (Nat.le_refl _) (.cells #[.int .i64 x, .int .i64 y, .int .i64 z, .slice B1 f1.length d1, .slice A4 ts.length c4] 46))
      have HB4 := Lib.hid (below_next HB3.out hal HB3.out.size)
      have HK4 := Lib.hid (HK3.out.kept hal)
      have HJ4 := Lib.hid (bk_drew (Bk.new w3 46 [.int .i64 x, .int .i64 y, .int .i64 z, .slice B1 f1.length d1, .slice A4 ts.length c4]))
      have HF4 := Lib.hid (HF3.out.below hal)
      have HT4 := Lib.hid (HT3.out.below hal)
      obtain ⟨X, hX⟩ : ∃ X, X = (w3.alloc (.cells #[.int .i64 x, .int .i64 y, .int .i64 z, .slice B1 f1.length d1, .slice A4 ts.length c4] 46)).drew := ⟨_, rfl⟩
      rw [← hX] at HB4 HK4 HJ4 HF4 HT4 ⊢
      clear hX hal p0 p1 p2 r1
      have m0 := HJ4.out.at_ (i := 0) rfl; have m1 := HJ4.out.at_ (i := 1) rfl; have m2 := HJ4.out.at_ (i := 2) rfl; have m3 := HJ4.out.at_ (i := 3) rfl; have m4 := HJ4.out.at_ (i := 4) rfl
      go_wp2_with fail
      clear m0 m1 m2 m3 m4
      refine (refLetter_any ⟨x, y, z, f1, ts⟩ B1 d1 A4 c4 AllB _ ⟨HF4.out.all, HT4.out.all⟩).mono ?_
      rintro e w5 ⟨rfl, hb5⟩
      have HB5 := Lib.hid (below_next HB4.out hb5 HB4.out.size)
      have HK5 := Lib.hid (HK4.out.kept hb5)
      have HJ5 := Lib.hid (HJ4.out.kept hb5)
      have HF5 := Lib.hid (HF4.out.below hb5)
      have HT5 := Lib.hid (HT4.out.below hb5)
      clear hb5
      have j0 := HK5.out.at_ (i := 0) rfl; have z0 := HK5.out.frozen 0; have j1 := HK5.out.at_ (i := 1) rfl; have z1 := HK5.out.frozen 1; have j2 := HK5.out.at_ (i := 2) rfl; have z2 := HK5.out.frozen 2; have j3 := HK5.out.at_ (i := 3) rfl; have z3 := HK5.out.frozen 3; have j4 := HK5.out.at_ (i := 4) rfl; have z4 := HK5.out.frozen 4
      cases ho : Lt.ok ⟨x, y, z, f1, ts⟩
      · have HD := Lib.hid (show decLt l = none by unfold decLt okX; rw [HXX.out]; simp [ho])
        clear ho
        go_wp2_with fail
        have kk := (((((HK5.out).set 0 (.int .i64 0)).set 1 (.int .i64 0)).set 2 (.int .i64 0)).set 3 (.slice none 0 0)).set 4 (.slice none 0 0)
        have gr := grown_set (grown_set (grown_set (grown_set (grown_set (grown_refl w5 (some w.heap.size)) 0 (.int .i64 0)) 1 (.int .i64 0)) 2 (.int .i64 0)) 3 (.slice none 0 0)) 4 (.slice none 0 0)
        refine bodyPost_ret_by (results_row_tmp rfl _ _ w.heap.size 46 _ _ rfl kk Try.underlying46 rfl info1_L) rfl ?_
        exact ⟨HB5.out.grown gr HB5.out.size (fun g hg => by cases hg; omega), .inr ⟨HD.out, rfl⟩⟩
      · have HD := Lib.hid (show decLt l = some ⟨x, y, z, f1, ts⟩ by unfold decLt okX; rw [HXX.out]; simp [ho])
        clear ho
        have m0 := HJ5.out.at_ (i := 0) rfl; have m1 := HJ5.out.at_ (i := 1) rfl; have m2 := HJ5.out.at_ (i := 2) rfl; have m3 := HJ5.out.at_ (i := 3) rfl; have m4 := HJ5.out.at_ (i := 4) rfl
        go_wp2_with fail
        have kk := (((((HK5.out).set 0 (.int .i64 x)).set 1 (.int .i64 y)).set 2 (.int .i64 z)).set 3 (.slice B1 f1.length d1)).set 4 (.slice A4 ts.length c4)
        have gr := grown_set (grown_set (grown_set (grown_set (grown_set (grown_refl w5 (some w.heap.size)) 0 (.int .i64 x)) 1 (.int .i64 y)) 2 (.int .i64 z)) 3 (.slice B1 f1.length d1)) 4 (.slice A4 ts.length c4)
        have hsw := HB2.out.size
        have hlt := HLT.out
        have hf := HF5.out.keep (F' := From w.heap.size) (Kp.of_grown gr fun b hb e => by injection e with e; unfold From at hb; simp at hb; omega) (fun b hb _ => by unfold From at *; simp at hb; omega)
        have ht := HT5.out.keep (F' := From w.heap.size) (Kp.of_grown gr fun b hb e => by injection e with e; have := HK2.out.lt; unfold From at hb; omega) (fun b hb _ => by unfold From at *; omega)
        refine bodyPost_ret_by (results_row_tmp rfl _ _ w.heap.size 46 _ _ rfl kk Try.underlying46 rfl info1_L) rfl ?_
        exact ⟨HB5.out.grown gr HB5.out.size (fun g hg => by cases hg; omega), .inl ⟨_, B1, d1, A4, c4, HD.out, rfl, hf, ht⟩⟩
end Go.Proofs.Ytmgmmbgjmnklkaa

/-
  The reference's reading of one number, and of letters. Walks; no statement.
-/
namespace Go.Proofs.Ytmgmmbgjmnklkaa
set_option maxRecDepth 100000
open Go.RowKit
open Pk
set_option linter.unusedVariables false

theorem allX_has {α β : Type} {f : α → Option β} : ∀ {xs : List α} {ys : List β}, allX f xs = some ys → ∀ x ∈ xs, ∃ y ∈ ys, f x = some y
  | [], _, _, x, hx => by cases hx
  | a :: r, ys, h, x, hx => by
    unfold allX at h
    cases ha : f a with
    | none => rw [ha] at h; cases h
    | some b =>
      rw [ha] at h
      cases hr : allX f r with
      | none => rw [hr] at h; cases h
      | some bs =>
        rw [hr] at h
        obtain rfl := Option.some.inj h
        rcases List.mem_cons.1 hx with rfl | hx
        · exact ⟨b, List.mem_cons_self .., ha⟩
        · obtain ⟨y, hy, hf⟩ := allX_has hr x hx
          exact ⟨y, List.mem_cons_of_mem _ hy, hf⟩
theorem dec_lt {f : List UInt8} {y : Lt} (h : decLt f = some y) : rdLt f = some y ∧ y.ok = true := by
  unfold decLt okX at h
  cases hr : rdLt f with
  | none => rw [hr] at h; cases h
  | some x =>
    rw [hr] at h
    cases hx : x.ok with
    | false => simp [hx] at h
    | true =>
      simp only [hx, if_true] at h
      obtain rfl := Option.some.inj h
      exact ⟨rfl, hx⟩
theorem lt_dec {f : List UInt8} {y : Lt} (h : rdLt f = some y) (ho : y.ok = true) : decLt f = some y := by unfold decLt okX; rw [h]; simp [ho]
/-- one number, or none -/
def OneP (f : List UInt8) (w : World) (e : Ending) (w' : World) : Prop :=
  Below w.heap.size w w' ∧ ((∃ v, rdNum f = some v ∧ e = .returned (.tuple #[.int .i64 v, .bool true])) ∨ (rdNum f = none ∧ e = .returned (.tuple #[.int .i64 0, .bool false])))
set_option maxHeartbeats 1600000 in
theorem refOne_any (A : Option Addr) (n c : Nat) (f : List UInt8) (w : World) (h : Sl w A n c f) (hn : n ≤ 4294967296) : Calls Try.prog 50 #[.slice A n c] w (OneP f w) := by
  have HC := Lib.hid (refInts_any A n c f w h.rd h.1 h.2.1 (by omega))
  clear h hn
  go_enter Try.func50, Try.ntmps50
  go_wp2_with fail
  refine HC.out.mono ?_
  rintro e w2 ⟨hb2, ⟨h0, rfl⟩ | ⟨h0, A2, m2, c2, rfl, ho2⟩⟩
  · have HB2 := Lib.hid hb2
    have hk : (((intsN f).1 : Int) != 0) = true := by rw [bne_iff_ne]; omega
    have HD := Lib.hid (show rdNum f = none by unfold rdNum rdNums; rw [if_neg (fun q => h0 q.1)])
    clear h0 hb2
    go_wp2_with fail
    go_ret2
    exact ⟨HB2.out, .inr ⟨HD.out, rfl⟩⟩
  have HB2 := Lib.hid hb2
  have hl2 : (intsN f).2.length = m2 := ho2.len
  by_cases hm : m2 = 1
  · subst hm
    obtain ⟨gi, rfl, hgi, hgil, hci⟩ := ho2.at_ (by omega)
    match hv : (intsN f).2, hl2 with
    | [v], _ =>
      rw [hv] at hci
      have i0 := hci 0 v rfl
      have HD := Lib.hid (show rdNum f = some v by unfold rdNum rdNums; rw [if_pos ⟨h0, by rw [hv]; rfl⟩, hv])
      clear h0 hb2 ho2 hci hgi hgil hl2 hv
      go_wp2_with fail
      go_ret2
      exact ⟨HB2.out, .inl ⟨v, HD.out, rfl⟩⟩
  · have hk : ((m2 : Int) != 1) = true := by rw [bne_iff_ne]; omega
    have HD := Lib.hid (show rdNum f = none by unfold rdNum rdNums; rw [if_neg (fun q => hm (by rw [← hl2]; exact q.2))])
    clear h0 hb2 ho2 hm hl2
    go_wp2_with fail
    go_ret2
    exact ⟨HB2.out, .inr ⟨HD.out, rfl⟩⟩
/-- letters, all of them right, or none -/
def LtsP (l : List UInt8) (w : World) (e : Ending) (w' : World) : Prop :=
  Below w.heap.size w w' ∧ ((∃ xs, rdLts l = some xs ∧ (∀ x ∈ xs, x.ok = true) ∧ ∃ A c, e = .returned (.tuple #[.slice A xs.length c, .bool true]) ∧ RdS RLt (From w.heap.size) w' A c xs) ∨
    ((∀ xs, rdLts l = some xs → (∀ x ∈ xs, x.ok = true) → False) ∧ e = .returned (.tuple #[.slice none 0 0, .bool false])))
set_option maxHeartbeats 3200000 in
theorem refReads_any (A : Option Addr) (n c : Nat) (l : List UInt8) (w : World) (h : Sl w A n c l) (hn : n ≤ 4294967296) : Calls Try.prog 51 #[.slice A n c] w (LtsP l w) := by
  obtain ⟨i0, hi, hz0, hz1, hz2⟩ := info_parts info_letterA
  have HC := Lib.hid (refSplit_any A n c l w h.rd h.1 h.2.1 (by omega))
  have HD := Lib.hid (show rdLts l = match rdSplit l with | none => none | some fs => allX rdLt fs from rfl)
  clear h hn
  go_enter Try.func51, Try.ntmps51
  go_wp2_with fail
  refine HC.out.mono ?_
  rintro e w1 ⟨hb1, ⟨hz, rfl⟩ | ⟨hz, A1, n1, c1, rfl, ho1⟩⟩
  · have hk : (((splitN l).1 : Int) != 0) = true := by rw [bne_iff_ne]; omega
    have HR := Lib.hid (show rdSplit l = none by unfold rdSplit; rw [if_neg hz])
    have HB1 := Lib.hid hb1
    clear hz hb1
    go_wp2_with fail
    go_ret2
    exact ⟨HB1.out, .inr ⟨fun xs hx _ => (by rw [HD.out, HR.out] at hx; cases hx), rfl⟩⟩
  have HR := Lib.hid (show rdSplit l = some (splitN l).2 by unfold rdSplit; rw [if_pos hz])
  have HB1 := Lib.hid hb1
  have HSF := Lib.hid (split_fields hz)
  have hfn := split_len hz
  have hk0 : (((splitN l).1 : Int) != 0) = false := by rw [bne_eq_false_iff_eq]; omega
  obtain rfl : (splitN l).2.length = n1 := ho1.1
  have hbe := (Below.refl w1.heap.size w1).alloc (Nat.le_refl _) (.cells #[] 46)
  have HF := Lib.hid (RdS.of_own ho1)
  have HE := Lib.hid (OwnS.empty RLt 46 (From w.heap.size) w1)
  have HBE := Lib.hid hbe
  clear hz hb1 ho1 hbe
  generalize (splitN l).2 = fs at *
  go_wp2_with fail
  go_loopw [6, 7] (fun s i wr => ∃ (A' : Option Addr) (n' c' k : Nat) (acc : List Lt), k ≤ fs.length ∧ s = .slice A' n' c' ∧ i = .int .i64 k ∧ OwnS RLt 46 (From w.heap.size) w1.heap.size wr A' n' c' acc ∧ allX rdLt (fs.take k) = some acc ∧ (∀ x ∈ acc, x.ok = true) ∧ Below w1.heap.size w1 wr) (fun _ i _ => fs.length - (intOf i).toNat)
  case atStart => exact ⟨_, 0, 0, 0, [], by omega, rfl, rfl, HE.out, rfl, by simp, HBE.out⟩
  case round =>
    obtain ⟨A', n', c', k, acc, hk, rfl, rfl, ho, ha, hall, hb⟩ := hrel
    have hal := allX_len ha
    have hol := ho.1
    rw [List.length_take] at hal
    obtain rfl : n' = k := by omega
    have HB := Lib.hid hb
    have HALL := Lib.hid hall
    by_cases hlt : n' < fs.length
    · obtain ⟨f, hf⟩ : ∃ f, fs[n']? = some f := ⟨_, List.getElem?_eq_getElem hlt⟩
      obtain ⟨x, B, d, rfl, hxb, hc, hB⟩ := (HF.out.below hb).b1 hf
      have hmem : f ∈ fs := by obtain ⟨hh, rfl⟩ := List.getElem?_eq_some_iff.1 hf; exact List.getElem_mem hh
      have HSN := Lib.hid (show fs.take (n' + 1) = fs.take n' ++ [f] by obtain ⟨hh, rfl⟩ := List.getElem?_eq_some_iff.1 hf; exact List.take_succ_eq_append_getElem hh)
      have HM := Lib.hid hmem
      have HO := Lib.hid ho
      have HA := Lib.hid ha
      have HC2 := Lib.hid (refReadLetter_any B f.length d f wr hB.sl (by have := HSF.out f hmem; omega))
      have y1 : (0 : Int) ≤ (n' : Int) := by omega
      have y2 : (n' : Int) < (fs.length : Int) := by omega
      clear hf hb hB ho ha hmem hal hol hxb hall
      go_wp2_with fail
      refine HC2.out.mono ?_
      rintro e w3 ⟨hb3, ⟨y, A3, c3, B3, d3, hy, rfl, hr3⟩ | ⟨hy, rfl⟩⟩
      · obtain ⟨hy1, hy2⟩ := dec_lt hy
        obtain ⟨X, hX⟩ : ∃ X, X = w3.alloc (.cells #[.int .i64 y.f1, .int .i64 y.f2, .int .i64 y.r, .slice A3 y.body.length c3, .slice B3 y.tags.length d3] 46) := ⟨_, rfl⟩
        have hbx : Below w3.heap.size w3 X := by rw [hX]; exact (Below.refl _ _).alloc (Nat.le_refl _) _
        have HKX := Lib.hid (show Bk X w3.heap.size 46 [.int .i64 y.f1, .int .i64 y.f2, .int .i64 y.r, .slice A3 y.body.length c3, .slice B3 y.tags.length d3] by rw [hX]; exact Bk.new w3 _ _)
        have hb3x := below_next hb3 hbx hb3.size
        have HB3 := Lib.hid (below_next HB.out hb3x HB.out.size)
        have HBG := Lib.hid (fun g hg => HO.out.block g hg)
        have HBL := Lib.hid (fun g hg => HO.out.block_lt g hg)
        have HS3 := Lib.hid hb3.size
        have HWR := Lib.hid (show w.heap.size ≤ wr.heap.size from Nat.le_trans HB1.out.size HB.out.size)
        obtain ⟨hl0, css, hcl, hou, hin⟩ := HO.out.below hb3x
        have HL0 := Lib.hid hl0
        have HCL := Lib.hid hcl
        have HIN := Lib.hid hin
        have HY := Lib.hid hy1
        have HY2 := Lib.hid hy2
        have HRY := Lib.hid (RLt.below (show RLt.rd (From wr.heap.size) w3 [.int .i64 y.f1, .int .i64 y.f2, .int .i64 y.r, .slice A3 y.body.length c3, .slice B3 y.tags.length d3] y from ⟨A3, c3, B3, d3, rfl, hr3⟩) hbx)
        clear hb3 hl0 hcl hin hy hr3 hc hb3x hbx hy1 hy2
        go_upto_region 9 with fail
        rw [← hX]
        clear hX
        have k0 := HKX.out.at_ (i := 0) rfl
        have k1 := HKX.out.at_ (i := 1) rfl
        have k2 := HKX.out.at_ (i := 2) rfl
        have k3 := HKX.out.at_ (i := 3) rfl
        have k4 := HKX.out.at_ (i := 4) rfl
        have hsx := HB3.out.size
        have HS4 := Lib.hid hsx
        go_wp2_with (at_builtin
                     refine wpList_append_own_at _ rfl _ _ 25 rfl w1.heap.size 46 i0 _ 5 72 Try.underlying25 hi hz0 hz1 hz2 rfl (by omega) (.slice A' n' c') n' css.flatten rfl (World.ownsRow.alloc hou _) ⟨X.heap.size, 0, none⟩ 1 1 [.int .i64 y.f1, .int .i64 y.f2, .int .i64 y.r, .slice A3 y.body.length c3, .slice B3 y.tags.length d3] rfl rfl
                       (news_alloc X [.int .i64 y.f1, .int .i64 y.f2, .int .i64 y.r, .slice A3 y.body.length c3, .slice B3 y.tags.length d3] 46) (by simp [Value.oneCell']) (by simp only [maxLen]; omega) (by omega) (by simp; omega) ?_
                     intro v4 w4 hown4 hg4 hnil4 hrow4)
        obtain ⟨A4, c4, rfl⟩ := form_of hown4
        have hB4 := (Below.refl X.heap.size X).alloc (Nat.le_refl _) (.cells #[.int .i64 y.f1, .int .i64 y.f2, .int .i64 y.r, .slice A3 y.body.length c3, .slice B3 y.tags.length d3] 46)
        have HX := Lib.hid (show OwnS RLt 46 (From w.heap.size) w1.heap.size w4 A4 (n' + 1) c4 (acc ++ [y]) from
          OwnS.push (R := RLt) (G := From w.heap.size) (F := From wr.heap.size) (w := X.alloc (.cells #[.int .i64 y.f1, .int .i64 y.f2, .int .i64 y.r, .slice A3 y.body.length c3, .slice B3 y.tags.length d3] 46)) HL0.out HCL.out (fun j y cs hy hc => RLt.below (HIN.out j y cs hy hc) hB4) (RLt.below HRY.out hB4)
            (fun b hb _ => ⟨Nat.le_trans HWR.out hb, fun e => by have := HBL.out b e.symm; unfold From at hb; omega⟩) hg4 hown4 hrow4)
        have HB4 := Lib.hid ((HB3.out.alloc HB3.out.size (.cells #[.int .i64 y.f1, .int .i64 y.f2, .int .i64 y.r, .slice A3 y.body.length c3, .slice B3 y.tags.length d3] 46)).grown hg4 (by have := HB3.out.size; simp; omega) (fun g hg => HBG.out g hg))
        clear hown4 hg4 hrow4 hB4 hou hnil4 k0 k1 k2 k3 k4 hsx
        go_roundw
        case rel =>
          refine ⟨A4, n' + 1, c4, n' + 1, acc ++ [y], by omega, rfl, by go_num, HX.out, by rw [HSN.out]; exact allX_snoc HA.out HY.out, fun z hz => ?_, HB4.out⟩
          rcases List.mem_append.1 hz with hz | hz
          · exact HALL.out z hz
          · rw [List.mem_singleton.1 hz]; exact HY2.out
        case measure => simp [intOf]; omega
      · have HV := Lib.hid (show ∀ xs, rdLts l = some xs → (∀ x ∈ xs, x.ok = true) → False by
          intro xs hx hxo
          rw [HD.out, HR.out] at hx
          obtain ⟨y, hy1, hy2⟩ := allX_has (show allX rdLt fs = some xs from hx) f HM.out
          rw [lt_dec hy2 (hxo y hy1)] at hy
          cases hy)
        have HB3 := Lib.hid (below_next HB1.out (below_next HB.out hb3 HB.out.size) HB1.out.size)
        have hb3z := Lib.hid (HB3.out.alloc HB3.out.size (.cells #[.int .i64 0, .int .i64 0, .int .i64 0, .slice none 0 0, .slice none 0 0] 46))
        clear hy hb3 hc
        go_wp2_with fail
        go_ret2
        exact ⟨hb3z.out, .inr ⟨HV.out, rfl⟩⟩
    · have e : fs.take n' = fs := List.take_of_length_le (by omega)
      rw [e] at ha
      have HP := Lib.hid (show rdLts l = some acc by rw [HD.out, HR.out]; exact ha)
      obtain rfl : acc.length = n' := hol
      have HX := Lib.hid (ho.rds (fun b hb => Nat.le_trans HB1.out.size hb))
      clear e ha hb ho hal hall
      go_wp2_with fail
      go_ret2
      exact ⟨below_next HB1.out HB.out HB1.out.size, .inl ⟨acc, HP.out, HALL.out, A', c', rfl, HX.out⟩⟩
end Go.Proofs.Ytmgmmbgjmnklkaa
