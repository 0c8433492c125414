/-
  The program's reading of letters and of what is proven. Walks; no statement.
-/
import Derived.Test.YtmgmmbgjmnklkaaMsgRead1
namespace Go.Proofs.Ytmgmmbgjmnklkaa
set_option maxRecDepth 100000
open Go.RowKit
open Pk
set_option linter.unusedVariables false

/-- a letter came back, if there is one; else a panic -/
def RdL (r : Option Lt) (w : World) (e : Ending) (w' : World) : Prop :=
  Below w.heap.size w w' ∧ ((∃ x, r = some x ∧ ∃ A c B d, e = .returned (.agg #[.int .i64 x.f1, .int .i64 x.f2, .int .i64 x.r, .slice A x.body.length c, .slice B x.tags.length d]) ∧ LtR (From w.heap.size) w' x A c B d) ∨ (r = none ∧ PnX e))
theorem info_letter1 : (Try.prog.info? 46).map (·.size) = some 5 := by kernel_rfl
theorem Bk.two_ {w : World} {g : Nat} {t : TypeId} {a b : Value} (h : Bk w g t [a, b]) : w.cell? ⟨g, 0, none⟩ = some a ∧ w.cell? ⟨g, 1, none⟩ = some b := ⟨h.at_ rfl, h.at_ rfl⟩

theorem readLetter_any (A : Option Addr) (n c : Nat) (l : List UInt8) (w : World) (h : Sl w A n c l) (hn : n ≤ 4294967296) :
    Calls Try.prog 63 #[.slice A n c] w (RdL (rdLt l) w) := by
  have HB := Lib.hid ((Below.refl w.heap.size w).alloc (Nat.le_refl _) (.cells #[.int .i64 0, .int .i64 0, .int .i64 0, .slice none 0 0, .slice none 0 0] 46))
  have HK := Lib.hid (Bk.new w 46 [.int .i64 0, .int .i64 0, .int .i64 0, .slice none 0 0, .slice none 0 0])
  have HS := Lib.hid (h.below HB.out)
  have HN := Lib.hid hn
  have HD := Lib.hid (show rdLt l = match rdFlds 3 l with
    | some [f0, f1, f2] => (match rdNums 3 f0 with
      | some [x, y, z] => (match rdSplit f2 with
        | some ts => some ⟨x, y, z, f1, ts⟩
        | none => none)
      | _ => none)
    | _ => none from rfl)
  clear h hn
  go_enter Try.func63, Try.ntmps63
  go_wp2_with fail
  refine (split_any A n c l _ (HS.out.rd) HS.out.1 HS.out.2.1 (by have := HN.out; omega)).mono ?_
  rintro e w1 ⟨hb1, ⟨hz, rfl⟩ | ⟨hz, A1, n1, c1, rfl, ho1⟩⟩
  · have HZ := Lib.hid (show ((splitN l).1 : Int) ≠ 0 by omega)
    have HR := Lib.hid (show rdFlds 3 l = none by unfold rdFlds; rw [if_neg (fun h => hz h.1)])
    have HB1 := Lib.hid (below_next HB.out hb1 HB.out.size)
    clear hz hb1
    go_wp2_with fail
    refine (mustR_no _ _ HZ.out _).mono ?_
    rintro e w2 ⟨rfl, rfl⟩
    exact ⟨rfl, HB1.out, .inr ⟨by rw [HD.out, HR.out], _, rfl, by first | decide | assumption | exact HZ.out | exact HZ5.out⟩⟩
  have HZ := Lib.hid hz
  have HB1 := Lib.hid (below_next HB.out hb1 HB.out.size)
  have HK1 := Lib.hid (HK.out.kept hb1)
  have HO1 := Lib.hid ho1
  have hl1 := ho1.1
  clear hz hb1 ho1
  go_wp2_with fail
  refine (mustR_yes _ _ _ _).mono ?_
  rintro e w2 ⟨rfl, rfl⟩
  go_wp2_with fail
  refine (exactlyR_any _ _ _ 3 _).mono ?_
  rintro e w2 ⟨rfl, ⟨hk, rfl⟩ | ⟨hk, rfl⟩⟩
  rotate_left
  · have HR := Lib.hid (show rdFlds 3 l = none by unfold rdFlds; rw [if_neg (fun h => hk (by omega))])
    exact ⟨rfl, HB1.out, .inr ⟨by rw [HD.out, HR.out], _, rfl, by first | decide | assumption | exact HZ.out | exact HZ5.out⟩⟩
  subst hk
  have HR := Lib.hid (show rdFlds 3 l = some (splitN l).2 by unfold rdFlds; rw [if_pos ⟨HZ.out, by omega⟩])
  obtain ⟨gf, rfl, hgf, hgl, hcf⟩ := HO1.out.at_ (by omega)
  match hfs : (splitN l).2, hl1 with
  | [f0, f1, f2], _ =>
    rw [hfs] at HR hcf
    have hsf := split_fields HZ.out
    rw [hfs] at hsf
    obtain ⟨B0, d0, q0, ob0⟩ := hcf 0 f0 rfl
    obtain ⟨B1, d1, q1, ob1⟩ := hcf 1 f1 rfl
    obtain ⟨B2, d2, q2, ob2⟩ := hcf 2 f2 rfl
    have HLN := Lib.hid (show f0.length ≤ 4294967296 by have := hsf f0 (by simp); omega)
    have HLN2 := Lib.hid (show f2.length ≤ 4294967296 by have := hsf f2 (by simp); omega)
    have HQ1 := Lib.hid q1
    have HQ2 := Lib.hid q2
    have HQ0 := Lib.hid ob0
    have HOB := Lib.hid ob1
    have HOB2 := Lib.hid ob2
    have HGF := Lib.hid hgf
    clear hcf ob0 ob1 ob2 hfs q1 q2 hgf hsf
    go_wp2_with fail
    refine (readNums_any 3 B0 f0.length d0 f0 _ (Sl.own HQ0.out) HLN.out).mono ?_
    rintro e w3 ⟨hb3, ⟨vs, hvs, A3, c3, rfl, ho3⟩ | ⟨hvs, k, rfl, hk0⟩⟩
    rotate_left
    · exact ⟨rfl, below_next HB1.out hb3 HB1.out.size, .inr ⟨by rw [HD.out, HR.out]; simp only [hvs], _, rfl, by first | decide | assumption | exact HZ.out | exact HZ5.out⟩⟩
    obtain ⟨hl3, hrg⟩ := rdNums_range hvs
    match vs, hl3 with
    | [x, y, z], _ =>
      obtain ⟨gi, rfl, hgi, hgil, hci⟩ := ho3.at_ (by omega)
      have HVS := Lib.hid hvs
      have i0 := hci 0 x rfl
      have i1 := hci 1 y rfl
      have HI2 := Lib.hid (hci 2 z rfl)
      have HQ1 := Lib.hid (kept_cell HQ1.out hb3)
      have HQ2 := Lib.hid (kept_cell HQ2.out hb3)
      have HB3 := Lib.hid (below_next HB1.out hb3 HB1.out.size)
      have HK3 := Lib.hid (HK1.out.kept hb3)
      have HF3 := Lib.hid ((BF.own HOB.out).below hb3)
      have HT3 := Lib.hid ((Sl.own HOB2.out).below hb3)
      have hsz := HB1.out.size
      have ni : gi ≠ w.heap.size := by have := HK1.out.lt; omega
      have nf : gf ≠ w.heap.size := by have := HGF.out; simp at this; omega
      have HNI := Lib.hid ni
      have HNF := Lib.hid nf
      have al0 := (Below.refl w3.heap.size w3).alloc (Nat.le_refl _) (.cells #[.int .i64 0, .int .i64 0] 43)
      have al1 := (Below.refl w3.heap.size w3).alloc (Nat.le_refl _) (.cells #[.int .i64 x, .int .i64 y] 43)
      have HBX := Lib.hid (bk_drew (Bk.new w3 43 [.int .i64 x, .int .i64 y]))
      have HB4 := Lib.hid (below_drew (below_next HB3.out al1 HB3.out.size))
      have HK4 := Lib.hid (bk_drew (HK3.out.kept al1))
      have HF4 := Lib.hid (HF3.out.below (below_drew al1))
      have HT2 := Lib.hid (HT3.out.below (below_drew al1))
      have HI2b := Lib.hid (cell_drew (kept_cell HI2.out al1))
      have HQ1b := Lib.hid (cell_drew (kept_cell HQ1.out al1))
      have HQ2b := Lib.hid (cell_drew (kept_cell HQ2.out al1))
      have HLT3 := Lib.hid (show w.heap.size < w3.heap.size from HK3.out.lt)
      clear hci hb3 ho3 hrg hgi hgil hsz q0 HQ0 HLN hvs ni nf
      go_wp2_with fail
      refine wp_region_held_drew (S := fun w' => w'.cell? ⟨gi, 0, none⟩ = some (.int .i64 x) ∧ w'.cell? ⟨gi, 1, none⟩ = some (.int .i64 y)) (by kernel_rfl) (⟨i0, i1⟩) (fun hHeld => ?_)
      refine wpAnyH_take (i := 0) (oi := ({ dst := some 16, op := Op.move (Operand.tmp 4), type := 70, pos := "bytes.go:97", after := #[], guard := none } : Oper)) (v := ?_) rfl (by kernel_rfl) (by kernel_rfl) (by kernel_rfl) (fun _ _ _ h => h) (Or.inl ⟨by rfl, ?_⟩) (by assumption) ?_
      rotate_left
      · intro w hSw; (try dsimp only at hSw); go_simp; first | done | with_reducible rfl
      try simp only [Act.put, List.setIfInBounds_toArray, List.set_cons_zero, List.set_cons_succ]
      refine wpAnyH_take (i := 1) (oi := ({ dst := some 17, op := Op.indexAddr 70 (Operand.tmp 16) (Operand.const (Value.int IntKind.i64 0)), type := 0, pos := "bytes.go:97", after := #[{ on := 0, ground := Ground.data }], guard := none } : Oper)) (v := ?_) rfl (by kernel_rfl) (by kernel_rfl) (by kernel_rfl) (fun _ _ _ h => h) (Or.inl ⟨by rfl, ?_⟩) (by assumption) ?_
      rotate_left
      · intro w hSw; (try dsimp only at hSw); go_simp; first | done | with_reducible rfl
      try simp only [Act.put, List.setIfInBounds_toArray, List.set_cons_zero, List.set_cons_succ]
      refine wpAnyH_take (i := 2) (oi := ({ dst := some 18, op := Op.load 3 (Operand.tmp 17), type := 3, pos := "bytes.go:97", after := #[{ on := 1, ground := Ground.data }], guard := none } : Oper)) (v := ?_) rfl (by kernel_rfl) (by kernel_rfl) (by kernel_rfl) (fun _ _ _ h => h) (Or.inl ⟨by rfl, ?_⟩) (by assumption) ?_
      rotate_left
      · intro w hSw; (try dsimp only at hSw); go_simp; first | done | with_reducible rfl
      try simp only [Act.put, List.setIfInBounds_toArray, List.set_cons_zero, List.set_cons_succ]
      refine wpAnyH_take (i := 3) (oi := ({ dst := some 19, op := Op.move (Operand.tmp 4), type := 70, pos := "bytes.go:97", after := #[], guard := none } : Oper)) (v := ?_) rfl (by kernel_rfl) (by kernel_rfl) (by kernel_rfl) (fun _ _ _ h => h) (Or.inl ⟨by rfl, ?_⟩) (by assumption) ?_
      rotate_left
      · intro w hSw; (try dsimp only at hSw); go_simp; first | done | with_reducible rfl
      try simp only [Act.put, List.setIfInBounds_toArray, List.set_cons_zero, List.set_cons_succ]
      refine wpAnyH_take (i := 4) (oi := ({ dst := some 20, op := Op.indexAddr 70 (Operand.tmp 19) (Operand.const (Value.int IntKind.i64 1)), type := 0, pos := "bytes.go:97", after := #[{ on := 3, ground := Ground.data }], guard := none } : Oper)) (v := ?_) rfl (by kernel_rfl) (by kernel_rfl) (by kernel_rfl) (fun _ _ _ h => h) (Or.inl ⟨by rfl, ?_⟩) (by assumption) ?_
      rotate_left
      · intro w hSw; (try dsimp only at hSw); go_simp; first | done | with_reducible rfl
      try simp only [Act.put, List.setIfInBounds_toArray, List.set_cons_zero, List.set_cons_succ]
      refine wpAnyH_take (i := 5) (oi := ({ dst := some 21, op := Op.load 3 (Operand.tmp 20), type := 3, pos := "bytes.go:97", after := #[{ on := 4, ground := Ground.data }], guard := none } : Oper)) (v := ?_) rfl (by kernel_rfl) (by kernel_rfl) (by kernel_rfl) (fun _ _ _ h => h) (Or.inl ⟨by rfl, ?_⟩) (by assumption) ?_
      rotate_left
      · intro w hSw; (try dsimp only at hSw); go_simp; first | done | with_reducible rfl
      try simp only [Act.put, List.setIfInBounds_toArray, List.set_cons_zero, List.set_cons_succ]
      refine wpAnyH_take (i := 6) (oi := ({ dst := some 22, op := Op.build 43 #[(0, Operand.tmp 18), (1, Operand.tmp 21)], type := 43, pos := "bytes.go:97", after := #[{ on := 2, ground := Ground.data }, { on := 5, ground := Ground.data }], guard := none } : Oper)) (v := ?_) rfl (by kernel_rfl) (by kernel_rfl) (by kernel_rfl) (fun _ _ _ h => h) (Or.inl ⟨by rfl, ?_⟩) (by assumption) ?_
      rotate_left
      · intro w hSw; (try dsimp only at hSw); go_simp; first | done | with_reducible rfl
      try simp only [Act.put, List.setIfInBounds_toArray, List.set_cons_zero, List.set_cons_succ]
      refine wpAnyH_ready (rs := [7]) (by kernel_rfl) (by simp) ?_
      refine AllReadyH.cons (o := ({ dst := some 5, op := Op.alloc 43, type := 0, pos := "bytes.go:97", after := #[], guard := none } : Oper)) rfl (fun K hK => ?_) AllReadyH.nil
      go_simp
      refine hK.out _ _ (⟨cell_drew (kept_cell i0 al0), cell_drew (kept_cell i1 al0)⟩) (fun hHeld => ?_)
      clear hK K
      try simp only [Act.put, List.setIfInBounds_toArray, List.set_cons_zero, List.set_cons_succ]
      refine wpAnyH_ready (rs := [8]) (by kernel_rfl) (by simp) ?_
      refine AllReadyH.cons (o := ({ dst := none, op := Op.store 43 (Operand.tmp 5) (Operand.tmp 22), type := 0, pos := "bytes.go:97", after := #[{ on := 7, ground := Ground.data }, { on := 6, ground := Ground.data }, { on := 0, ground := Ground.phase }, { on := 1, ground := Ground.phase }, { on := 2, ground := Ground.phase }, { on := 3, ground := Ground.phase }, { on := 4, ground := Ground.phase }, { on := 5, ground := Ground.phase }, { on := 6, ground := Ground.phase }, { on := 7, ground := Ground.phase }], guard := none } : Oper)) rfl (fun K hK => ?_) AllReadyH.nil
      go_simp
      refine hK.out _ _ (⟨cell_drew (kept_cell i0 al1), cell_drew (kept_cell i1 al1)⟩) (fun hHeld => ?_)
      clear hK K
      try simp only [Act.put, List.setIfInBounds_toArray, List.set_cons_zero, List.set_cons_succ]
      refine wpAnyH_done (by kernel_rfl) ?_ _
      go_wp2_with fail
      obtain ⟨gb, hgb⟩ : ∃ gb, gb = w3.heap.size := ⟨_, rfl⟩
      obtain ⟨Y, hY⟩ : ∃ Y, Y = (w3.alloc (.cells #[.int .i64 x, .int .i64 y] 43)).drew := ⟨_, rfl⟩
      rw [← hY] at HBX HB4 HK4 HF4 HT2 HI2b HQ1b HQ2b ⊢
      rw [← hgb] at HBX HLT3 ⊢
      obtain ⟨b0, b1⟩ := HBX.out.two_
      have i2 := HI2b.out
      have q1 := HQ1b.out
      have q2 := HQ2b.out
      have nb : gb ≠ w.heap.size := by have := HLT3.out; omega
      have ni := HNI.out
      have nf := HNF.out
      clear hY hgb al0 al1 i0 i1 HB3 HK3 HF3 HT3 hHeld
      refine wp_region_held_drew (S := fun w' => w'.cell? ⟨gb, 0, none⟩ = some (.int .i64 x) ∧ w'.cell? ⟨gb, 1, none⟩ = some (.int .i64 y) ∧ w'.cell? ⟨gi, 2, none⟩ = some (.int .i64 z) ∧ w'.cell? ⟨gf, 1, none⟩ = some (.slice B1 f1.length d1) ∧ w'.cell? ⟨gf, 2, none⟩ = some (.slice B2 f2.length d2)) (by kernel_rfl) (⟨b0, b1, i2, q1, q2⟩) (fun hHeld => ?_)
      refine wpAnyH_take (i := 0) (oi := ({ dst := some 23, op := Op.load 43 (Operand.tmp 5), type := 43, pos := "bytes.go:98", after := #[], guard := none } : Oper)) (v := ?_) rfl (by kernel_rfl) (by kernel_rfl) (by kernel_rfl) (fun _ _ _ h => h) (Or.inl ⟨by rfl, ?_⟩) (by assumption) ?_
      rotate_left
      · intro w hSw; (try dsimp only at hSw); go_simp; first | done | with_reducible rfl
      try simp only [Act.put, List.setIfInBounds_toArray, List.set_cons_zero, List.set_cons_succ]
      refine wpAnyH_take (i := 1) (oi := ({ dst := some 24, op := Op.move (Operand.tmp 4), type := 70, pos := "bytes.go:98", after := #[], guard := none } : Oper)) (v := ?_) rfl (by kernel_rfl) (by kernel_rfl) (by kernel_rfl) (fun _ _ _ h => h) (Or.inl ⟨by rfl, ?_⟩) (by assumption) ?_
      rotate_left
      · intro w hSw; (try dsimp only at hSw); go_simp; first | done | with_reducible rfl
      try simp only [Act.put, List.setIfInBounds_toArray, List.set_cons_zero, List.set_cons_succ]
      refine wpAnyH_take (i := 2) (oi := ({ dst := some 25, op := Op.indexAddr 70 (Operand.tmp 24) (Operand.const (Value.int IntKind.i64 2)), type := 0, pos := "bytes.go:98", after := #[{ on := 1, ground := Ground.data }], guard := none } : Oper)) (v := ?_) rfl (by kernel_rfl) (by kernel_rfl) (by kernel_rfl) (fun _ _ _ h => h) (Or.inl ⟨by rfl, ?_⟩) (by assumption) ?_
      rotate_left
      · intro w hSw; (try dsimp only at hSw); go_simp; first | done | with_reducible rfl
      try simp only [Act.put, List.setIfInBounds_toArray, List.set_cons_zero, List.set_cons_succ]
      refine wpAnyH_take (i := 3) (oi := ({ dst := some 26, op := Op.load 3 (Operand.tmp 25), type := 3, pos := "bytes.go:98", after := #[{ on := 2, ground := Ground.data }], guard := none } : Oper)) (v := ?_) rfl (by kernel_rfl) (by kernel_rfl) (by kernel_rfl) (fun _ _ _ h => h) (Or.inl ⟨by rfl, ?_⟩) (by assumption) ?_
      rotate_left
      · intro w hSw; (try dsimp only at hSw); go_simp; first | done | with_reducible rfl
      try simp only [Act.put, List.setIfInBounds_toArray, List.set_cons_zero, List.set_cons_succ]
      refine wpAnyH_take (i := 4) (oi := ({ dst := some 27, op := Op.move (Operand.tmp 3), type := 44, pos := "bytes.go:98", after := #[], guard := none } : Oper)) (v := ?_) rfl (by kernel_rfl) (by kernel_rfl) (by kernel_rfl) (fun _ _ _ h => h) (Or.inl ⟨by rfl, ?_⟩) (by assumption) ?_
      rotate_left
      · intro w hSw; (try dsimp only at hSw); go_simp; first | done | with_reducible rfl
      try simp only [Act.put, List.setIfInBounds_toArray, List.set_cons_zero, List.set_cons_succ]
      refine wpAnyH_take (i := 5) (oi := ({ dst := some 28, op := Op.indexAddr 44 (Operand.tmp 27) (Operand.const (Value.int IntKind.i64 1)), type := 0, pos := "bytes.go:98", after := #[{ on := 4, ground := Ground.data }], guard := none } : Oper)) (v := ?_) rfl (by kernel_rfl) (by kernel_rfl) (by kernel_rfl) (fun _ _ _ h => h) (Or.inl ⟨by rfl, ?_⟩) (by assumption) ?_
      rotate_left
      · intro w hSw; (try dsimp only at hSw); go_simp; first | done | with_reducible rfl
      try simp only [Act.put, List.setIfInBounds_toArray, List.set_cons_zero, List.set_cons_succ]
      refine wpAnyH_take (i := 6) (oi := ({ dst := some 29, op := Op.load 22 (Operand.tmp 28), type := 22, pos := "bytes.go:98", after := #[{ on := 5, ground := Ground.data }], guard := none } : Oper)) (v := ?_) rfl (by kernel_rfl) (by kernel_rfl) (by kernel_rfl) (fun _ _ _ h => h) (Or.inl ⟨by rfl, ?_⟩) (by assumption) ?_
      rotate_left
      · intro w hSw; (try dsimp only at hSw); go_simp; first | done | with_reducible rfl
      try simp only [Act.put, List.setIfInBounds_toArray, List.set_cons_zero, List.set_cons_succ]
      refine wpAnyH_take (i := 7) (oi := ({ dst := some 30, op := Op.move (Operand.tmp 3), type := 44, pos := "bytes.go:98", after := #[], guard := none } : Oper)) (v := ?_) rfl (by kernel_rfl) (by kernel_rfl) (by kernel_rfl) (fun _ _ _ h => h) (Or.inl ⟨by rfl, ?_⟩) (by assumption) ?_
      rotate_left
      · intro w hSw; (try dsimp only at hSw); go_simp; first | done | with_reducible rfl
      try simp only [Act.put, List.setIfInBounds_toArray, List.set_cons_zero, List.set_cons_succ]
      refine wpAnyH_take (i := 8) (oi := ({ dst := some 31, op := Op.indexAddr 44 (Operand.tmp 30) (Operand.const (Value.int IntKind.i64 2)), type := 0, pos := "bytes.go:98", after := #[{ on := 7, ground := Ground.data }], guard := none } : Oper)) (v := ?_) rfl (by kernel_rfl) (by kernel_rfl) (by kernel_rfl) (fun _ _ _ h => h) (Or.inl ⟨by rfl, ?_⟩) (by assumption) ?_
      rotate_left
      · intro w hSw; (try dsimp only at hSw); go_simp; first | done | with_reducible rfl
      try simp only [Act.put, List.setIfInBounds_toArray, List.set_cons_zero, List.set_cons_succ]
      refine wpAnyH_take (i := 9) (oi := ({ dst := some 32, op := Op.load 22 (Operand.tmp 31), type := 22, pos := "bytes.go:98", after := #[{ on := 8, ground := Ground.data }], guard := none } : Oper)) (v := ?_) rfl (by kernel_rfl) (by kernel_rfl) (by kernel_rfl) (fun _ _ _ h => h) (Or.inl ⟨by rfl, ?_⟩) (by assumption) ?_
      rotate_left
      · intro w hSw; (try dsimp only at hSw); go_simp; first | done | with_reducible rfl
      try simp only [Act.put, List.setIfInBounds_toArray, List.set_cons_zero, List.set_cons_succ]
      refine wpAnyH_ready (rs := [10]) (by kernel_rfl) (by simp) ?_
      refine AllReadyH.cons (o := ({ dst := some 33, op := Op.call { callee := Callee.value (Operand.func 85), args := #[Operand.tmp 32], argTypes := #[22] }, type := 78, pos := "bytes.go:98", after := #[{ on := 9, ground := Ground.data }], guard := none } : Oper)) rfl (fun K hK => ?_) AllReadyH.nil
      go_simp
      refine (split_any B2 f2.length d2 f2 _ (show Sl Y.drew B2 f2.length d2 f2 from HT2.out).rd HT2.out.1 HT2.out.2.1 (by have := HLN2.out; omega)).mono ?_
      rintro e w5 ⟨hb5, ⟨hz, rfl⟩ | ⟨hz, A5, n5, c5, rfl, ho5⟩⟩
      · replace hb5 : Below Y.heap.size Y w5 := ⟨hb5.os, hb5.tape, hb5.output, hb5.size, hb5.block⟩
        have HZ5 := Lib.hid (show ((splitN f2).1 : Int) ≠ 0 by omega)
        have HR5 := Lib.hid (show rdSplit f2 = none by unfold rdSplit; rw [if_neg hz])
        have HB5 := Lib.hid (below_next HB4.out hb5 HB4.out.size)
        have HSS := Lib.hid (show _ ∧ _ ∧ _ ∧ _ ∧ _ from ⟨kept_cell b0 hb5, kept_cell b1 hb5, kept_cell i2 hb5, kept_cell q1 hb5, kept_cell q2 hb5⟩)
        clear hz hb5
        go_wp2_with fail
        refine hK.out _ _ (HSS.out) (fun hHeld => ?_)
        clear hK K
        try simp only [Act.put, List.setIfInBounds_toArray, List.set_cons_zero, List.set_cons_succ]
        refine wpAnyH_take (i := 11) (oi := ({ dst := some 34, op := Op.extract (Operand.tmp 33) 0, type := 44, pos := "bytes.go:98", after := #[{ on := 10, ground := Ground.data }], guard := none } : Oper)) (v := ?_) rfl (by kernel_rfl) (by kernel_rfl) (by kernel_rfl) (fun _ _ _ h => h) (Or.inl ⟨by rfl, ?_⟩) (by assumption) ?_
        rotate_left
        · intro w hSw; (try dsimp only at hSw); go_simp; first | done | with_reducible rfl
        try simp only [Act.put, List.setIfInBounds_toArray, List.set_cons_zero, List.set_cons_succ]
        refine wpAnyH_take (i := 12) (oi := ({ dst := some 35, op := Op.extract (Operand.tmp 33) 1, type := 32, pos := "bytes.go:98", after := #[{ on := 10, ground := Ground.data }], guard := none } : Oper)) (v := ?_) rfl (by kernel_rfl) (by kernel_rfl) (by kernel_rfl) (fun _ _ _ h => h) (Or.inl ⟨by rfl, ?_⟩) (by assumption) ?_
        rotate_left
        · intro w hSw; (try dsimp only at hSw); go_simp; first | done | with_reducible rfl
        try simp only [Act.put, List.setIfInBounds_toArray, List.set_cons_zero, List.set_cons_succ]
        refine wpAnyH_ready (rs := [13]) (by kernel_rfl) (by simp) ?_
        refine AllReadyH.cons (o := ({ dst := some 36, op := Op.call { callee := Callee.value (Operand.func 84), args := #[Operand.tmp 34, Operand.tmp 35], argTypes := #[44, 32] }, type := 44, pos := "bytes.go:98", after := #[{ on := 11, ground := Ground.data }, { on := 12, ground := Ground.data }, { on := 10, ground := Ground.chain }], guard := none } : Oper)) rfl (fun K hK => ?_) AllReadyH.nil
        go_simp
        refine (mustR_no _ _ HZ5.out _).mono ?_
        rintro e w6 ⟨rfl, rfl⟩
        exact ⟨rfl, HB5.out, .inr ⟨by rw [HD.out, HR.out]; simp only [HVS.out, HR5.out], _, rfl, by first | decide | assumption | exact HZ.out | exact HZ5.out⟩⟩
      replace hb5 : Below Y.heap.size Y w5 := ⟨hb5.os, hb5.tape, hb5.output, hb5.size, hb5.block⟩
      have HR5 := Lib.hid (show rdSplit f2 = some (splitN f2).2 by unfold rdSplit; rw [if_pos hz])
      have HB5 := Lib.hid (below_next HB4.out hb5 HB4.out.size)
      obtain rfl : (splitN f2).2.length = n5 := ho5.1
      have HO5 := Lib.hid ho5
      have HK5 := Lib.hid (HK4.out.kept hb5)
      have HF5 := Lib.hid (HF4.out.below hb5)
      have HSS := Lib.hid (show _ ∧ _ ∧ _ ∧ _ ∧ _ from ⟨kept_cell b0 hb5, kept_cell b1 hb5, kept_cell i2 hb5, kept_cell q1 hb5, kept_cell q2 hb5⟩)
      clear hz hb5 ho5
      go_wp2_with fail
      refine hK.out _ _ (HSS.out) (fun hHeld => ?_)
      clear hK K
      try simp only [Act.put, List.setIfInBounds_toArray, List.set_cons_zero, List.set_cons_succ]
      refine wpAnyH_take (i := 11) (oi := ({ dst := some 34, op := Op.extract (Operand.tmp 33) 0, type := 44, pos := "bytes.go:98", after := #[{ on := 10, ground := Ground.data }], guard := none } : Oper)) (v := ?_) rfl (by kernel_rfl) (by kernel_rfl) (by kernel_rfl) (fun _ _ _ h => h) (Or.inl ⟨by rfl, ?_⟩) (by assumption) ?_
      rotate_left
      · intro w hSw; (try dsimp only at hSw); go_simp; first | done | with_reducible rfl
      try simp only [Act.put, List.setIfInBounds_toArray, List.set_cons_zero, List.set_cons_succ]
      refine wpAnyH_take (i := 12) (oi := ({ dst := some 35, op := Op.extract (Operand.tmp 33) 1, type := 32, pos := "bytes.go:98", after := #[{ on := 10, ground := Ground.data }], guard := none } : Oper)) (v := ?_) rfl (by kernel_rfl) (by kernel_rfl) (by kernel_rfl) (fun _ _ _ h => h) (Or.inl ⟨by rfl, ?_⟩) (by assumption) ?_
      rotate_left
      · intro w hSw; (try dsimp only at hSw); go_simp; first | done | with_reducible rfl
      try simp only [Act.put, List.setIfInBounds_toArray, List.set_cons_zero, List.set_cons_succ]
      refine wpAnyH_ready (rs := [13]) (by kernel_rfl) (by simp) ?_
      refine AllReadyH.cons (o := ({ dst := some 36, op := Op.call { callee := Callee.value (Operand.func 84), args := #[Operand.tmp 34, Operand.tmp 35], argTypes := #[44, 32] }, type := 44, pos := "bytes.go:98", after := #[{ on := 11, ground := Ground.data }, { on := 12, ground := Ground.data }, { on := 10, ground := Ground.chain }], guard := none } : Oper)) rfl (fun K hK => ?_) AllReadyH.nil
      go_simp
      refine (mustR_yes _ _ _ _).mono ?_
      rintro e w6 ⟨rfl, rfl⟩
      go_wp2_with fail
      refine hK.out _ _ (HSS.out) (fun hHeld => ?_)
      clear hK K
      try simp only [Act.put, List.setIfInBounds_toArray, List.set_cons_zero, List.set_cons_succ]
      refine wpAnyH_take (i := 14) (oi := ({ dst := some 37, op := Op.build 46 #[(0, Operand.tmp 23), (1, Operand.tmp 26), (2, Operand.tmp 29), (3, Operand.tmp 36)], type := 46, pos := "bytes.go:98", after := #[{ on := 0, ground := Ground.data }, { on := 3, ground := Ground.data }, { on := 6, ground := Ground.data }, { on := 13, ground := Ground.data }], guard := none } : Oper)) (v := ?_) rfl (by kernel_rfl) (by kernel_rfl) (by kernel_rfl) (fun _ _ _ h => h) (Or.inl ⟨by rfl, ?_⟩) (by assumption) ?_
      rotate_left
      · intro w hSw; (try dsimp only at hSw); go_simp; first | done | with_reducible rfl
      try simp only [Act.put, List.setIfInBounds_toArray, List.set_cons_zero, List.set_cons_succ]
      obtain ⟨b0, b1, i2, q1, q2⟩ := HSS.out
      have k0 := HK5.out.at_ (i := 0) rfl
      have k1 := HK5.out.at_ (i := 1) rfl
      have k2 := HK5.out.at_ (i := 2) rfl
      have k3 := HK5.out.at_ (i := 3) rfl
      have k4 := HK5.out.at_ (i := 4) rfl
      have z0 := HK5.out.frozen 0
      have z1 := HK5.out.frozen 1
      have z2 := HK5.out.frozen 2
      have z3 := HK5.out.frozen 3
      have z4 := HK5.out.frozen 4
      refine wpAnyH_ready (rs := [15]) (by kernel_rfl) (by simp) ?_
      refine AllReadyH.cons (o := ({ dst := none, op := Op.store 46 (Operand.tmp 2) (Operand.tmp 37), type := 0, pos := "bytes.go:98", after := #[{ on := 14, ground := Ground.data }, { on := 13, ground := Ground.chain }, { on := 0, ground := Ground.phase }, { on := 1, ground := Ground.phase }, { on := 2, ground := Ground.phase }, { on := 3, ground := Ground.phase }, { on := 4, ground := Ground.phase }, { on := 5, ground := Ground.phase }, { on := 6, ground := Ground.phase }, { on := 7, ground := Ground.phase }, { on := 8, ground := Ground.phase }, { on := 9, ground := Ground.phase }, { on := 10, ground := Ground.phase }, { on := 11, ground := Ground.phase }, { on := 12, ground := Ground.phase }, { on := 13, ground := Ground.phase }, { on := 14, ground := Ground.phase }], guard := none } : Oper)) rfl (fun K hK => ?_) AllReadyH.nil
      go_simp
      refine hK.out _ _ (⟨far1 (far1 (far1 (far1 (far1 b0 nb 0 _) nb 1 _) nb 2 _) nb 3 _) nb 4 _, far1 (far1 (far1 (far1 (far1 b1 nb 0 _) nb 1 _) nb 2 _) nb 3 _) nb 4 _, far1 (far1 (far1 (far1 (far1 i2 ni 0 _) ni 1 _) ni 2 _) ni 3 _) ni 4 _, far1 (far1 (far1 (far1 (far1 q1 nf 0 _) nf 1 _) nf 2 _) nf 3 _) nf 4 _, far1 (far1 (far1 (far1 (far1 q2 nf 0 _) nf 1 _) nf 2 _) nf 3 _) nf 4 _⟩) (fun hHeld => ?_)
      clear hK K
      try simp only [Act.put, List.setIfInBounds_toArray, List.set_cons_zero, List.set_cons_succ]
      refine wpAnyH_done (by kernel_rfl) ?_ _
      have kk := ((((HK5.out.set 0 (.int .i64 x)).set 1 (.int .i64 y)).set 2 (.int .i64 z)).set 3 (.slice B1 f1.length d1)).set 4 (.slice A5 (splitN f2).2.length c5)
      have gr := grown_set (grown_set (grown_set (grown_set (grown_set (grown_refl w5 (some w.heap.size)) 0 (.int .i64 x)) 1 (.int .i64 y)) 2 (.int .i64 z)) 3 (.slice B1 f1.length d1)) 4 (.slice A5 (splitN f2).2.length c5)
      have hf := HF5.out.set gr (fun b hb => by have := HK1.out.lt; unfold From at hb; simp at hb; omega)
      have ht := ((RdS.of_own HO5.out).from_ (B' := w.heap.size + 1) (by have := HK4.out.lt; show w.heap.size + 1 ≤ Y.heap.size; omega)).keep (Kp.of_grown gr fun b hb e => by injection e with e; unfold From at hb; omega) (F' := From w.heap.size) (fun b hb _ => by unfold From at *; omega)
      have hb := HB5.out.grown gr HB5.out.size (fun g hg => by cases hg; omega)
      go_wp2_with fail
      refine bodyPost_ret_by (results_row1 rfl _ _ w.heap.size 46 _ _ rfl kk Try.underlying46 rfl info_letter1) rfl ?_
      exact ⟨hb, .inl ⟨⟨x, y, z, f1, (splitN f2).2⟩, by rw [HD.out, HR.out]; simp only [HVS.out, HR5.out], B1, d1, A5, c5, rfl, BF.from_ hf (by simp), ht⟩⟩
end Go.Proofs.Ytmgmmbgjmnklkaa
