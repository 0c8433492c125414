/-
  The reference's comparisons of lists of letters, of what is proven, of messages that are alike. Walks; no statement.
-/
import Derived.Test.YtmgmmbgjmnklkaaMsgSame
namespace Go.Proofs.Ytmgmmbgjmnklkaa
set_option maxRecDepth 100000
open Go.RowKit
open Pk
set_option linter.unusedVariables false

theorem sameEntry_self (x : En) (A B : Option Addr) (c d : Nat) (F G : Nat → Prop) (w : World) (h : BF F w A c x.dig) (h' : BF G w B d x.dig) :
    Calls Try.prog 33 #[.agg #[.int .i64 x.c, .int .i64 x.s, .int .i64 x.t, .slice A x.dig.length c], .agg #[.int .i64 x.c, .int .i64 x.s, .int .i64 x.t, .slice B x.dig.length d]] w (Tells (.bool true) w) := by
  have := sameEntry_any x x A B c d F G w h h'
  simpa using this
theorem sameLetter_self' (x : Lt) (A B A' B' : Option Addr) (c d c' d' : Nat) (F G : Nat → Prop) (w : World) (h : LtR F w x A c B d) (h' : LtR G w x A' c' B' d') :
    Calls Try.prog 32 #[.agg #[.int .i64 x.f1, .int .i64 x.f2, .int .i64 x.r, .slice A x.body.length c, .slice B x.tags.length d], .agg #[.int .i64 x.f1, .int .i64 x.f2, .int .i64 x.r, .slice A' x.body.length c', .slice B' x.tags.length d']] w (Tells (.bool true) w) := by
  have := sameLetter_any x x A B A' B' c d c' d' F G w h h'
  simpa using this
theorem sameBytes_tell (A A' : Option Addr) (c c' : Nat) (w : World) (xs : List UInt8) (F G : Nat → Prop) (h : BF F w A c xs) (h' : BF G w A' c' xs) :
    Calls Try.prog 15 #[.slice A xs.length c, .slice A' xs.length c'] w (Tells (.bool true) w) :=
  (sameBytes_self A A' xs.length xs.length c c' w xs h.rd h'.rd (Nat.le_trans h.1.1 h.1.2.1)).mono (by rintro e w1 ⟨rfl, k, rfl⟩; exact ⟨rfl, below_drewN (Below.refl _ _) k⟩)

theorem sameLetters_self (A A' : Option Addr) (c c' : Nat) (ls : List Lt) (F G : Nat → Prop) (w : World) (h : RdS RLt F w A c ls) (h' : RdS RLt G w A' c' ls) :
    Calls Try.prog 45 #[.slice A ls.length c, .slice A' ls.length c'] w (Tells (.bool true) w) := by
  have HR := Lib.hid h
  have HR' := Lib.hid h'
  have hml : ls.length ≤ maxLen := Nat.le_trans h.1 h.2.1
  simp only [maxLen] at hml
  clear h h'
  go_enter Try.func45, Try.ntmps45
  go_wp2_with fail
  go_loopw [5] (fun i wr => ∃ k : Nat, k ≤ ls.length ∧ i = .int .i64 k ∧ Below w.heap.size w wr) (fun i _ => ls.length - (intOf i).toNat)
  case atStart => exact ⟨0, by omega, rfl, Below.refl _ _⟩
  case round =>
    obtain ⟨k, hk, rfl, hb⟩ := hrel
    have HB := Lib.hid hb
    by_cases hlt : k < ls.length
    · obtain ⟨l, hl⟩ : ∃ l, ls[k]? = some l := ⟨_, List.getElem?_eq_getElem hlt⟩
      obtain ⟨x, B, d, C, q, rfl, hxb, c0, c1, c2, c3, c4, hr⟩ := (HR.out.below hb).lt5 hl
      obtain ⟨y, B', d', C', q', rfl, hyb, d0, d1, d2, d3, d4, hr'⟩ := (HR'.out.below hb).lt5 hl
      have HL1 := Lib.hid hr
      have HL2 := Lib.hid hr'
      have y1 : (0 : Int) ≤ (k : Int) := by omega
      have y2 : (k : Int) < (ls.length : Int) := by omega
      clear hl hb hr hr' hxb hyb
      go_wp2_with fail
      refine wp_region_held_drew (S := fun w' => w'.cell? (x.add (k * 5)) = some (.int .i64 l.f1) ∧ w'.cell? ⟨(x.add (k * 5)).block, (x.add (k * 5)).off + 1, none⟩ = some (.int .i64 l.f2) ∧ w'.cell? ⟨(x.add (k * 5)).block, (x.add (k * 5)).off + 2, none⟩ = some (.int .i64 l.r) ∧ w'.cell? ⟨(x.add (k * 5)).block, (x.add (k * 5)).off + 3, none⟩ = some (.slice B l.body.length d) ∧ w'.cell? ⟨(x.add (k * 5)).block, (x.add (k * 5)).off + 4, none⟩ = some (.slice C l.tags.length q) ∧ w'.cell? (y.add (k * 5)) = some (.int .i64 l.f1) ∧ w'.cell? ⟨(y.add (k * 5)).block, (y.add (k * 5)).off + 1, none⟩ = some (.int .i64 l.f2) ∧ w'.cell? ⟨(y.add (k * 5)).block, (y.add (k * 5)).off + 2, none⟩ = some (.int .i64 l.r) ∧ w'.cell? ⟨(y.add (k * 5)).block, (y.add (k * 5)).off + 3, none⟩ = some (.slice B' l.body.length d') ∧ w'.cell? ⟨(y.add (k * 5)).block, (y.add (k * 5)).off + 4, none⟩ = some (.slice C' l.tags.length q')) (by kernel_rfl) (⟨c0, c1, c2, c3, c4, d0, d1, d2, d3, d4⟩) (fun hHeld => ?_)
      refine wpAnyH_take (i := 0) (oi := ({ dst := some 17, op := Op.move (Operand.tmp 0), type := 25, pos := "ref.go:158", after := #[], guard := none } : Oper)) (v := ?_) rfl (by kernel_rfl) (by kernel_rfl) (by kernel_rfl) (fun _ _ _ h => h) (Or.inl ⟨by rfl, ?_⟩) (by assumption) ?_
      rotate_left
      · intro w hSw; (try dsimp only at hSw); go_simp; first | done | with_reducible rfl
      try simp only [Act.put, List.setIfInBounds_toArray, List.set_cons_zero, List.set_cons_succ]
      refine wpAnyH_take (i := 1) (oi := ({ dst := some 18, op := Op.move (Operand.tmp 5), type := 3, pos := "ref.go:158", after := #[], guard := none } : Oper)) (v := ?_) rfl (by kernel_rfl) (by kernel_rfl) (by kernel_rfl) (fun _ _ _ h => h) (Or.inl ⟨by rfl, ?_⟩) (by assumption) ?_
      rotate_left
      · intro w hSw; (try dsimp only at hSw); go_simp; first | done | with_reducible rfl
      try simp only [Act.put, List.setIfInBounds_toArray, List.set_cons_zero, List.set_cons_succ]
      refine wpAnyH_take (i := 2) (oi := ({ dst := some 19, op := Op.indexAddr 25 (Operand.tmp 17) (Operand.tmp 18), type := 0, pos := "ref.go:158", after := #[{ on := 0, ground := Ground.data }, { on := 1, ground := Ground.data }], guard := none } : Oper)) (v := ?_) rfl (by kernel_rfl) (by kernel_rfl) (by kernel_rfl) (fun _ _ _ h => h) (Or.inl ⟨by rfl, ?_⟩) (by assumption) ?_
      rotate_left
      · intro w hSw; (try dsimp only at hSw); go_simp; first | done | with_reducible rfl
      try simp only [Act.put, List.setIfInBounds_toArray, List.set_cons_zero, List.set_cons_succ]
      refine wpAnyH_take (i := 3) (oi := ({ dst := some 20, op := Op.load 46 (Operand.tmp 19), type := 46, pos := "ref.go:158", after := #[{ on := 2, ground := Ground.data }], guard := none } : Oper)) (v := ?_) rfl (by kernel_rfl) (by kernel_rfl) (by kernel_rfl) (fun _ _ _ h => h) (Or.inl ⟨by rfl, ?_⟩) (by assumption) ?_
      rotate_left
      · intro w hSw; (try dsimp only at hSw); go_simp; first | done | with_reducible rfl
      try simp only [Act.put, List.setIfInBounds_toArray, List.set_cons_zero, List.set_cons_succ]
      refine wpAnyH_take (i := 4) (oi := ({ dst := some 21, op := Op.move (Operand.tmp 1), type := 25, pos := "ref.go:158", after := #[], guard := none } : Oper)) (v := ?_) rfl (by kernel_rfl) (by kernel_rfl) (by kernel_rfl) (fun _ _ _ h => h) (Or.inl ⟨by rfl, ?_⟩) (by assumption) ?_
      rotate_left
      · intro w hSw; (try dsimp only at hSw); go_simp; first | done | with_reducible rfl
      try simp only [Act.put, List.setIfInBounds_toArray, List.set_cons_zero, List.set_cons_succ]
      refine wpAnyH_take (i := 5) (oi := ({ dst := some 22, op := Op.move (Operand.tmp 5), type := 3, pos := "ref.go:158", after := #[], guard := none } : Oper)) (v := ?_) rfl (by kernel_rfl) (by kernel_rfl) (by kernel_rfl) (fun _ _ _ h => h) (Or.inl ⟨by rfl, ?_⟩) (by assumption) ?_
      rotate_left
      · intro w hSw; (try dsimp only at hSw); go_simp; first | done | with_reducible rfl
      try simp only [Act.put, List.setIfInBounds_toArray, List.set_cons_zero, List.set_cons_succ]
      refine wpAnyH_take (i := 6) (oi := ({ dst := some 23, op := Op.indexAddr 25 (Operand.tmp 21) (Operand.tmp 22), type := 0, pos := "ref.go:158", after := #[{ on := 4, ground := Ground.data }, { on := 5, ground := Ground.data }], guard := none } : Oper)) (v := ?_) rfl (by kernel_rfl) (by kernel_rfl) (by kernel_rfl) (fun _ _ _ h => h) (Or.inl ⟨by rfl, ?_⟩) (by assumption) ?_
      rotate_left
      · intro w hSw; (try dsimp only at hSw); go_simp; first | done | with_reducible rfl
      try simp only [Act.put, List.setIfInBounds_toArray, List.set_cons_zero, List.set_cons_succ]
      refine wpAnyH_take (i := 7) (oi := ({ dst := some 24, op := Op.load 46 (Operand.tmp 23), type := 46, pos := "ref.go:158", after := #[{ on := 6, ground := Ground.data }], guard := none } : Oper)) (v := ?_) rfl (by kernel_rfl) (by kernel_rfl) (by kernel_rfl) (fun _ _ _ h => h) (Or.inl ⟨by rfl, ?_⟩) (by assumption) ?_
      rotate_left
      · intro w hSw; (try dsimp only at hSw); go_simp; first | done | with_reducible rfl
      try simp only [Act.put, List.setIfInBounds_toArray, List.set_cons_zero, List.set_cons_succ]
      refine wpAnyH_ready (rs := [8]) (by kernel_rfl) (by simp) ?_
      refine AllReadyH.cons (o := ({ dst := some 25, op := Op.call { callee := Callee.value (Operand.func 32), args := #[Operand.tmp 20, Operand.tmp 24], argTypes := #[46, 46] }, type := 4, pos := "ref.go:158", after := #[{ on := 3, ground := Ground.data }, { on := 7, ground := Ground.data }], guard := none } : Oper)) rfl (fun K hK => ?_) AllReadyH.nil
      go_simp
      refine (sameLetter_self' l B C B' C' d q d' q' _ _ _ (show LtR F wr.drew l B d C q from HL1.out) (show LtR G wr.drew l B' d' C' q' from HL2.out)).mono ?_
      rintro en w3 ⟨rfl, hb3⟩
      replace hb3 : Below wr.heap.size wr w3 := ⟨hb3.os, hb3.tape, hb3.output, hb3.size, hb3.block⟩
      have HBZ := Lib.hid (below_next HB.out hb3 HB.out.size)
      have HSS := Lib.hid (show _ ∧ _ ∧ _ ∧ _ ∧ _ ∧ _ ∧ _ ∧ _ ∧ _ ∧ _ from ⟨kept_cell c0 hb3, kept_cell c1 hb3, kept_cell c2 hb3, kept_cell c3 hb3, kept_cell c4 hb3, kept_cell d0 hb3, kept_cell d1 hb3, kept_cell d2 hb3, kept_cell d3 hb3, kept_cell d4 hb3⟩)
      clear hb3
      go_wp2_with fail
      refine hK.out _ _ (HSS.out) (fun hHeld => ?_)
      clear hK K
      try simp only [Act.put, List.setIfInBounds_toArray, List.set_cons_zero, List.set_cons_succ]
      refine wpAnyH_take (i := 9) (oi := ({ dst := some 26, op := Op.unOp UnOp.not 4 (Operand.tmp 25), type := 4, pos := "ref.go:158", after := #[{ on := 8, ground := Ground.data }], guard := none } : Oper)) (v := ?_) rfl (by kernel_rfl) (by kernel_rfl) (by kernel_rfl) (fun _ _ _ h => h) (Or.inl ⟨by rfl, ?_⟩) (by assumption) ?_
      rotate_left
      · intro w hSw; (try dsimp only at hSw); go_simp; first | done | with_reducible rfl
      try simp only [Act.put, List.setIfInBounds_toArray, List.set_cons_zero, List.set_cons_succ]
      refine wpAnyH_done (by kernel_rfl) ?_ _
      go_wp2_with fail
      go_roundw
      case rel => exact ⟨k + 1, by omega, by go_num, HBZ.out⟩
      case measure => simp [intOf]; omega
    · obtain rfl : k = ls.length := by omega
      clear hb
      go_wp2_with fail
      go_ret
      exact ⟨rfl, HB.out⟩

theorem sameProven_self (A A' : Option Addr) (c c' : Nat) (ls : List Pv) (F G : Nat → Prop) (w : World) (h : RdS RPv F w A c ls) (h' : RdS RPv G w A' c' ls) :
    Calls Try.prog 46 #[.slice A ls.length c, .slice A' ls.length c'] w (Tells (.bool true) w) := by
  have HR := Lib.hid h
  have HR' := Lib.hid h'
  have hml : ls.length ≤ maxLen := Nat.le_trans h.1 h.2.1
  simp only [maxLen] at hml
  clear h h'
  go_enter Try.func46, Try.ntmps46
  go_wp2_with fail
  go_loopw [5] (fun i wr => ∃ k : Nat, k ≤ ls.length ∧ i = .int .i64 k ∧ Below w.heap.size w wr) (fun i _ => ls.length - (intOf i).toNat)
  case atStart => exact ⟨0, by omega, rfl, Below.refl _ _⟩
  case round =>
    obtain ⟨k, hk, rfl, hb⟩ := hrel
    have HB := Lib.hid hb
    by_cases hlt : k < ls.length
    · obtain ⟨l, hl⟩ : ∃ l, ls[k]? = some l := ⟨_, List.getElem?_eq_getElem hlt⟩
      obtain ⟨x, B, d, C, q, rfl, hxb, c0, c1, c2, c3, c4, c5, c6, hr, hv⟩ := (HR.out.below hb).pv7 hl
      obtain ⟨y, B', d', C', q', rfl, hyb, d0, d1, d2, d3, d4, d5, d6, hr', hv'⟩ := (HR'.out.below hb).pv7 hl
      have HL1 := Lib.hid hr
      have HL2 := Lib.hid hr'
      have HV1 := Lib.hid hv
      have HV2 := Lib.hid hv'
      have y1 : (0 : Int) ≤ (k : Int) := by omega
      have y2 : (k : Int) < (ls.length : Int) := by omega
      clear hl hb hr hr' hv hv' hxb hyb
      go_wp2_with fail
      refine wp_region_held_drew (S := fun w' => w'.cell? (x.add (k * 7)) = some (.int .i64 l.seq) ∧ w'.cell? ⟨(x.add (k * 7)).block, (x.add (k * 7)).off + 1, none⟩ = some (.int .i64 l.view) ∧ w'.cell? ⟨(x.add (k * 7)).block, (x.add (k * 7)).off + 2, none⟩ = some (.int .i64 l.e.c) ∧ w'.cell? ⟨(x.add (k * 7)).block, (x.add (k * 7)).off + 3, none⟩ = some (.int .i64 l.e.s) ∧ w'.cell? ⟨(x.add (k * 7)).block, (x.add (k * 7)).off + 4, none⟩ = some (.int .i64 l.e.t) ∧ w'.cell? ⟨(x.add (k * 7)).block, (x.add (k * 7)).off + 5, none⟩ = some (.slice B l.e.dig.length d) ∧ w'.cell? ⟨(x.add (k * 7)).block, (x.add (k * 7)).off + 6, none⟩ = some (.slice C l.votes.length q) ∧ w'.cell? (y.add (k * 7)) = some (.int .i64 l.seq) ∧ w'.cell? ⟨(y.add (k * 7)).block, (y.add (k * 7)).off + 1, none⟩ = some (.int .i64 l.view) ∧ w'.cell? ⟨(y.add (k * 7)).block, (y.add (k * 7)).off + 2, none⟩ = some (.int .i64 l.e.c) ∧ w'.cell? ⟨(y.add (k * 7)).block, (y.add (k * 7)).off + 3, none⟩ = some (.int .i64 l.e.s) ∧ w'.cell? ⟨(y.add (k * 7)).block, (y.add (k * 7)).off + 4, none⟩ = some (.int .i64 l.e.t) ∧ w'.cell? ⟨(y.add (k * 7)).block, (y.add (k * 7)).off + 5, none⟩ = some (.slice B' l.e.dig.length d') ∧ w'.cell? ⟨(y.add (k * 7)).block, (y.add (k * 7)).off + 6, none⟩ = some (.slice C' l.votes.length q')) (by kernel_rfl) (⟨c0, c1, c2, c3, c4, c5, c6, d0, d1, d2, d3, d4, d5, d6⟩) (fun hHeld => ?_)
      refine wpAnyH_take (i := 0) (oi := ({ dst := some 17, op := Op.move (Operand.tmp 0), type := 26, pos := "ref.go:197", after := #[], guard := none } : Oper)) (v := ?_) rfl (by kernel_rfl) (by kernel_rfl) (by kernel_rfl) (fun _ _ _ h => h) (Or.inl ⟨by rfl, ?_⟩) (by assumption) ?_
      rotate_left
      · intro w hSw; (try dsimp only at hSw); go_simp; first | done | with_reducible rfl
      try simp only [Act.put, List.setIfInBounds_toArray, List.set_cons_zero, List.set_cons_succ]
      refine wpAnyH_take (i := 1) (oi := ({ dst := some 18, op := Op.move (Operand.tmp 5), type := 3, pos := "ref.go:197", after := #[], guard := none } : Oper)) (v := ?_) rfl (by kernel_rfl) (by kernel_rfl) (by kernel_rfl) (fun _ _ _ h => h) (Or.inl ⟨by rfl, ?_⟩) (by assumption) ?_
      rotate_left
      · intro w hSw; (try dsimp only at hSw); go_simp; first | done | with_reducible rfl
      try simp only [Act.put, List.setIfInBounds_toArray, List.set_cons_zero, List.set_cons_succ]
      refine wpAnyH_take (i := 2) (oi := ({ dst := some 19, op := Op.indexAddr 26 (Operand.tmp 17) (Operand.tmp 18), type := 0, pos := "ref.go:197", after := #[{ on := 0, ground := Ground.data }, { on := 1, ground := Ground.data }], guard := none } : Oper)) (v := ?_) rfl (by kernel_rfl) (by kernel_rfl) (by kernel_rfl) (fun _ _ _ h => h) (Or.inl ⟨by rfl, ?_⟩) (by assumption) ?_
      rotate_left
      · intro w hSw; (try dsimp only at hSw); go_simp; first | done | with_reducible rfl
      try simp only [Act.put, List.setIfInBounds_toArray, List.set_cons_zero, List.set_cons_succ]
      refine wpAnyH_take (i := 3) (oi := ({ dst := some 20, op := Op.fieldAddr 62 (Operand.tmp 19) 0, type := 0, pos := "ref.go:197", after := #[{ on := 2, ground := Ground.data }], guard := none } : Oper)) (v := ?_) rfl (by kernel_rfl) (by kernel_rfl) (by kernel_rfl) (fun _ _ _ h => h) (Or.inl ⟨by rfl, ?_⟩) (by assumption) ?_
      rotate_left
      · intro w hSw; (try dsimp only at hSw); go_simp; first | done | with_reducible rfl
      try simp only [Act.put, List.setIfInBounds_toArray, List.set_cons_zero, List.set_cons_succ]
      refine wpAnyH_take (i := 4) (oi := ({ dst := some 21, op := Op.load 3 (Operand.tmp 20), type := 3, pos := "ref.go:197", after := #[{ on := 3, ground := Ground.data }], guard := none } : Oper)) (v := ?_) rfl (by kernel_rfl) (by kernel_rfl) (by kernel_rfl) (fun _ _ _ h => h) (Or.inl ⟨by rfl, ?_⟩) (by assumption) ?_
      rotate_left
      · intro w hSw; (try dsimp only at hSw); go_simp; first | done | with_reducible rfl
      try simp only [Act.put, List.setIfInBounds_toArray, List.set_cons_zero, List.set_cons_succ]
      refine wpAnyH_take (i := 5) (oi := ({ dst := some 22, op := Op.move (Operand.tmp 1), type := 26, pos := "ref.go:197", after := #[], guard := none } : Oper)) (v := ?_) rfl (by kernel_rfl) (by kernel_rfl) (by kernel_rfl) (fun _ _ _ h => h) (Or.inl ⟨by rfl, ?_⟩) (by assumption) ?_
      rotate_left
      · intro w hSw; (try dsimp only at hSw); go_simp; first | done | with_reducible rfl
      try simp only [Act.put, List.setIfInBounds_toArray, List.set_cons_zero, List.set_cons_succ]
      refine wpAnyH_take (i := 6) (oi := ({ dst := some 23, op := Op.move (Operand.tmp 5), type := 3, pos := "ref.go:197", after := #[], guard := none } : Oper)) (v := ?_) rfl (by kernel_rfl) (by kernel_rfl) (by kernel_rfl) (fun _ _ _ h => h) (Or.inl ⟨by rfl, ?_⟩) (by assumption) ?_
      rotate_left
      · intro w hSw; (try dsimp only at hSw); go_simp; first | done | with_reducible rfl
      try simp only [Act.put, List.setIfInBounds_toArray, List.set_cons_zero, List.set_cons_succ]
      refine wpAnyH_take (i := 7) (oi := ({ dst := some 24, op := Op.indexAddr 26 (Operand.tmp 22) (Operand.tmp 23), type := 0, pos := "ref.go:197", after := #[{ on := 5, ground := Ground.data }, { on := 6, ground := Ground.data }], guard := none } : Oper)) (v := ?_) rfl (by kernel_rfl) (by kernel_rfl) (by kernel_rfl) (fun _ _ _ h => h) (Or.inl ⟨by rfl, ?_⟩) (by assumption) ?_
      rotate_left
      · intro w hSw; (try dsimp only at hSw); go_simp; first | done | with_reducible rfl
      try simp only [Act.put, List.setIfInBounds_toArray, List.set_cons_zero, List.set_cons_succ]
      refine wpAnyH_take (i := 8) (oi := ({ dst := some 25, op := Op.fieldAddr 62 (Operand.tmp 24) 0, type := 0, pos := "ref.go:197", after := #[{ on := 7, ground := Ground.data }], guard := none } : Oper)) (v := ?_) rfl (by kernel_rfl) (by kernel_rfl) (by kernel_rfl) (fun _ _ _ h => h) (Or.inl ⟨by rfl, ?_⟩) (by assumption) ?_
      rotate_left
      · intro w hSw; (try dsimp only at hSw); go_simp; first | done | with_reducible rfl
      try simp only [Act.put, List.setIfInBounds_toArray, List.set_cons_zero, List.set_cons_succ]
      refine wpAnyH_take (i := 9) (oi := ({ dst := some 26, op := Op.load 3 (Operand.tmp 25), type := 3, pos := "ref.go:197", after := #[{ on := 8, ground := Ground.data }], guard := none } : Oper)) (v := ?_) rfl (by kernel_rfl) (by kernel_rfl) (by kernel_rfl) (fun _ _ _ h => h) (Or.inl ⟨by rfl, ?_⟩) (by assumption) ?_
      rotate_left
      · intro w hSw; (try dsimp only at hSw); go_simp; first | done | with_reducible rfl
      try simp only [Act.put, List.setIfInBounds_toArray, List.set_cons_zero, List.set_cons_succ]
      refine wpAnyH_take (i := 10) (oi := ({ dst := some 27, op := Op.binOp BinOp.neq 3 (Operand.tmp 21) (Operand.tmp 26) 3, type := 4, pos := "ref.go:197", after := #[{ on := 4, ground := Ground.data }, { on := 9, ground := Ground.data }], guard := none } : Oper)) (v := ?_) rfl (by kernel_rfl) (by kernel_rfl) (by kernel_rfl) (fun _ _ _ h => h) (Or.inl ⟨by rfl, ?_⟩) (by assumption) ?_
      rotate_left
      · intro w hSw; (try dsimp only at hSw); go_simp; first | done | with_reducible rfl
      try simp only [Act.put, List.setIfInBounds_toArray, List.set_cons_zero, List.set_cons_succ]
      refine wpAnyH_take (i := 11) (oi := ({ dst := some 28, op := Op.move (Operand.tmp 27), type := 4, pos := "ref.go:197", after := #[{ on := 10, ground := Ground.data }], guard := none } : Oper)) (v := ?_) rfl (by kernel_rfl) (by kernel_rfl) (by kernel_rfl) (fun _ _ _ h => h) (Or.inl ⟨by rfl, ?_⟩) (by assumption) ?_
      rotate_left
      · intro w hSw; (try dsimp only at hSw); go_simp; first | done | with_reducible rfl
      try simp only [Act.put, List.setIfInBounds_toArray, List.set_cons_zero, List.set_cons_succ]
      refine wpAnyH_take (i := 12) (oi := ({ dst := some 29, op := Op.move (Operand.tmp 0), type := 26, pos := "ref.go:197", after := #[{ on := 11, ground := Ground.guard }], guard := some (11, false) } : Oper)) (v := ?_) rfl (by kernel_rfl) (by kernel_rfl) (by kernel_rfl) (fun _ _ _ h => h) (Or.inl ⟨by rfl, ?_⟩) (by assumption) ?_
      rotate_left
      · intro w hSw; (try dsimp only at hSw); go_simp; first | done | with_reducible rfl
      try simp only [Act.put, List.setIfInBounds_toArray, List.set_cons_zero, List.set_cons_succ]
      refine wpAnyH_take (i := 13) (oi := ({ dst := some 30, op := Op.move (Operand.tmp 5), type := 3, pos := "ref.go:197", after := #[{ on := 11, ground := Ground.guard }], guard := some (11, false) } : Oper)) (v := ?_) rfl (by kernel_rfl) (by kernel_rfl) (by kernel_rfl) (fun _ _ _ h => h) (Or.inl ⟨by rfl, ?_⟩) (by assumption) ?_
      rotate_left
      · intro w hSw; (try dsimp only at hSw); go_simp; first | done | with_reducible rfl
      try simp only [Act.put, List.setIfInBounds_toArray, List.set_cons_zero, List.set_cons_succ]
      refine wpAnyH_take (i := 14) (oi := ({ dst := some 31, op := Op.indexAddr 26 (Operand.tmp 29) (Operand.tmp 30), type := 0, pos := "ref.go:197", after := #[{ on := 12, ground := Ground.data }, { on := 13, ground := Ground.data }, { on := 11, ground := Ground.guard }], guard := some (11, false) } : Oper)) (v := ?_) rfl (by kernel_rfl) (by kernel_rfl) (by kernel_rfl) (fun _ _ _ h => h) (Or.inl ⟨by rfl, ?_⟩) (by assumption) ?_
      rotate_left
      · intro w hSw; (try dsimp only at hSw); go_simp; first | done | with_reducible rfl
      try simp only [Act.put, List.setIfInBounds_toArray, List.set_cons_zero, List.set_cons_succ]
      refine wpAnyH_take (i := 15) (oi := ({ dst := some 32, op := Op.fieldAddr 62 (Operand.tmp 31) 1, type := 0, pos := "ref.go:197", after := #[{ on := 14, ground := Ground.data }, { on := 11, ground := Ground.guard }], guard := some (11, false) } : Oper)) (v := ?_) rfl (by kernel_rfl) (by kernel_rfl) (by kernel_rfl) (fun _ _ _ h => h) (Or.inl ⟨by rfl, ?_⟩) (by assumption) ?_
      rotate_left
      · intro w hSw; (try dsimp only at hSw); go_simp; first | done | with_reducible rfl
      try simp only [Act.put, List.setIfInBounds_toArray, List.set_cons_zero, List.set_cons_succ]
      refine wpAnyH_take (i := 16) (oi := ({ dst := some 33, op := Op.load 3 (Operand.tmp 32), type := 3, pos := "ref.go:197", after := #[{ on := 15, ground := Ground.data }, { on := 11, ground := Ground.guard }], guard := some (11, false) } : Oper)) (v := ?_) rfl (by kernel_rfl) (by kernel_rfl) (by kernel_rfl) (fun _ _ _ h => h) (Or.inl ⟨by rfl, ?_⟩) (by assumption) ?_
      rotate_left
      · intro w hSw; (try dsimp only at hSw); go_simp; first | done | with_reducible rfl
      try simp only [Act.put, List.setIfInBounds_toArray, List.set_cons_zero, List.set_cons_succ]
      refine wpAnyH_take (i := 17) (oi := ({ dst := some 34, op := Op.move (Operand.tmp 1), type := 26, pos := "ref.go:197", after := #[{ on := 11, ground := Ground.guard }], guard := some (11, false) } : Oper)) (v := ?_) rfl (by kernel_rfl) (by kernel_rfl) (by kernel_rfl) (fun _ _ _ h => h) (Or.inl ⟨by rfl, ?_⟩) (by assumption) ?_
      rotate_left
      · intro w hSw; (try dsimp only at hSw); go_simp; first | done | with_reducible rfl
      try simp only [Act.put, List.setIfInBounds_toArray, List.set_cons_zero, List.set_cons_succ]
      refine wpAnyH_take (i := 18) (oi := ({ dst := some 35, op := Op.move (Operand.tmp 5), type := 3, pos := "ref.go:197", after := #[{ on := 11, ground := Ground.guard }], guard := some (11, false) } : Oper)) (v := ?_) rfl (by kernel_rfl) (by kernel_rfl) (by kernel_rfl) (fun _ _ _ h => h) (Or.inl ⟨by rfl, ?_⟩) (by assumption) ?_
      rotate_left
      · intro w hSw; (try dsimp only at hSw); go_simp; first | done | with_reducible rfl
      try simp only [Act.put, List.setIfInBounds_toArray, List.set_cons_zero, List.set_cons_succ]
      refine wpAnyH_take (i := 19) (oi := ({ dst := some 36, op := Op.indexAddr 26 (Operand.tmp 34) (Operand.tmp 35), type := 0, pos := "ref.go:197", after := #[{ on := 17, ground := Ground.data }, { on := 18, ground := Ground.data }, { on := 11, ground := Ground.guard }], guard := some (11, false) } : Oper)) (v := ?_) rfl (by kernel_rfl) (by kernel_rfl) (by kernel_rfl) (fun _ _ _ h => h) (Or.inl ⟨by rfl, ?_⟩) (by assumption) ?_
      rotate_left
      · intro w hSw; (try dsimp only at hSw); go_simp; first | done | with_reducible rfl
      try simp only [Act.put, List.setIfInBounds_toArray, List.set_cons_zero, List.set_cons_succ]
      refine wpAnyH_take (i := 20) (oi := ({ dst := some 37, op := Op.fieldAddr 62 (Operand.tmp 36) 1, type := 0, pos := "ref.go:197", after := #[{ on := 19, ground := Ground.data }, { on := 11, ground := Ground.guard }], guard := some (11, false) } : Oper)) (v := ?_) rfl (by kernel_rfl) (by kernel_rfl) (by kernel_rfl) (fun _ _ _ h => h) (Or.inl ⟨by rfl, ?_⟩) (by assumption) ?_
      rotate_left
      · intro w hSw; (try dsimp only at hSw); go_simp; first | done | with_reducible rfl
      try simp only [Act.put, List.setIfInBounds_toArray, List.set_cons_zero, List.set_cons_succ]
      refine wpAnyH_take (i := 21) (oi := ({ dst := some 38, op := Op.load 3 (Operand.tmp 37), type := 3, pos := "ref.go:197", after := #[{ on := 20, ground := Ground.data }, { on := 11, ground := Ground.guard }], guard := some (11, false) } : Oper)) (v := ?_) rfl (by kernel_rfl) (by kernel_rfl) (by kernel_rfl) (fun _ _ _ h => h) (Or.inl ⟨by rfl, ?_⟩) (by assumption) ?_
      rotate_left
      · intro w hSw; (try dsimp only at hSw); go_simp; first | done | with_reducible rfl
      try simp only [Act.put, List.setIfInBounds_toArray, List.set_cons_zero, List.set_cons_succ]
      refine wpAnyH_take (i := 22) (oi := ({ dst := some 39, op := Op.binOp BinOp.neq 3 (Operand.tmp 33) (Operand.tmp 38) 3, type := 4, pos := "ref.go:197", after := #[{ on := 16, ground := Ground.data }, { on := 21, ground := Ground.data }, { on := 11, ground := Ground.guard }], guard := some (11, false) } : Oper)) (v := ?_) rfl (by kernel_rfl) (by kernel_rfl) (by kernel_rfl) (fun _ _ _ h => h) (Or.inl ⟨by rfl, ?_⟩) (by assumption) ?_
      rotate_left
      · intro w hSw; (try dsimp only at hSw); go_simp; first | done | with_reducible rfl
      try simp only [Act.put, List.setIfInBounds_toArray, List.set_cons_zero, List.set_cons_succ]
      refine wpAnyH_take (i := 23) (oi := ({ dst := some 40, op := Op.pick (Operand.tmp 28) (Operand.const (Value.bool true)) (Operand.tmp 39), type := 4, pos := "ref.go:197", after := #[{ on := 11, ground := Ground.data }, { on := 22, ground := Ground.data }], guard := none } : Oper)) (v := ?_) rfl (by kernel_rfl) (by kernel_rfl) (by kernel_rfl) (fun _ _ _ h => h) (Or.inl ⟨by rfl, ?_⟩) (by assumption) ?_
      rotate_left
      · intro w hSw; (try dsimp only at hSw); go_simp; first | done | with_reducible rfl
      try simp only [Act.put, List.setIfInBounds_toArray, List.set_cons_zero, List.set_cons_succ]
      refine wpAnyH_take (i := 24) (oi := ({ dst := some 41, op := Op.move (Operand.tmp 40), type := 4, pos := "ref.go:197", after := #[{ on := 23, ground := Ground.data }, { on := 11, ground := Ground.chain }], guard := none } : Oper)) (v := ?_) rfl (by kernel_rfl) (by kernel_rfl) (by kernel_rfl) (fun _ _ _ h => h) (Or.inl ⟨by rfl, ?_⟩) (by assumption) ?_
      rotate_left
      · intro w hSw; (try dsimp only at hSw); go_simp; first | done | with_reducible rfl
      try simp only [Act.put, List.setIfInBounds_toArray, List.set_cons_zero, List.set_cons_succ]
      refine wpAnyH_take (i := 25) (oi := ({ dst := some 42, op := Op.move (Operand.tmp 0), type := 26, pos := "ref.go:197", after := #[{ on := 24, ground := Ground.guard }], guard := some (24, false) } : Oper)) (v := ?_) rfl (by kernel_rfl) (by kernel_rfl) (by kernel_rfl) (fun _ _ _ h => h) (Or.inl ⟨by rfl, ?_⟩) (by assumption) ?_
      rotate_left
      · intro w hSw; (try dsimp only at hSw); go_simp; first | done | with_reducible rfl
      try simp only [Act.put, List.setIfInBounds_toArray, List.set_cons_zero, List.set_cons_succ]
      refine wpAnyH_take (i := 26) (oi := ({ dst := some 43, op := Op.move (Operand.tmp 5), type := 3, pos := "ref.go:197", after := #[{ on := 24, ground := Ground.guard }], guard := some (24, false) } : Oper)) (v := ?_) rfl (by kernel_rfl) (by kernel_rfl) (by kernel_rfl) (fun _ _ _ h => h) (Or.inl ⟨by rfl, ?_⟩) (by assumption) ?_
      rotate_left
      · intro w hSw; (try dsimp only at hSw); go_simp; first | done | with_reducible rfl
      try simp only [Act.put, List.setIfInBounds_toArray, List.set_cons_zero, List.set_cons_succ]
      refine wpAnyH_take (i := 27) (oi := ({ dst := some 44, op := Op.indexAddr 26 (Operand.tmp 42) (Operand.tmp 43), type := 0, pos := "ref.go:197", after := #[{ on := 25, ground := Ground.data }, { on := 26, ground := Ground.data }, { on := 24, ground := Ground.guard }], guard := some (24, false) } : Oper)) (v := ?_) rfl (by kernel_rfl) (by kernel_rfl) (by kernel_rfl) (fun _ _ _ h => h) (Or.inl ⟨by rfl, ?_⟩) (by assumption) ?_
      rotate_left
      · intro w hSw; (try dsimp only at hSw); go_simp; first | done | with_reducible rfl
      try simp only [Act.put, List.setIfInBounds_toArray, List.set_cons_zero, List.set_cons_succ]
      refine wpAnyH_take (i := 28) (oi := ({ dst := some 45, op := Op.fieldAddr 62 (Operand.tmp 44) 2, type := 0, pos := "ref.go:197", after := #[{ on := 27, ground := Ground.data }, { on := 24, ground := Ground.guard }], guard := some (24, false) } : Oper)) (v := ?_) rfl (by kernel_rfl) (by kernel_rfl) (by kernel_rfl) (fun _ _ _ h => h) (Or.inl ⟨by rfl, ?_⟩) (by assumption) ?_
      rotate_left
      · intro w hSw; (try dsimp only at hSw); go_simp; first | done | with_reducible rfl
      try simp only [Act.put, List.setIfInBounds_toArray, List.set_cons_zero, List.set_cons_succ]
      refine wpAnyH_take (i := 29) (oi := ({ dst := some 46, op := Op.load 24 (Operand.tmp 45), type := 24, pos := "ref.go:197", after := #[{ on := 28, ground := Ground.data }, { on := 24, ground := Ground.guard }], guard := some (24, false) } : Oper)) (v := ?_) rfl (by kernel_rfl) (by kernel_rfl) (by kernel_rfl) (fun _ _ _ h => h) (Or.inl ⟨by rfl, ?_⟩) (by assumption) ?_
      rotate_left
      · intro w hSw; (try dsimp only at hSw); go_simp; first | done | with_reducible rfl
      try simp only [Act.put, List.setIfInBounds_toArray, List.set_cons_zero, List.set_cons_succ]
      refine wpAnyH_take (i := 30) (oi := ({ dst := some 47, op := Op.move (Operand.tmp 1), type := 26, pos := "ref.go:197", after := #[{ on := 24, ground := Ground.guard }], guard := some (24, false) } : Oper)) (v := ?_) rfl (by kernel_rfl) (by kernel_rfl) (by kernel_rfl) (fun _ _ _ h => h) (Or.inl ⟨by rfl, ?_⟩) (by assumption) ?_
      rotate_left
      · intro w hSw; (try dsimp only at hSw); go_simp; first | done | with_reducible rfl
      try simp only [Act.put, List.setIfInBounds_toArray, List.set_cons_zero, List.set_cons_succ]
      refine wpAnyH_take (i := 31) (oi := ({ dst := some 48, op := Op.move (Operand.tmp 5), type := 3, pos := "ref.go:197", after := #[{ on := 24, ground := Ground.guard }], guard := some (24, false) } : Oper)) (v := ?_) rfl (by kernel_rfl) (by kernel_rfl) (by kernel_rfl) (fun _ _ _ h => h) (Or.inl ⟨by rfl, ?_⟩) (by assumption) ?_
      rotate_left
      · intro w hSw; (try dsimp only at hSw); go_simp; first | done | with_reducible rfl
      try simp only [Act.put, List.setIfInBounds_toArray, List.set_cons_zero, List.set_cons_succ]
      refine wpAnyH_take (i := 32) (oi := ({ dst := some 49, op := Op.indexAddr 26 (Operand.tmp 47) (Operand.tmp 48), type := 0, pos := "ref.go:197", after := #[{ on := 30, ground := Ground.data }, { on := 31, ground := Ground.data }, { on := 24, ground := Ground.guard }], guard := some (24, false) } : Oper)) (v := ?_) rfl (by kernel_rfl) (by kernel_rfl) (by kernel_rfl) (fun _ _ _ h => h) (Or.inl ⟨by rfl, ?_⟩) (by assumption) ?_
      rotate_left
      · intro w hSw; (try dsimp only at hSw); go_simp; first | done | with_reducible rfl
      try simp only [Act.put, List.setIfInBounds_toArray, List.set_cons_zero, List.set_cons_succ]
      refine wpAnyH_take (i := 33) (oi := ({ dst := some 50, op := Op.fieldAddr 62 (Operand.tmp 49) 2, type := 0, pos := "ref.go:197", after := #[{ on := 32, ground := Ground.data }, { on := 24, ground := Ground.guard }], guard := some (24, false) } : Oper)) (v := ?_) rfl (by kernel_rfl) (by kernel_rfl) (by kernel_rfl) (fun _ _ _ h => h) (Or.inl ⟨by rfl, ?_⟩) (by assumption) ?_
      rotate_left
      · intro w hSw; (try dsimp only at hSw); go_simp; first | done | with_reducible rfl
      try simp only [Act.put, List.setIfInBounds_toArray, List.set_cons_zero, List.set_cons_succ]
      refine wpAnyH_take (i := 34) (oi := ({ dst := some 51, op := Op.load 24 (Operand.tmp 50), type := 24, pos := "ref.go:197", after := #[{ on := 33, ground := Ground.data }, { on := 24, ground := Ground.guard }], guard := some (24, false) } : Oper)) (v := ?_) rfl (by kernel_rfl) (by kernel_rfl) (by kernel_rfl) (fun _ _ _ h => h) (Or.inl ⟨by rfl, ?_⟩) (by assumption) ?_
      rotate_left
      · intro w hSw; (try dsimp only at hSw); go_simp; first | done | with_reducible rfl
      try simp only [Act.put, List.setIfInBounds_toArray, List.set_cons_zero, List.set_cons_succ]
      refine wpAnyH_ready (rs := [35]) (by kernel_rfl) (by simp) ?_
      refine AllReadyH.cons (o := ({ dst := some 52, op := Op.call { callee := Callee.value (Operand.func 33), args := #[Operand.tmp 46, Operand.tmp 51], argTypes := #[24, 24] }, type := 4, pos := "ref.go:197", after := #[{ on := 29, ground := Ground.data }, { on := 34, ground := Ground.data }, { on := 24, ground := Ground.chain }, { on := 24, ground := Ground.guard }], guard := some (24, false) } : Oper)) rfl (fun K hK => ?_) AllReadyH.nil
      go_simp
      refine (sameEntry_self l.e B B' d d' F G _ (show BF F wr.drew B d l.e.dig from HL1.out) (show BF G wr.drew B' d' l.e.dig from HL2.out)).mono ?_
      rintro en w3 ⟨rfl, hb3⟩
      replace hb3 : Below wr.heap.size wr w3 := ⟨hb3.os, hb3.tape, hb3.output, hb3.size, hb3.block⟩
      have HB3 := Lib.hid (below_next HB.out hb3 HB.out.size)
      have HV3 := Lib.hid (HV1.out.below hb3)
      have HV4 := Lib.hid (HV2.out.below hb3)
      have HSS := Lib.hid (show _ ∧ _ ∧ _ ∧ _ ∧ _ ∧ _ ∧ _ ∧ _ ∧ _ ∧ _ ∧ _ ∧ _ ∧ _ ∧ _ from ⟨kept_cell c0 hb3, kept_cell c1 hb3, kept_cell c2 hb3, kept_cell c3 hb3, kept_cell c4 hb3, kept_cell c5 hb3, kept_cell c6 hb3, kept_cell d0 hb3, kept_cell d1 hb3, kept_cell d2 hb3, kept_cell d3 hb3, kept_cell d4 hb3, kept_cell d5 hb3, kept_cell d6 hb3⟩)
      clear hb3
      go_wp2_with fail
      refine hK.out _ _ (HSS.out) (fun hHeld => ?_)
      clear hK K
      try simp only [Act.put, List.setIfInBounds_toArray, List.set_cons_zero, List.set_cons_succ]
      refine wpAnyH_take (i := 36) (oi := ({ dst := some 53, op := Op.unOp UnOp.not 4 (Operand.tmp 52), type := 4, pos := "ref.go:197", after := #[{ on := 35, ground := Ground.data }, { on := 24, ground := Ground.guard }], guard := some (24, false) } : Oper)) (v := ?_) rfl (by kernel_rfl) (by kernel_rfl) (by kernel_rfl) (fun _ _ _ h => h) (Or.inl ⟨by rfl, ?_⟩) (by assumption) ?_
      rotate_left
      · intro w hSw; (try dsimp only at hSw); go_simp; first | done | with_reducible rfl
      try simp only [Act.put, List.setIfInBounds_toArray, List.set_cons_zero, List.set_cons_succ]
      refine wpAnyH_take (i := 37) (oi := ({ dst := some 54, op := Op.pick (Operand.tmp 41) (Operand.const (Value.bool true)) (Operand.tmp 53), type := 4, pos := "ref.go:197", after := #[{ on := 24, ground := Ground.data }, { on := 36, ground := Ground.data }], guard := none } : Oper)) (v := ?_) rfl (by kernel_rfl) (by kernel_rfl) (by kernel_rfl) (fun _ _ _ h => h) (Or.inl ⟨by rfl, ?_⟩) (by assumption) ?_
      rotate_left
      · intro w hSw; (try dsimp only at hSw); go_simp; first | done | with_reducible rfl
      try simp only [Act.put, List.setIfInBounds_toArray, List.set_cons_zero, List.set_cons_succ]
      refine wpAnyH_take (i := 38) (oi := ({ dst := some 55, op := Op.move (Operand.tmp 54), type := 4, pos := "ref.go:197", after := #[{ on := 37, ground := Ground.data }, { on := 35, ground := Ground.chain }], guard := none } : Oper)) (v := ?_) rfl (by kernel_rfl) (by kernel_rfl) (by kernel_rfl) (fun _ _ _ h => h) (Or.inl ⟨by rfl, ?_⟩) (by assumption) ?_
      rotate_left
      · intro w hSw; (try dsimp only at hSw); go_simp; first | done | with_reducible rfl
      try simp only [Act.put, List.setIfInBounds_toArray, List.set_cons_zero, List.set_cons_succ]
      refine wpAnyH_take (i := 39) (oi := ({ dst := some 56, op := Op.move (Operand.tmp 0), type := 26, pos := "ref.go:197", after := #[{ on := 38, ground := Ground.guard }], guard := some (38, false) } : Oper)) (v := ?_) rfl (by kernel_rfl) (by kernel_rfl) (by kernel_rfl) (fun _ _ _ h => h) (Or.inl ⟨by rfl, ?_⟩) (by assumption) ?_
      rotate_left
      · intro w hSw; (try dsimp only at hSw); go_simp; first | done | with_reducible rfl
      try simp only [Act.put, List.setIfInBounds_toArray, List.set_cons_zero, List.set_cons_succ]
      refine wpAnyH_take (i := 40) (oi := ({ dst := some 57, op := Op.move (Operand.tmp 5), type := 3, pos := "ref.go:197", after := #[{ on := 38, ground := Ground.guard }], guard := some (38, false) } : Oper)) (v := ?_) rfl (by kernel_rfl) (by kernel_rfl) (by kernel_rfl) (fun _ _ _ h => h) (Or.inl ⟨by rfl, ?_⟩) (by assumption) ?_
      rotate_left
      · intro w hSw; (try dsimp only at hSw); go_simp; first | done | with_reducible rfl
      try simp only [Act.put, List.setIfInBounds_toArray, List.set_cons_zero, List.set_cons_succ]
      refine wpAnyH_take (i := 41) (oi := ({ dst := some 58, op := Op.indexAddr 26 (Operand.tmp 56) (Operand.tmp 57), type := 0, pos := "ref.go:197", after := #[{ on := 39, ground := Ground.data }, { on := 40, ground := Ground.data }, { on := 38, ground := Ground.guard }], guard := some (38, false) } : Oper)) (v := ?_) rfl (by kernel_rfl) (by kernel_rfl) (by kernel_rfl) (fun _ _ _ h => h) (Or.inl ⟨by rfl, ?_⟩) (by assumption) ?_
      rotate_left
      · intro w hSw; (try dsimp only at hSw); go_simp; first | done | with_reducible rfl
      try simp only [Act.put, List.setIfInBounds_toArray, List.set_cons_zero, List.set_cons_succ]
      refine wpAnyH_take (i := 42) (oi := ({ dst := some 59, op := Op.fieldAddr 62 (Operand.tmp 58) 3, type := 0, pos := "ref.go:197", after := #[{ on := 41, ground := Ground.data }, { on := 38, ground := Ground.guard }], guard := some (38, false) } : Oper)) (v := ?_) rfl (by kernel_rfl) (by kernel_rfl) (by kernel_rfl) (fun _ _ _ h => h) (Or.inl ⟨by rfl, ?_⟩) (by assumption) ?_
      rotate_left
      · intro w hSw; (try dsimp only at hSw); go_simp; first | done | with_reducible rfl
      try simp only [Act.put, List.setIfInBounds_toArray, List.set_cons_zero, List.set_cons_succ]
      refine wpAnyH_take (i := 43) (oi := ({ dst := some 60, op := Op.load 25 (Operand.tmp 59), type := 25, pos := "ref.go:197", after := #[{ on := 42, ground := Ground.data }, { on := 38, ground := Ground.guard }], guard := some (38, false) } : Oper)) (v := ?_) rfl (by kernel_rfl) (by kernel_rfl) (by kernel_rfl) (fun _ _ _ h => h) (Or.inl ⟨by rfl, ?_⟩) (by assumption) ?_
      rotate_left
      · intro w hSw; (try dsimp only at hSw); go_simp; first | done | with_reducible rfl
      try simp only [Act.put, List.setIfInBounds_toArray, List.set_cons_zero, List.set_cons_succ]
      refine wpAnyH_take (i := 44) (oi := ({ dst := some 61, op := Op.move (Operand.tmp 1), type := 26, pos := "ref.go:197", after := #[{ on := 38, ground := Ground.guard }], guard := some (38, false) } : Oper)) (v := ?_) rfl (by kernel_rfl) (by kernel_rfl) (by kernel_rfl) (fun _ _ _ h => h) (Or.inl ⟨by rfl, ?_⟩) (by assumption) ?_
      rotate_left
      · intro w hSw; (try dsimp only at hSw); go_simp; first | done | with_reducible rfl
      try simp only [Act.put, List.setIfInBounds_toArray, List.set_cons_zero, List.set_cons_succ]
      refine wpAnyH_take (i := 45) (oi := ({ dst := some 62, op := Op.move (Operand.tmp 5), type := 3, pos := "ref.go:197", after := #[{ on := 38, ground := Ground.guard }], guard := some (38, false) } : Oper)) (v := ?_) rfl (by kernel_rfl) (by kernel_rfl) (by kernel_rfl) (fun _ _ _ h => h) (Or.inl ⟨by rfl, ?_⟩) (by assumption) ?_
      rotate_left
      · intro w hSw; (try dsimp only at hSw); go_simp; first | done | with_reducible rfl
      try simp only [Act.put, List.setIfInBounds_toArray, List.set_cons_zero, List.set_cons_succ]
      refine wpAnyH_take (i := 46) (oi := ({ dst := some 63, op := Op.indexAddr 26 (Operand.tmp 61) (Operand.tmp 62), type := 0, pos := "ref.go:197", after := #[{ on := 44, ground := Ground.data }, { on := 45, ground := Ground.data }, { on := 38, ground := Ground.guard }], guard := some (38, false) } : Oper)) (v := ?_) rfl (by kernel_rfl) (by kernel_rfl) (by kernel_rfl) (fun _ _ _ h => h) (Or.inl ⟨by rfl, ?_⟩) (by assumption) ?_
      rotate_left
      · intro w hSw; (try dsimp only at hSw); go_simp; first | done | with_reducible rfl
      try simp only [Act.put, List.setIfInBounds_toArray, List.set_cons_zero, List.set_cons_succ]
      refine wpAnyH_take (i := 47) (oi := ({ dst := some 64, op := Op.fieldAddr 62 (Operand.tmp 63) 3, type := 0, pos := "ref.go:197", after := #[{ on := 46, ground := Ground.data }, { on := 38, ground := Ground.guard }], guard := some (38, false) } : Oper)) (v := ?_) rfl (by kernel_rfl) (by kernel_rfl) (by kernel_rfl) (fun _ _ _ h => h) (Or.inl ⟨by rfl, ?_⟩) (by assumption) ?_
      rotate_left
      · intro w hSw; (try dsimp only at hSw); go_simp; first | done | with_reducible rfl
      try simp only [Act.put, List.setIfInBounds_toArray, List.set_cons_zero, List.set_cons_succ]
      refine wpAnyH_take (i := 48) (oi := ({ dst := some 65, op := Op.load 25 (Operand.tmp 64), type := 25, pos := "ref.go:197", after := #[{ on := 47, ground := Ground.data }, { on := 38, ground := Ground.guard }], guard := some (38, false) } : Oper)) (v := ?_) rfl (by kernel_rfl) (by kernel_rfl) (by kernel_rfl) (fun _ _ _ h => h) (Or.inl ⟨by rfl, ?_⟩) (by assumption) ?_
      rotate_left
      · intro w hSw; (try dsimp only at hSw); go_simp; first | done | with_reducible rfl
      try simp only [Act.put, List.setIfInBounds_toArray, List.set_cons_zero, List.set_cons_succ]
      refine wpAnyH_ready (rs := [49]) (by kernel_rfl) (by simp) ?_
      refine AllReadyH.cons (o := ({ dst := some 66, op := Op.call { callee := Callee.value (Operand.func 45), args := #[Operand.tmp 60, Operand.tmp 65], argTypes := #[25, 25] }, type := 4, pos := "ref.go:197", after := #[{ on := 43, ground := Ground.data }, { on := 48, ground := Ground.data }, { on := 38, ground := Ground.chain }, { on := 38, ground := Ground.guard }], guard := some (38, false) } : Oper)) rfl (fun K hK => ?_) AllReadyH.nil
      go_simp
      refine (sameLetters_self C C' q q' l.votes F G _ HV3.out HV4.out).mono ?_
      rintro en w4 ⟨rfl, hb4⟩
      have HBZ := Lib.hid (below_next HB3.out hb4 HB3.out.size)
      obtain ⟨c0, c1, c2, c3, c4, c5, c6, d0, d1, d2, d3, d4, d5, d6⟩ := HSS.out
      have HSS4 := Lib.hid (show _ ∧ _ ∧ _ ∧ _ ∧ _ ∧ _ ∧ _ ∧ _ ∧ _ ∧ _ ∧ _ ∧ _ ∧ _ ∧ _ from ⟨kept_cell c0 hb4, kept_cell c1 hb4, kept_cell c2 hb4, kept_cell c3 hb4, kept_cell c4 hb4, kept_cell c5 hb4, kept_cell c6 hb4, kept_cell d0 hb4, kept_cell d1 hb4, kept_cell d2 hb4, kept_cell d3 hb4, kept_cell d4 hb4, kept_cell d5 hb4, kept_cell d6 hb4⟩)
      clear hb4
      go_wp2_with fail
      refine hK.out _ _ (HSS4.out) (fun hHeld => ?_)
      clear hK K
      try simp only [Act.put, List.setIfInBounds_toArray, List.set_cons_zero, List.set_cons_succ]
      refine wpAnyH_take (i := 50) (oi := ({ dst := some 67, op := Op.unOp UnOp.not 4 (Operand.tmp 66), type := 4, pos := "ref.go:197", after := #[{ on := 49, ground := Ground.data }, { on := 38, ground := Ground.guard }], guard := some (38, false) } : Oper)) (v := ?_) rfl (by kernel_rfl) (by kernel_rfl) (by kernel_rfl) (fun _ _ _ h => h) (Or.inl ⟨by rfl, ?_⟩) (by assumption) ?_
      rotate_left
      · intro w hSw; (try dsimp only at hSw); go_simp; first | done | with_reducible rfl
      try simp only [Act.put, List.setIfInBounds_toArray, List.set_cons_zero, List.set_cons_succ]
      refine wpAnyH_take (i := 51) (oi := ({ dst := some 68, op := Op.pick (Operand.tmp 55) (Operand.const (Value.bool true)) (Operand.tmp 67), type := 4, pos := "ref.go:197", after := #[{ on := 38, ground := Ground.data }, { on := 50, ground := Ground.data }], guard := none } : Oper)) (v := ?_) rfl (by kernel_rfl) (by kernel_rfl) (by kernel_rfl) (fun _ _ _ h => h) (Or.inl ⟨by rfl, ?_⟩) (by assumption) ?_
      rotate_left
      · intro w hSw; (try dsimp only at hSw); go_simp; first | done | with_reducible rfl
      try simp only [Act.put, List.setIfInBounds_toArray, List.set_cons_zero, List.set_cons_succ]
      refine wpAnyH_done (by kernel_rfl) ?_ _
      go_wp2_with fail
      go_roundw
      case rel => exact ⟨k + 1, by omega, by go_num, HBZ.out⟩
      case measure => simp [intOf]; omega
    · obtain rfl : k = ls.length := by omega
      clear hb
      go_wp2_with fail
      go_ret
      exact ⟨rfl, HB.out⟩

set_option maxHeartbeats 1600000 in
theorem sameMsg_self (m : Mg) (q r : Mad) (F G : Nat → Prop) (w : World) (h : MgR F w m q) (h' : MgR G w m r) :
    Calls Try.prog 16 #[.agg #[.int .i64 m.kind, .int .i64 m.view, .int .i64 m.seq, .int .i64 m.client, .int .i64 m.stamp, .int .i64 m.e.c, .int .i64 m.e.s, .int .i64 m.e.t, .slice q.ea m.e.dig.length q.ec, .slice q.ga m.dig.length q.gc, .slice q.da m.data.length q.dc, .slice q.pa m.proof.length q.pc, .slice q.va m.proven.length q.vc], .agg #[.int .i64 m.kind, .int .i64 m.view, .int .i64 m.seq, .int .i64 m.client, .int .i64 m.stamp, .int .i64 m.e.c, .int .i64 m.e.s, .int .i64 m.e.t, .slice r.ea m.e.dig.length r.ec, .slice r.ga m.dig.length r.gc, .slice r.da m.data.length r.dc, .slice r.pa m.proof.length r.pc, .slice r.va m.proven.length r.vc]] w (Tells (.bool true) w) := by
  have hB := ((Below.refl w.heap.size w).alloc (Nat.le_refl _) (.cells #[.int .i64 m.kind, .int .i64 m.view, .int .i64 m.seq, .int .i64 m.client, .int .i64 m.stamp, .int .i64 m.e.c, .int .i64 m.e.s, .int .i64 m.e.t, .slice q.ea m.e.dig.length q.ec, .slice q.ga m.dig.length q.gc, .slice q.da m.data.length q.dc, .slice q.pa m.proof.length q.pc, .slice q.va m.proven.length q.vc] 28)).alloc (by simp) (.cells #[.int .i64 m.kind, .int .i64 m.view, .int .i64 m.seq, .int .i64 m.client, .int .i64 m.stamp, .int .i64 m.e.c, .int .i64 m.e.s, .int .i64 m.e.t, .slice r.ea m.e.dig.length r.ec, .slice r.ga m.dig.length r.gc, .slice r.da m.data.length r.dc, .slice r.pa m.proof.length r.pc, .slice r.va m.proven.length r.vc] 28)
  have HB0 := Lib.hid hB
  have HK0 := Lib.hid ((Bk.new w 28 [.int .i64 m.kind, .int .i64 m.view, .int .i64 m.seq, .int .i64 m.client, .int .i64 m.stamp, .int .i64 m.e.c, .int .i64 m.e.s, .int .i64 m.e.t, .slice q.ea m.e.dig.length q.ec, .slice q.ga m.dig.length q.gc, .slice q.da m.data.length q.dc, .slice q.pa m.proof.length q.pc, .slice q.va m.proven.length q.vc]).alloc (.cells #[.int .i64 m.kind, .int .i64 m.view, .int .i64 m.seq, .int .i64 m.client, .int .i64 m.stamp, .int .i64 m.e.c, .int .i64 m.e.s, .int .i64 m.e.t, .slice r.ea m.e.dig.length r.ec, .slice r.ga m.dig.length r.gc, .slice r.da m.data.length r.dc, .slice r.pa m.proof.length r.pc, .slice r.va m.proven.length r.vc] 28))
  have hr := Bk.new (w.alloc (.cells #[.int .i64 m.kind, .int .i64 m.view, .int .i64 m.seq, .int .i64 m.client, .int .i64 m.stamp, .int .i64 m.e.c, .int .i64 m.e.s, .int .i64 m.e.t, .slice q.ea m.e.dig.length q.ec, .slice q.ga m.dig.length q.gc, .slice q.da m.data.length q.dc, .slice q.pa m.proof.length q.pc, .slice q.va m.proven.length q.vc] 28)) 28 [.int .i64 m.kind, .int .i64 m.view, .int .i64 m.seq, .int .i64 m.client, .int .i64 m.stamp, .int .i64 m.e.c, .int .i64 m.e.s, .int .i64 m.e.t, .slice r.ea m.e.dig.length r.ec, .slice r.ga m.dig.length r.gc, .slice r.da m.data.length r.dc, .slice r.pa m.proof.length r.pc, .slice r.va m.proven.length r.vc]
  rw [show (w.alloc (.cells #[.int .i64 m.kind, .int .i64 m.view, .int .i64 m.seq, .int .i64 m.client, .int .i64 m.stamp, .int .i64 m.e.c, .int .i64 m.e.s, .int .i64 m.e.t, .slice q.ea m.e.dig.length q.ec, .slice q.ga m.dig.length q.gc, .slice q.da m.data.length q.dc, .slice q.pa m.proof.length q.pc, .slice q.va m.proven.length q.vc] 28)).heap.size = w.heap.size + 1 by simp] at hr
  have HZ0 := Lib.hid hr
  have HM0 := Lib.hid (h.below hB)
  have HN0 := Lib.hid (h'.below hB)
  clear h h' hB hr
  go_enter Try.func16, Try.ntmps16
  go_wp2_with fail
  refine (sameEntry_self m.e q.ea r.ea q.ec r.ec _ _ _ HM0.out.e HN0.out.e).mono ?_
  rintro en w1 ⟨rfl, hb⟩
  have HB1 := Lib.hid (below_next HB0.out hb HB0.out.size)
  have HK1 := Lib.hid (HK0.out.kept hb)
  have HZ1 := Lib.hid (HZ0.out.kept hb)
  have HM1 := Lib.hid (HM0.out.below hb)
  have HN1 := Lib.hid (HN0.out.below hb)
  have k9 := HK1.out.at_ (i := 9) rfl
  have z9 := HZ1.out.at_ (i := 9) rfl
  clear hb
  go_wp2_with fail
  clear k9 z9
  refine (sameBytes_tell q.ga r.ga q.gc r.gc _ m.dig _ _ HM1.out.g HN1.out.g).mono ?_
  rintro en w2 ⟨rfl, hb⟩
  have HB2 := Lib.hid (below_next HB1.out hb HB1.out.size)
  have HK2 := Lib.hid (HK1.out.kept hb)
  have HZ2 := Lib.hid (HZ1.out.kept hb)
  have HM2 := Lib.hid (HM1.out.below hb)
  have HN2 := Lib.hid (HN1.out.below hb)
  have k10 := HK2.out.at_ (i := 10) rfl
  have z10 := HZ2.out.at_ (i := 10) rfl
  clear hb
  go_wp2_with fail
  clear k10 z10
  refine (sameBytes_tell q.da r.da q.dc r.dc _ m.data _ _ HM2.out.d HN2.out.d).mono ?_
  rintro en w3 ⟨rfl, hb⟩
  have HB3 := Lib.hid (below_next HB2.out hb HB2.out.size)
  have HK3 := Lib.hid (HK2.out.kept hb)
  have HZ3 := Lib.hid (HZ2.out.kept hb)
  have HM3 := Lib.hid (HM2.out.below hb)
  have HN3 := Lib.hid (HN2.out.below hb)
  have k11 := HK3.out.at_ (i := 11) rfl
  have z11 := HZ3.out.at_ (i := 11) rfl
  clear hb
  go_wp2_with fail
  clear k11 z11
  refine (sameLetters_self q.pa r.pa q.pc r.pc m.proof _ _ _ HM3.out.p HN3.out.p).mono ?_
  rintro en w4 ⟨rfl, hb⟩
  have HB4 := Lib.hid (below_next HB3.out hb HB3.out.size)
  have HK4 := Lib.hid (HK3.out.kept hb)
  have HZ4 := Lib.hid (HZ3.out.kept hb)
  have HM4 := Lib.hid (HM3.out.below hb)
  have HN4 := Lib.hid (HN3.out.below hb)
  have k12 := HK4.out.at_ (i := 12) rfl
  have z12 := HZ4.out.at_ (i := 12) rfl
  clear hb
  go_wp2_with fail
  clear k12 z12
  refine (sameProven_self q.va r.va q.vc r.vc m.proven _ _ _ HM4.out.v HN4.out.v).mono ?_
  rintro en w5 ⟨rfl, hb⟩
  have HB5 := Lib.hid (below_next HB4.out hb HB4.out.size)
  have HK5 := Lib.hid (HK4.out.kept hb)
  have HZ5 := Lib.hid (HZ4.out.kept hb)
  have HM5 := Lib.hid (HM4.out.below hb)
  have HN5 := Lib.hid (HN4.out.below hb)
  clear hb
  go_wp2_with fail
  go_ret
  exact ⟨rfl, HB5.out⟩
end Go.Proofs.Ytmgmmbgjmnklkaa
