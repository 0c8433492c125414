/-
  The reference's copies of what is proven and of messages. Walks; no statement.
-/
import Derived.Test.YtmgmmbgjmnklkaaMsgCopy1
namespace Go.Proofs.Ytmgmmbgjmnklkaa
set_option maxRecDepth 100000
open Go.RowKit
open Pk
set_option linter.unusedVariables false

/-- an append of elements of several cells onto a row of the call's own, at a step of a region that draws -/
theorem step_append_at {P : Program} {ops : Array Oper} {o : Oper} {a : Act} {w : World} {K : Act → World → Prop} {Q : Exit → Act → World → Prop} {E : Prop} (hgd : o.guard = none) (s x : Operand) (t : TypeId)
    (ho : o.op = .call { callee := .builtin .append, args := #[s, x], argTypes := #[t, t] })
    (base : Nat) (e : TypeId) (i : TypeInfo) (z : Value) (size bytes : Nat) (ht : P.underlying t = some (.slice e)) (hi : P.info? e = some i) (hz : i.zero = some z)
    (hsize : i.size = size) (hby : i.bytes = bytes) (hzs : z.cells.size = size) (hsz : 0 < size)
    (A : Option Addr) (n c : Nat) (xs : List Value) (hs : a.eval s = .slice A n c) (hown : w.ownsRow base e size (.slice A n c) n xs)
    (ad : Addr) (m c2 : Nat) (news : List Value) (hx : a.eval x = .slice (some ad) m c2) (hl : news.length = m * size) (hnews : ∀ j u, news[j]? = some u → w.cell? (ad.add j) = some u) (h1 : ∀ u ∈ news, u.oneCell' = true)
    (h63 : n + m ≤ maxLen) (hbytes : (n + m) * bytes ≤ 140737488355328) (hbase : base ≤ w.heap.size) (hnm : 0 < m)
    (h : ∀ A' c' w', Hid (w'.ownsRow base e size (.slice A' (n + m) c') (n + m) (xs ++ news)) → Hid (w.grownBy w' (Value.slice A n c).ownBlock) →
      Hid ((Value.slice A' (n + m) c').ownBlock = (Value.slice A n c).ownBlock ∨ (Value.slice A' (n + m) c').ownBlock = some w.heap.size) → K (a.put o.dst (.slice A' (n + m) c')) w') :
    if Region.wanted o (yielded ops a.tmps) = true then Oper.wp P o a w K Q else E := by
  have hw : Region.wanted o (yielded ops a.tmps) = true := by simp [Region.wanted, hgd]
  rw [if_pos hw]
  obtain ⟨v', w', hrun, h2, h3, _, h5⟩ := run_append_own_at (P := P) w base t o.type e i z size bytes ht hi hz hsize hby hzs hsz (.slice A n c) n xs hown ad m c2 news hl hnews h1 h63 hbytes hbase
  obtain ⟨A', c', rfl⟩ : ∃ A' c', v' = .slice A' (n + m) c' := by
    rcases h2.2 with ⟨_, e⟩ | ⟨g, cap, cur, e, _⟩
    · omega
    · exact ⟨_, _, e⟩
  unfold Oper.wp execOp
  simp only [ho, resolve, invoke, builtin, Sem.run_bind, Sem.run_pure, Result.andThen_ok, List.map_toArray, List.map_cons, List.map_nil, hs, hx, hrun]
  exact h A' c' w' (Lib.hid h2) (Lib.hid h3) (Lib.hid h5)
theorem grown_cell {w w' : World} {r : Option Nat} {p : Addr} {v : Value} (h : w.cell? p = some v) (hg : w.grownBy w' r) (hne : some p.block ≠ r) : w'.cell? p = some v := by
  rw [World.cell?_of_block (w := w) (hg.block _ (cell_lt h) hne)]
  exact h

theorem copyProven_any (A : Option Addr) (c : Nat) (ls : List Pv) (F : Nat → Prop) (w : World) (h : RdS RPv F w A c ls) (hn : pvsBig ls) :
    Calls Try.prog 35 #[.slice A ls.length c] w (FreshS RPv ls w) := by
  obtain ⟨i0, hi, hz0, hz1, hz2⟩ := info_parts info_provenA
  have HR := Lib.hid (h.keep (F' := fun b => b < w.heap.size) ⟨Nat.le_refl _, fun _ _ _ => rfl⟩ fun b _ hb => hb)
  have HN := Lib.hid hn
  have hlen : ls.length * 88 ≤ 140737488355328 := hn.1
  have HE := Lib.hid (OwnS.empty RPv 62 (From w.heap.size) w)
  clear h hn
  go_enter Try.func35, Try.ntmps35
  go_wp2_with fail
  go_loopw [3, 4] (fun s i wr => ∃ (A' : Option Addr) (n' c' : Nat), n' ≤ ls.length ∧ s = .slice A' n' c' ∧ i = .int .i64 n' ∧ OwnS RPv 62 (From w.heap.size) w.heap.size wr A' n' c' (ls.take n') ∧ Below w.heap.size w wr) (fun _ i _ => ls.length - (intOf i).toNat)
  case atStart => exact ⟨_, 0, 0, by omega, rfl, rfl, HE.out, (Below.refl _ _).alloc (Nat.le_refl _) _⟩
  case round =>
    obtain ⟨A', n', c', hk, rfl, rfl, ho, hb⟩ := hrel
    have HB := Lib.hid hb
    by_cases hlt : n' < ls.length
    · obtain ⟨l, hl⟩ : ∃ l, ls[n']? = some l := ⟨_, List.getElem?_eq_getElem hlt⟩
      have hxf := (HR.out.2.2.2 n' l hl)
      obtain ⟨x, B, d, C, q, rfl, hxb, c0, c1, c2, c3, c4, c5, c6, hr, hrv⟩ := (HR.out.below hb).pv7 hl
      have HXB := Lib.hid (show x.block < w.heap.size by obtain ⟨x', _, e, hF, _⟩ := hxf; injection e with e; subst e; exact hF)
      have hmem : l ∈ ls := by obtain ⟨hh, rfl⟩ := List.getElem?_eq_some_iff.1 hl; exact List.getElem_mem hh
      have HSN := Lib.hid (show ls.take (n' + 1) = ls.take n' ++ [l] by obtain ⟨hh, rfl⟩ := List.getElem?_eq_some_iff.1 hl; exact List.take_succ_eq_append_getElem hh)
      have HO := Lib.hid ho
      have HBIG := Lib.hid (HN.out.2 l hmem)
      have HRB := Lib.hid hr
      have HRV := Lib.hid hrv
      have HWR := Lib.hid HB.out.size
      have y1 : (0 : Int) ≤ (n' : Int) := by omega
      have y2 : (n' : Int) < (ls.length : Int) := by omega
      clear hl hb hr hrv ho hmem hxb hxf
      go_wp2_with fail
      refine wp_region_held_drew (S := fun w' => w'.cell? (x.add (n' * 7)) = some (.int .i64 l.seq) ∧ w'.cell? ⟨(x.add (n' * 7)).block, (x.add (n' * 7)).off + 1, none⟩ = some (.int .i64 l.view) ∧ w'.cell? ⟨(x.add (n' * 7)).block, (x.add (n' * 7)).off + 2, none⟩ = some (.int .i64 l.e.c) ∧ w'.cell? ⟨(x.add (n' * 7)).block, (x.add (n' * 7)).off + 3, none⟩ = some (.int .i64 l.e.s) ∧ w'.cell? ⟨(x.add (n' * 7)).block, (x.add (n' * 7)).off + 4, none⟩ = some (.int .i64 l.e.t) ∧ w'.cell? ⟨(x.add (n' * 7)).block, (x.add (n' * 7)).off + 5, none⟩ = some (.slice B l.e.dig.length d) ∧ w'.cell? ⟨(x.add (n' * 7)).block, (x.add (n' * 7)).off + 6, none⟩ = some (.slice C l.votes.length q)) (by kernel_rfl) (⟨c0, c1, c2, c3, c4, c5, c6⟩) (fun hHeld => ?_)
      refine wpAnyH_take (i := 0) (oi := ({ dst := some 12, op := Op.move (Operand.tmp 3), type := 26, pos := "ref.go:186", after := #[], guard := none } : Oper)) (v := ?_) rfl (by kernel_rfl) (by kernel_rfl) (by kernel_rfl) (fun _ _ _ h => h) (Or.inl ⟨by rfl, ?_⟩) (by assumption) ?_
      rotate_left
      · intro w hSw; (try dsimp only at hSw); go_simp; first | done | with_reducible rfl
      try simp only [Act.put, List.setIfInBounds_toArray, List.set_cons_zero, List.set_cons_succ]
      refine wpAnyH_take (i := 1) (oi := ({ dst := some 13, op := Op.move (Operand.tmp 0), type := 26, pos := "ref.go:186", after := #[], guard := none } : Oper)) (v := ?_) rfl (by kernel_rfl) (by kernel_rfl) (by kernel_rfl) (fun _ _ _ h => h) (Or.inl ⟨by rfl, ?_⟩) (by assumption) ?_
      rotate_left
      · intro w hSw; (try dsimp only at hSw); go_simp; first | done | with_reducible rfl
      try simp only [Act.put, List.setIfInBounds_toArray, List.set_cons_zero, List.set_cons_succ]
      refine wpAnyH_take (i := 2) (oi := ({ dst := some 14, op := Op.move (Operand.tmp 4), type := 3, pos := "ref.go:186", after := #[], guard := none } : Oper)) (v := ?_) rfl (by kernel_rfl) (by kernel_rfl) (by kernel_rfl) (fun _ _ _ h => h) (Or.inl ⟨by rfl, ?_⟩) (by assumption) ?_
      rotate_left
      · intro w hSw; (try dsimp only at hSw); go_simp; first | done | with_reducible rfl
      try simp only [Act.put, List.setIfInBounds_toArray, List.set_cons_zero, List.set_cons_succ]
      refine wpAnyH_take (i := 3) (oi := ({ dst := some 15, op := Op.indexAddr 26 (Operand.tmp 13) (Operand.tmp 14), type := 0, pos := "ref.go:186", after := #[{ on := 1, ground := Ground.data }, { on := 2, ground := Ground.data }], guard := none } : Oper)) (v := ?_) rfl (by kernel_rfl) (by kernel_rfl) (by kernel_rfl) (fun _ _ _ h => h) (Or.inl ⟨by rfl, ?_⟩) (by assumption) ?_
      rotate_left
      · intro w hSw; (try dsimp only at hSw); go_simp; first | done | with_reducible rfl
      try simp only [Act.put, List.setIfInBounds_toArray, List.set_cons_zero, List.set_cons_succ]
      refine wpAnyH_take (i := 4) (oi := ({ dst := some 16, op := Op.fieldAddr 62 (Operand.tmp 15) 0, type := 0, pos := "ref.go:186", after := #[{ on := 3, ground := Ground.data }], guard := none } : Oper)) (v := ?_) rfl (by kernel_rfl) (by kernel_rfl) (by kernel_rfl) (fun _ _ _ h => h) (Or.inl ⟨by rfl, ?_⟩) (by assumption) ?_
      rotate_left
      · intro w hSw; (try dsimp only at hSw); go_simp; first | done | with_reducible rfl
      try simp only [Act.put, List.setIfInBounds_toArray, List.set_cons_zero, List.set_cons_succ]
      refine wpAnyH_take (i := 5) (oi := ({ dst := some 17, op := Op.load 3 (Operand.tmp 16), type := 3, pos := "ref.go:186", after := #[{ on := 4, ground := Ground.data }], guard := none } : Oper)) (v := ?_) rfl (by kernel_rfl) (by kernel_rfl) (by kernel_rfl) (fun _ _ _ h => h) (Or.inl ⟨by rfl, ?_⟩) (by assumption) ?_
      rotate_left
      · intro w hSw; (try dsimp only at hSw); go_simp; first | done | with_reducible rfl
      try simp only [Act.put, List.setIfInBounds_toArray, List.set_cons_zero, List.set_cons_succ]
      refine wpAnyH_take (i := 6) (oi := ({ dst := some 18, op := Op.move (Operand.tmp 0), type := 26, pos := "ref.go:186", after := #[], guard := none } : Oper)) (v := ?_) rfl (by kernel_rfl) (by kernel_rfl) (by kernel_rfl) (fun _ _ _ h => h) (Or.inl ⟨by rfl, ?_⟩) (by assumption) ?_
      rotate_left
      · intro w hSw; (try dsimp only at hSw); go_simp; first | done | with_reducible rfl
      try simp only [Act.put, List.setIfInBounds_toArray, List.set_cons_zero, List.set_cons_succ]
      refine wpAnyH_take (i := 7) (oi := ({ dst := some 19, op := Op.move (Operand.tmp 4), type := 3, pos := "ref.go:186", after := #[], guard := none } : Oper)) (v := ?_) rfl (by kernel_rfl) (by kernel_rfl) (by kernel_rfl) (fun _ _ _ h => h) (Or.inl ⟨by rfl, ?_⟩) (by assumption) ?_
      rotate_left
      · intro w hSw; (try dsimp only at hSw); go_simp; first | done | with_reducible rfl
      try simp only [Act.put, List.setIfInBounds_toArray, List.set_cons_zero, List.set_cons_succ]
      refine wpAnyH_take (i := 8) (oi := ({ dst := some 20, op := Op.indexAddr 26 (Operand.tmp 18) (Operand.tmp 19), type := 0, pos := "ref.go:186", after := #[{ on := 6, ground := Ground.data }, { on := 7, ground := Ground.data }], guard := none } : Oper)) (v := ?_) rfl (by kernel_rfl) (by kernel_rfl) (by kernel_rfl) (fun _ _ _ h => h) (Or.inl ⟨by rfl, ?_⟩) (by assumption) ?_
      rotate_left
      · intro w hSw; (try dsimp only at hSw); go_simp; first | done | with_reducible rfl
      try simp only [Act.put, List.setIfInBounds_toArray, List.set_cons_zero, List.set_cons_succ]
      refine wpAnyH_take (i := 9) (oi := ({ dst := some 21, op := Op.fieldAddr 62 (Operand.tmp 20) 1, type := 0, pos := "ref.go:186", after := #[{ on := 8, ground := Ground.data }], guard := none } : Oper)) (v := ?_) rfl (by kernel_rfl) (by kernel_rfl) (by kernel_rfl) (fun _ _ _ h => h) (Or.inl ⟨by rfl, ?_⟩) (by assumption) ?_
      rotate_left
      · intro w hSw; (try dsimp only at hSw); go_simp; first | done | with_reducible rfl
      try simp only [Act.put, List.setIfInBounds_toArray, List.set_cons_zero, List.set_cons_succ]
      refine wpAnyH_take (i := 10) (oi := ({ dst := some 22, op := Op.load 3 (Operand.tmp 21), type := 3, pos := "ref.go:186", after := #[{ on := 9, ground := Ground.data }], guard := none } : Oper)) (v := ?_) rfl (by kernel_rfl) (by kernel_rfl) (by kernel_rfl) (fun _ _ _ h => h) (Or.inl ⟨by rfl, ?_⟩) (by assumption) ?_
      rotate_left
      · intro w hSw; (try dsimp only at hSw); go_simp; first | done | with_reducible rfl
      try simp only [Act.put, List.setIfInBounds_toArray, List.set_cons_zero, List.set_cons_succ]
      refine wpAnyH_take (i := 11) (oi := ({ dst := some 23, op := Op.move (Operand.tmp 0), type := 26, pos := "ref.go:186", after := #[], guard := none } : Oper)) (v := ?_) rfl (by kernel_rfl) (by kernel_rfl) (by kernel_rfl) (fun _ _ _ h => h) (Or.inl ⟨by rfl, ?_⟩) (by assumption) ?_
      rotate_left
      · intro w hSw; (try dsimp only at hSw); go_simp; first | done | with_reducible rfl
      try simp only [Act.put, List.setIfInBounds_toArray, List.set_cons_zero, List.set_cons_succ]
      refine wpAnyH_take (i := 12) (oi := ({ dst := some 24, op := Op.move (Operand.tmp 4), type := 3, pos := "ref.go:186", after := #[], guard := none } : Oper)) (v := ?_) rfl (by kernel_rfl) (by kernel_rfl) (by kernel_rfl) (fun _ _ _ h => h) (Or.inl ⟨by rfl, ?_⟩) (by assumption) ?_
      rotate_left
      · intro w hSw; (try dsimp only at hSw); go_simp; first | done | with_reducible rfl
      try simp only [Act.put, List.setIfInBounds_toArray, List.set_cons_zero, List.set_cons_succ]
      refine wpAnyH_take (i := 13) (oi := ({ dst := some 25, op := Op.indexAddr 26 (Operand.tmp 23) (Operand.tmp 24), type := 0, pos := "ref.go:186", after := #[{ on := 11, ground := Ground.data }, { on := 12, ground := Ground.data }], guard := none } : Oper)) (v := ?_) rfl (by kernel_rfl) (by kernel_rfl) (by kernel_rfl) (fun _ _ _ h => h) (Or.inl ⟨by rfl, ?_⟩) (by assumption) ?_
      rotate_left
      · intro w hSw; (try dsimp only at hSw); go_simp; first | done | with_reducible rfl
      try simp only [Act.put, List.setIfInBounds_toArray, List.set_cons_zero, List.set_cons_succ]
      refine wpAnyH_take (i := 14) (oi := ({ dst := some 26, op := Op.fieldAddr 62 (Operand.tmp 25) 2, type := 0, pos := "ref.go:186", after := #[{ on := 13, ground := Ground.data }], guard := none } : Oper)) (v := ?_) rfl (by kernel_rfl) (by kernel_rfl) (by kernel_rfl) (fun _ _ _ h => h) (Or.inl ⟨by rfl, ?_⟩) (by assumption) ?_
      rotate_left
      · intro w hSw; (try dsimp only at hSw); go_simp; first | done | with_reducible rfl
      try simp only [Act.put, List.setIfInBounds_toArray, List.set_cons_zero, List.set_cons_succ]
      refine wpAnyH_take (i := 15) (oi := ({ dst := some 27, op := Op.load 24 (Operand.tmp 26), type := 24, pos := "ref.go:186", after := #[{ on := 14, ground := Ground.data }], guard := none } : Oper)) (v := ?_) rfl (by kernel_rfl) (by kernel_rfl) (by kernel_rfl) (fun _ _ _ h => h) (Or.inl ⟨by rfl, ?_⟩) (by assumption) ?_
      rotate_left
      · intro w hSw; (try dsimp only at hSw); go_simp; first | done | with_reducible rfl
      try simp only [Act.put, List.setIfInBounds_toArray, List.set_cons_zero, List.set_cons_succ]
      refine wpAnyH_take (i := 17) (oi := ({ dst := some 29, op := Op.move (Operand.tmp 0), type := 26, pos := "ref.go:186", after := #[], guard := none } : Oper)) (v := ?_) rfl (by kernel_rfl) (by kernel_rfl) (by kernel_rfl) (fun _ _ _ h => h) (Or.inl ⟨by rfl, ?_⟩) (by assumption) ?_
      rotate_left
      · intro w hSw; (try dsimp only at hSw); go_simp; first | done | with_reducible rfl
      try simp only [Act.put, List.setIfInBounds_toArray, List.set_cons_zero, List.set_cons_succ]
      refine wpAnyH_take (i := 18) (oi := ({ dst := some 30, op := Op.move (Operand.tmp 4), type := 3, pos := "ref.go:186", after := #[], guard := none } : Oper)) (v := ?_) rfl (by kernel_rfl) (by kernel_rfl) (by kernel_rfl) (fun _ _ _ h => h) (Or.inl ⟨by rfl, ?_⟩) (by assumption) ?_
      rotate_left
      · intro w hSw; (try dsimp only at hSw); go_simp; first | done | with_reducible rfl
      try simp only [Act.put, List.setIfInBounds_toArray, List.set_cons_zero, List.set_cons_succ]
      refine wpAnyH_take (i := 19) (oi := ({ dst := some 31, op := Op.indexAddr 26 (Operand.tmp 29) (Operand.tmp 30), type := 0, pos := "ref.go:186", after := #[{ on := 17, ground := Ground.data }, { on := 18, ground := Ground.data }], guard := none } : Oper)) (v := ?_) rfl (by kernel_rfl) (by kernel_rfl) (by kernel_rfl) (fun _ _ _ h => h) (Or.inl ⟨by rfl, ?_⟩) (by assumption) ?_
      rotate_left
      · intro w hSw; (try dsimp only at hSw); go_simp; first | done | with_reducible rfl
      try simp only [Act.put, List.setIfInBounds_toArray, List.set_cons_zero, List.set_cons_succ]
      refine wpAnyH_take (i := 20) (oi := ({ dst := some 32, op := Op.fieldAddr 62 (Operand.tmp 31) 3, type := 0, pos := "ref.go:186", after := #[{ on := 19, ground := Ground.data }], guard := none } : Oper)) (v := ?_) rfl (by kernel_rfl) (by kernel_rfl) (by kernel_rfl) (fun _ _ _ h => h) (Or.inl ⟨by rfl, ?_⟩) (by assumption) ?_
      rotate_left
      · intro w hSw; (try dsimp only at hSw); go_simp; first | done | with_reducible rfl
      try simp only [Act.put, List.setIfInBounds_toArray, List.set_cons_zero, List.set_cons_succ]
      refine wpAnyH_take (i := 21) (oi := ({ dst := some 33, op := Op.load 25 (Operand.tmp 32), type := 25, pos := "ref.go:186", after := #[{ on := 20, ground := Ground.data }], guard := none } : Oper)) (v := ?_) rfl (by kernel_rfl) (by kernel_rfl) (by kernel_rfl) (fun _ _ _ h => h) (Or.inl ⟨by rfl, ?_⟩) (by assumption) ?_
      rotate_left
      · intro w hSw; (try dsimp only at hSw); go_simp; first | done | with_reducible rfl
      try simp only [Act.put, List.setIfInBounds_toArray, List.set_cons_zero, List.set_cons_succ]
      refine wpAnyH_ready (rs := [16]) (by kernel_rfl) (by simp) ?_
      refine AllReadyH.cons (o := ({ dst := some 28, op := Op.call { callee := Callee.value (Operand.func 25), args := #[Operand.tmp 27], argTypes := #[24] }, type := 24, pos := "ref.go:186", after := #[{ on := 15, ground := Ground.data }], guard := none } : Oper)) rfl (fun K hK => ?_) AllReadyH.nil
      go_simp
      refine (copyEntry_any l.e B d _ _ (show BF (fun b => b < w.heap.size) wr.drew B d l.e.dig from HRB.out) (HBIG.out.1)).mono ?_
      rintro en w3 ⟨hb3, A3, q3, rfl, hr3⟩
      replace hb3 : Below wr.heap.size wr w3 := ⟨hb3.os, hb3.tape, hb3.output, hb3.size, hb3.block⟩
      have HB3 := Lib.hid (below_next HB.out hb3 HB.out.size)
      have HO3 := Lib.hid (HO.out.below hb3)
      have HV3 := Lib.hid (HRV.out.below hb3)
      have HE3 := Lib.hid (show BF (From wr.heap.size) w3 A3 q3 l.e.dig from hr3)
      have HSZ3 := Lib.hid hb3.size
      have HSS := Lib.hid (show _ ∧ _ ∧ _ ∧ _ ∧ _ ∧ _ ∧ _ from ⟨kept_cell c0 hb3, kept_cell c1 hb3, kept_cell c2 hb3, kept_cell c3 hb3, kept_cell c4 hb3, kept_cell c5 hb3, kept_cell c6 hb3⟩)
      clear hb3 hr3 HRB
      go_wp2_with fail
      refine hK.out _ _ (HSS.out) (fun hHeld => ?_)
      clear hK K
      try simp only [Act.put, List.setIfInBounds_toArray, List.set_cons_zero, List.set_cons_succ]
      refine wpAnyH_ready (rs := [22]) (by kernel_rfl) (by simp) ?_
      refine AllReadyH.cons (o := ({ dst := some 34, op := Op.call { callee := Callee.value (Operand.func 34), args := #[Operand.tmp 33], argTypes := #[25] }, type := 25, pos := "ref.go:186", after := #[{ on := 21, ground := Ground.data }, { on := 16, ground := Ground.chain }], guard := none } : Oper)) rfl (fun K hK => ?_) AllReadyH.nil
      go_simp
      refine (copyLetters_any C q l.votes _ _ HV3.out (HBIG.out.2)).mono ?_
      rintro en w4 ⟨A4, c4, rfl, hr4, hb4⟩
      have HB4 := Lib.hid (below_next HB3.out hb4 HB3.out.size)
      have HO4 := Lib.hid (HO3.out.below hb4)
      have HE4 := Lib.hid (HE3.out.below hb4)
      have HV4 := Lib.hid (hr4.from_ (B' := wr.heap.size) HSZ3.out)
      have HSZ4 := Lib.hid (Nat.le_trans HSZ3.out hb4.size)
      obtain ⟨e0, e1, e2, e3, e4, e5, e6⟩ := HSS.out
      have HSS4 := Lib.hid (show _ ∧ _ ∧ _ ∧ _ ∧ _ ∧ _ ∧ _ from ⟨kept_cell e0 hb4, kept_cell e1 hb4, kept_cell e2 hb4, kept_cell e3 hb4, kept_cell e4 hb4, kept_cell e5 hb4, kept_cell e6 hb4⟩)
      clear hb4 hr4 e0 e1 e2 e3 e4 e5 e6
      go_wp2_with fail
      refine hK.out _ _ (HSS4.out) (fun hHeld => ?_)
      clear hK K
      try simp only [Act.put, List.setIfInBounds_toArray, List.set_cons_zero, List.set_cons_succ]
      refine wpAnyH_take (i := 23) (oi := ({ dst := some 35, op := Op.build 62 #[(0, Operand.tmp 17), (1, Operand.tmp 22), (2, Operand.tmp 28), (3, Operand.tmp 34)], type := 62, pos := "ref.go:186", after := #[{ on := 5, ground := Ground.data }, { on := 10, ground := Ground.data }, { on := 16, ground := Ground.data }, { on := 22, ground := Ground.data }], guard := none } : Oper)) (v := ?_) rfl (by kernel_rfl) (by kernel_rfl) (by kernel_rfl) (fun _ _ _ h => h) (Or.inl ⟨by rfl, ?_⟩) (by assumption) ?_
      rotate_left
      · intro w hSw; (try dsimp only at hSw); go_simp; first | done | with_reducible rfl
      try simp only [Act.put, List.setIfInBounds_toArray, List.set_cons_zero, List.set_cons_succ]
      refine wpAnyH_ready (rs := [24]) (by kernel_rfl) (by simp) ?_
      refine AllReadyH.cons (o := ({ dst := some 36, op := Op.buildSlice 26 1 #[(0, Operand.tmp 35)], type := 26, pos := "ref.go:186", after := #[{ on := 23, ground := Ground.data }], guard := none } : Oper)) rfl (fun K hK => ?_) AllReadyH.nil
      go_simp
      obtain ⟨e0, e1, e2, e3, e4, e5, e6⟩ := HSS4.out
      have hal := (Below.refl w4.heap.size w4).alloc (Nat.le_refl _) (.cells #[.int .i64 l.seq, .int .i64 l.view, .int .i64 l.e.c, .int .i64 l.e.s, .int .i64 l.e.t, .slice A3 l.e.dig.length q3, .slice A4 l.votes.length c4] 62)
      have HSS5 := Lib.hid (show _ ∧ _ ∧ _ ∧ _ ∧ _ ∧ _ ∧ _ from ⟨kept_cell e0 hal, kept_cell e1 hal, kept_cell e2 hal, kept_cell e3 hal, kept_cell e4 hal, kept_cell e5 hal, kept_cell e6 hal⟩)
      clear e0 e1 e2 e3 e4 e5 e6
      refine hK.out _ _ (HSS5.out) (fun hHeld => ?_)
      clear hK K
      try simp only [Act.put, List.setIfInBounds_toArray, List.set_cons_zero, List.set_cons_succ]
      have HBG := Lib.hid (fun g hg => HO.out.block g hg)
      have HBL := Lib.hid (fun g hg => HO.out.block_lt g hg)
      obtain ⟨hl0, css, hcl, hou, hin⟩ := HO4.out
      have HL0 := Lib.hid hl0
      have HCL := Lib.hid hcl
      have HIN := Lib.hid hin
      have hsw := HB4.out.size
      have HRY := Lib.hid (show RPv.rd (From wr.heap.size) w4 [.int .i64 l.seq, .int .i64 l.view, .int .i64 l.e.c, .int .i64 l.e.s, .int .i64 l.e.t, .slice A3 l.e.dig.length q3, .slice A4 l.votes.length c4] l from ⟨A3, q3, A4, c4, rfl, HE4.out, HV4.out⟩)
      clear hl0 hcl hin
      refine wpAnyH_ready (rs := [25]) (by kernel_rfl) (by simp) ?_
      refine AllReadyH.cons (o := ({ dst := some 37, op := Op.call { callee := Callee.builtin Builtin.append, args := #[Operand.tmp 12, Operand.tmp 36], argTypes := #[26, 26] }, type := 26, pos := "ref.go:186", after := #[{ on := 0, ground := Ground.data }, { on := 24, ground := Ground.data }, { on := 22, ground := Ground.chain }], guard := none } : Oper)) rfl (fun K hK => ?_) AllReadyH.nil
      refine step_append_at (by rfl) _ _ 26 (by rfl) w.heap.size 62 i0 _ 7 88 Try.underlying26 hi hz0 hz1 hz2 rfl (by omega) A' n' c' css.flatten (by rfl) (World.ownsRow.alloc hou _) ⟨w4.heap.size, 0, none⟩ 1 1 [.int .i64 l.seq, .int .i64 l.view, .int .i64 l.e.c, .int .i64 l.e.s, .int .i64 l.e.t, .slice A3 l.e.dig.length q3, .slice A4 l.votes.length c4] (by rfl) (by rfl) (news_alloc w4 [.int .i64 l.seq, .int .i64 l.view, .int .i64 l.e.c, .int .i64 l.e.s, .int .i64 l.e.t, .slice A3 l.e.dig.length q3, .slice A4 l.votes.length c4] 62) (by simp [Value.oneCell']) (by simp only [maxLen]; omega) (by omega) (by simp; omega) (by omega) ?_
      intro A6 c6 w6 HOWN6 HG6 HROW6
      obtain ⟨e0, e1, e2, e3, e4, e5, e6⟩ := HSS5.out
      have hne : ∀ k, some (x.add k).block ≠ (Value.slice A' n' c').ownBlock := fun k e => by rw [add_block] at e; have := HBG.out _ e.symm; have := HXB.out; omega
      have HSS6 := Lib.hid (show _ ∧ _ ∧ _ ∧ _ ∧ _ ∧ _ ∧ _ from ⟨grown_cell e0 HG6.out (hne _), grown_cell e1 HG6.out (hne _), grown_cell e2 HG6.out (hne _), grown_cell e3 HG6.out (hne _), grown_cell e4 HG6.out (hne _), grown_cell e5 HG6.out (hne _), grown_cell e6 HG6.out (hne _)⟩)
      clear e0 e1 e2 e3 e4 e5 e6 hne
      refine hK.out _ _ (HSS6.out) (fun hHeld => ?_)
      clear hK K
      try simp only [Act.put, List.setIfInBounds_toArray, List.set_cons_zero, List.set_cons_succ]
      refine wpAnyH_take (i := 26) (oi := ({ dst := some 3, op := Op.assign (Operand.tmp 37), type := 26, pos := "ref.go:186", after := #[{ on := 25, ground := Ground.data }, { on := 25, ground := Ground.chain }, { on := 0, ground := Ground.phase }, { on := 1, ground := Ground.phase }, { on := 2, ground := Ground.phase }, { on := 3, ground := Ground.phase }, { on := 4, ground := Ground.phase }, { on := 5, ground := Ground.phase }, { on := 6, ground := Ground.phase }, { on := 7, ground := Ground.phase }, { on := 8, ground := Ground.phase }, { on := 9, ground := Ground.phase }, { on := 10, ground := Ground.phase }, { on := 11, ground := Ground.phase }, { on := 12, ground := Ground.phase }, { on := 13, ground := Ground.phase }, { on := 14, ground := Ground.phase }, { on := 15, ground := Ground.phase }, { on := 16, ground := Ground.phase }, { on := 17, ground := Ground.phase }, { on := 18, ground := Ground.phase }, { on := 19, ground := Ground.phase }, { on := 20, ground := Ground.phase }, { on := 21, ground := Ground.phase }, { on := 22, ground := Ground.phase }, { on := 23, ground := Ground.phase }, { on := 24, ground := Ground.phase }, { on := 25, ground := Ground.phase }], guard := none } : Oper)) (v := ?_) rfl (by kernel_rfl) (by kernel_rfl) (by kernel_rfl) (fun _ _ _ h => h) (Or.inl ⟨by rfl, ?_⟩) (by assumption) ?_
      rotate_left
      · intro w hSw; (try dsimp only at hSw); go_simp; first | done | with_reducible rfl
      try simp only [Act.put, List.setIfInBounds_toArray, List.set_cons_zero, List.set_cons_succ]
      refine wpAnyH_done (by kernel_rfl) ?_ _
      have hB5 := (Below.refl w4.heap.size w4).alloc (Nat.le_refl _) (.cells #[.int .i64 l.seq, .int .i64 l.view, .int .i64 l.e.c, .int .i64 l.e.s, .int .i64 l.e.t, .slice A3 l.e.dig.length q3, .slice A4 l.votes.length c4] 62)
      have HX := Lib.hid (show OwnS RPv 62 (From w.heap.size) w.heap.size w6 A6 (n' + 1) c6 (ls.take n' ++ [l]) from
        OwnS.push (R := RPv) (G := From w.heap.size) (F := From wr.heap.size) (w := w4.alloc (.cells #[.int .i64 l.seq, .int .i64 l.view, .int .i64 l.e.c, .int .i64 l.e.s, .int .i64 l.e.t, .slice A3 l.e.dig.length q3, .slice A4 l.votes.length c4] 62)) HL0.out HCL.out (fun j y cs hy hc => RPv.below (HIN.out j y cs hy hc) hB5) (RPv.below HRY.out hB5)
          (fun b hb _ => ⟨Nat.le_trans HWR.out hb, fun e => by have := HBL.out b e.symm; unfold From at hb; omega⟩) HG6.out HOWN6.out HROW6.out)
      have HB6 := Lib.hid ((HB4.out.alloc HB4.out.size (.cells #[.int .i64 l.seq, .int .i64 l.view, .int .i64 l.e.c, .int .i64 l.e.s, .int .i64 l.e.t, .slice A3 l.e.dig.length q3, .slice A4 l.votes.length c4] 62)).grown HG6.out (by have := HB4.out.size; simp; omega) (fun g hg => HBG.out g hg))
      clear HOWN6 HG6 HROW6 hB5 hou hal
      go_wp2_with fail
      go_roundw
      case rel => exact ⟨A6, n' + 1, c6, by omega, rfl, by go_num, by rw [HSN.out]; exact HX.out, HB6.out⟩
      case measure => simp [intOf]; omega
    · obtain rfl : n' = ls.length := by omega
      rw [List.take_length] at ho
      have HX := Lib.hid (ho.rds (fun b hb => hb))
      clear hb ho
      go_wp2_with fail
      go_ret
      exact ⟨A', c', rfl, HX.out, HB.out⟩
end Go.Proofs.Ytmgmmbgjmnklkaa
