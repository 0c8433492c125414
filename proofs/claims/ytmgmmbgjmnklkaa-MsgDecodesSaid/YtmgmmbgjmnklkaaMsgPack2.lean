/-
  The program's bytes of lists of letters, and of what is proven. Walks; no statement.
-/
import Derived.Test.YtmgmmbgjmnklkaaMsgPack1
namespace Go.Proofs.Ytmgmmbgjmnklkaa
set_option maxRecDepth 100000
open Go.RowKit
open Pk
set_option linter.unusedVariables false

theorem allX_snoc {α β : Type} {f : α → Option β} {l : List α} {ys : List β} {x : α} {y : β} (h : allX f l = some ys) (hx : f x = some y) : allX f (l ++ [x]) = some (ys ++ [y]) := by
  induction l generalizing ys with
  | nil => simp only [allX, Option.some.injEq] at h; subst h; simp [allX, hx]
  | cons a r ih =>
    simp only [allX, List.cons_append] at h ⊢
    cases hf : f a with
    | none => rw [hf] at h; cases h
    | some b =>
      rw [hf] at h
      cases hr : allX f r with
      | none => rw [hr] at h; cases h
      | some bs =>
        rw [hr] at h
        simp only [Option.some.injEq] at h
        subst h
        rw [ih hr]
        rfl
theorem allX_none {α β : Type} {f : α → Option β} {l : List α} {x : α} (hm : x ∈ l) (hx : f x = none) : allX f l = none := by
  induction l with
  | nil => cases hm
  | cons a r ih =>
    simp only [allX]
    rcases List.mem_cons.1 hm with e | e
    · subst e; rw [hx]
    · cases hf : f a with
      | none => rfl
      | some b => simp only; rw [ih e]
theorem allX_len {α β : Type} {f : α → Option β} {l : List α} {ys : List β} (h : allX f l = some ys) : ys.length = l.length := by
  induction l generalizing ys with
  | nil => simp only [allX, Option.some.injEq] at h; subst h; rfl
  | cons a r ih =>
    simp only [allX] at h
    cases hf : f a with
    | none => rw [hf] at h; cases h
    | some b =>
      rw [hf] at h
      cases hr : allX f r with
      | none => rw [hr] at h; cases h
      | some bs =>
        rw [hr] at h
        simp only [Option.some.injEq] at h
        subst h
        simp [ih hr]
theorem allX_mem {α β : Type} {f : α → Option β} {l : List α} {ys : List β} (h : allX f l = some ys) : ∀ y ∈ ys, ∃ x ∈ l, f x = some y := by
  induction l generalizing ys with
  | nil => simp only [allX, Option.some.injEq] at h; subst h; intro y hy; cases hy
  | cons a r ih =>
    simp only [allX] at h
    cases hf : f a with
    | none => rw [hf] at h; cases h
    | some b =>
      rw [hf] at h
      cases hr : allX f r with
      | none => rw [hr] at h; cases h
      | some bs =>
        rw [hr] at h
        simp only [Option.some.injEq] at h
        subst h
        intro y hy
        rcases List.mem_cons.1 hy with e | e
        · exact ⟨a, List.mem_cons_self .., by rw [e]; exact hf⟩
        · obtain ⟨x, hx, h2⟩ := ih hr y e
          exact ⟨x, List.mem_cons_of_mem _ hx, h2⟩
theorem total_bound {ls : List (List UInt8)} {N : Nat} (h : ∀ l ∈ ls, l.length ≤ N) : total ls ≤ ls.length * (1 + N) := by
  induction ls with
  | nil => simp [total]
  | cons x r ih =>
    have h1 := h x (List.mem_cons_self ..)
    have h2 := ih (fun l hl => h l (List.mem_cons_of_mem _ hl))
    simp only [total, List.length_cons, Nat.add_mul]
    omega
theorem lt_pack_len {l : Lt} {b : List UInt8} (h : l.pack = some b) : b.length ≤ 196635 := by
  unfold Lt.pack at h
  split at h
  · cases h
  · have := joinX_len h
    simpa using this
theorem packList_len {α : Type} {f : α → Option (List UInt8)} {ls : List α} {b : List UInt8} (h : packList f ls = some b) : b.length ≤ ls.length * 65545 := by
  unfold packList at h
  split at h
  · cases h
  · rename_i rows hr
    have := joinX_len h
    rw [allX_len hr] at this
    exact this
theorem pv_pack_len {p : Pv} {b : List UInt8} (h : p.pack = some b) : b.length ≤ 196635 := by
  unfold Pv.pack at h
  split at h
  · cases h
  · have := joinX_len h
    simpa using this
theorem ltsOk_mem {ls : List Lt} (h : ltsOk ls = true) : ls.length ≤ 64 ∧ ∀ l ∈ ls, l.ok = true := by
  unfold ltsOk at h
  simp only [Bool.and_eq_true, decide_eq_true_eq, List.all_eq_true] at h
  exact h
theorem pvsOk_mem {ls : List Pv} (h : pvsOk ls = true) : ls.length ≤ 8 ∧ ∀ l ∈ ls, l.ok = true := by
  unfold pvsOk at h
  simp only [Bool.and_eq_true, decide_eq_true_eq, List.all_eq_true] at h
  exact h
theorem pv_ok {p : Pv} (h : p.ok = true) : numsBad [p.seq, p.view] = false ∧ p.e.ok = true ∧ ltsOk p.votes = true := by
  unfold Pv.ok wideB at h
  simp only [Bool.and_eq_true, decide_eq_true_eq] at h
  refine ⟨?_, h.2.2.1, h.2.2.2⟩
  simp [numsBad]
  omega

theorem packListL_any (A : Option Addr) (c : Nat) (ls : List Lt) (F : Nat → Prop) (w : World) (h : RdS RLt F w A c ls) (hok : ls.length ≤ 64 ∧ ∀ l ∈ ls, l.ok = true) :
    Calls Try.prog 110 #[.slice A ls.length c, .func (.func 55) #[] #[]] w (Pk (ltsPack ls) w) := by
  obtain ⟨i0, hi, hz0, hz1, hz2⟩ := info_parts info_bytes
  have HR := Lib.hid h
  have HOK := Lib.hid hok.2
  have hn := hok.1
  clear h hok
  go_enter Try.func110, Try.ntmps110
  go_wp2_with fail
  go_loopw [5, 10] (fun s i wr => ∃ (A' : Option Addr) (n' c' k : Nat) (acc : List (List UInt8)), k ≤ ls.length ∧ s = .slice A' n' c' ∧ i = .int .i64 k ∧ OwnRs wr w.heap.size A' n' c' acc ∧ allX Lt.pack (ls.take k) = some acc ∧ Below w.heap.size w wr) (fun _ i _ => ls.length - (intOf i).toNat)
  case atStart => exact ⟨none, 0, 0, 0, [], by omega, rfl, rfl, OwnRs.nil_ _ _, rfl, Below.refl _ _⟩
  case round =>
    obtain ⟨A', n', c', k, acc, hk, rfl, rfl, ho, ha, hb⟩ := hrel
    have hal := allX_len ha
    have hol := ho.1
    rw [List.length_take] at hal
    obtain rfl : n' = k := by omega
    by_cases hlt : n' < ls.length
    · obtain ⟨l, hl⟩ : ∃ l, ls[n']? = some l := ⟨_, List.getElem?_eq_getElem hlt⟩
      obtain ⟨x, B, d, C, q, rfl, hxb, c0, c1, c2, c3, c4, hr⟩ := (HR.out.below hb).lt5 hl
      have hmem : l ∈ ls := by obtain ⟨hh, rfl⟩ := List.getElem?_eq_some_iff.1 hl; exact List.getElem_mem hh
      have HSN := Lib.hid (show ls.take (n' + 1) = ls.take n' ++ [l] by obtain ⟨hh, rfl⟩ := List.getElem?_eq_some_iff.1 hl; exact List.take_succ_eq_append_getElem hh)
      have HM := Lib.hid hmem
      have b1 := hb.alloc hb.size (.cells #[.int .i64 l.f1, .int .i64 l.f2, .int .i64 l.r, .slice B l.body.length d, .slice C l.tags.length q] 46)
      have HB1 := Lib.hid b1
      have HO1 := Lib.hid (ho.below ((Below.refl _ _).alloc (Nat.le_refl _) (.cells #[.int .i64 l.f1, .int .i64 l.f2, .int .i64 l.r, .slice B l.body.length d, .slice C l.tags.length q] 46)))
      have HA := Lib.hid ha
      have HC := Lib.hid (packLetter_any l B d C q F _ (hr.below ((Below.refl wr.heap.size wr).alloc (Nat.le_refl _) (.cells #[.int .i64 l.f1, .int .i64 l.f2, .int .i64 l.r, .slice B l.body.length d, .slice C l.tags.length q] 46))) (HOK.out l hmem))
      have y1 : (0 : Int) ≤ (n' : Int) := by omega
      have y2 : (n' : Int) < (ls.length : Int) := by omega
      clear hl b1 hb hr ho ha hmem hal hol
      go_wp2_with fail
      refine HC.out.mono ?_
      rintro e w1 ⟨hb1, ⟨b, hbk, A1, n1, c1, rfl, ho1⟩ | ⟨hbk, rfl⟩⟩
      · have hn1 : b.length = n1 := OwnB.len ho1
        subst hn1
        have HB2 := Lib.hid (below_next HB1.out hb1 HB1.out.size)
        have hs2 := HB2.out.size
        have hs1 := HB1.out.size
        obtain ⟨hl0, us, hou, hin⟩ := HO1.out.below hb1
        have HL := Lib.hid hl0
        have HIN := Lib.hid hin
        have HBK := Lib.hid hbk
        have HOB := Lib.hid (own_base ho1 hs1)
        clear hl0 hin hb1 hbk ho1
        go_wp2_with (at_builtin
                     refine wpList_append_rd _ rfl _ _ 44 rfl w.heap.size 22 i0 _ 24 Try.underlying44 hi hz0 hz1 hz2 rfl A' n' c' us rfl (World.ownsRow.alloc hou _) (some ⟨w1.heap.size, 0, none⟩) 1 1 [.slice A1 b.length c1] rfl
                       (Rd.new w1 [Value.slice A1 b.length c1] 22) (by simp [Value.oneCell']) (by simp only [maxLen]; omega) (by omega) (by simp; omega) ?_
                     intro A2 c2 w2 hown2 hg2 hrow2)
        go_roundw
        case rel =>
          refine ⟨A2, n' + 1, c2, n' + 1, acc ++ [b], by omega, rfl, by go_num, ?_, by rw [HSN.out]; exact allX_snoc HA.out HBK.out, ?_⟩
          · exact OwnRs.push (w := w1.alloc (.cells #[.slice A1 b.length c1] 22)) HL.out (World.ownsRow.alloc hou _) (fun k u l hu hl => by
              obtain ⟨A3, c3, e3, h3⟩ := HIN.out k u l hu hl
              exact ⟨A3, c3, e3, h3.alloc _⟩) (HOB.out.alloc _) hg2 hown2
          · have b2 := HB2.out.alloc HB2.out.size (.cells #[.slice A1 b.length c1] 22)
            exact b2.grown hg2 b2.size (fun g hg => (World.ownsRow.lt hou g hg).1)
        case measure => simp [intOf]; omega
      · refine ⟨rfl, below_next HB1.out hb1 HB1.out.size, .inr ⟨?_, rfl⟩⟩
        show packList Lt.pack ls = none
        unfold packList
        rw [allX_none HM.out hbk]
    · have e : ls.take n' = ls := List.take_of_length_le (by omega)
      rw [e] at ha
      have HP := Lib.hid (show ltsPack ls = joinX acc by show packList Lt.pack ls = _; unfold packList; rw [ha])
      have HT := Lib.hid (show total acc ≤ 68719476736 by
        have h1 := total_bound (N := 196635) (fun b hb => by obtain ⟨x, _, hx⟩ := allX_mem ha b hb; exact lt_pack_len hx)
        have h2 := allX_len ha
        omega)
      have HB := Lib.hid hb
      have HRR := Lib.hid ho.rd
      clear e ha hb ho hal hol
      go_wp2_with fail
      refine (joinX_any _ _ _ _ _ HRR.out HT.out).mono ?_
      rw [← HP.out]
      rintro e w1 ⟨hb1, ⟨b, hbk, A1, n1, c1, rfl, ho1⟩ | ⟨hbk, rfl⟩⟩
      · have HB2 := Lib.hid (below_next HB.out hb1 HB.out.size)
        have HBK := Lib.hid hbk
        have HO := Lib.hid (ho1.more HB.out.size)
        clear hb1 hbk ho1
        go_wp2_with fail
        refine (mustB_yes _ _ _ _).mono ?_
        rintro e w2 ⟨rfl, rfl⟩
        go_wp2_with fail
        go_ret
        exact ⟨HB2.out, .inl ⟨b, HBK.out, A1, n1, c1, rfl, HO.out⟩⟩
      · have HB2 := Lib.hid (below_next HB.out hb1 HB.out.size)
        have HBK := Lib.hid hbk
        clear hb1 hbk
        go_wp2_with fail
        refine (mustB_no _ 13 (by decide) _).mono ?_
        rintro e w2 ⟨rfl, rfl⟩
        exact ⟨rfl, HB2.out, .inr ⟨HBK.out, rfl⟩⟩

theorem packProven_any (p : Pv) (A : Option Addr) (c : Nat) (B : Option Addr) (d : Nat) (F : Nat → Prop) (w : World) (h : BF F w A c p.e.dig) (hv : RdS RLt F w B d p.votes) (hok : p.ok = true) :
    Calls Try.prog 112 #[.agg #[.int .i64 p.seq, .int .i64 p.view, .int .i64 p.e.c, .int .i64 p.e.s, .int .i64 p.e.t, .slice A p.e.dig.length c, .slice B p.votes.length d]] w (Pk p.pack w) := by
  have hB := (Below.refl w.heap.size w).alloc (Nat.le_refl _) (.cells #[.int .i64 p.seq, .int .i64 p.view, .int .i64 p.e.c, .int .i64 p.e.s, .int .i64 p.e.t, .slice A p.e.dig.length c, .slice B p.votes.length d] 62)
  have HB := Lib.hid hB
  have HK := Lib.hid (Bk.new w 62 [.int .i64 p.seq, .int .i64 p.view, .int .i64 p.e.c, .int .i64 p.e.s, .int .i64 p.e.t, .slice A p.e.dig.length c, .slice B p.votes.length d])
  have HL := Lib.hid (h.below hB)
  have HV := Lib.hid (hv.below hB)
  have hsz := pv_ok hok
  have HNB := Lib.hid hsz.1
  have HEO := Lib.hid hsz.2.1
  have HVO := Lib.hid hsz.2.2
  have HTA := Lib.hid (show ∀ t, ltsPack p.votes = some t → total [numsN [p.seq, p.view], p.e.pack, t] ≤ 68719476736 by
    intro t ht
    have h1 := packList_len ht
    have h2 := numsN_len3 hsz.1 (by simp)
    have h3 := joinX_len (en_join hsz.2.1)
    have h4 := (ltsOk_mem hsz.2.2).1
    simp only [total]
    simp at h3
    omega)
  clear h hv hB hok hsz
  go_enter Try.func112, Try.ntmps112
  go_wp2_with fail
  obtain ⟨X, hX⟩ : ∃ X, X = w.alloc (.cells #[.int .i64 p.seq, .int .i64 p.view, .int .i64 p.e.c, .int .i64 p.e.s, .int .i64 p.e.t, .slice A p.e.dig.length c, .slice B p.votes.length d] 62) := ⟨_, rfl⟩
  rw [← hX] at HB HK HL HV ⊢
  clear hX
  refine wp_region_held_drew (S := fun w' => w'.cell? ⟨w.heap.size, 0, none⟩ = some (.int .i64 p.seq) ∧ w'.cell? ⟨w.heap.size, 1, none⟩ = some (.int .i64 p.view) ∧ w'.cell? ⟨w.heap.size, 2, none⟩ = some (.int .i64 p.e.c) ∧ w'.cell? ⟨w.heap.size, 3, none⟩ = some (.int .i64 p.e.s) ∧ w'.cell? ⟨w.heap.size, 4, none⟩ = some (.int .i64 p.e.t) ∧ w'.cell? ⟨w.heap.size, 5, none⟩ = some (.slice A p.e.dig.length c) ∧ w'.cell? ⟨w.heap.size, 6, none⟩ = some (.slice B p.votes.length d)) (by kernel_rfl) (⟨(bk_drew HK.out).at_ (i := 0) rfl, (bk_drew HK.out).at_ (i := 1) rfl, (bk_drew HK.out).at_ (i := 2) rfl, (bk_drew HK.out).at_ (i := 3) rfl, (bk_drew HK.out).at_ (i := 4) rfl, (bk_drew HK.out).at_ (i := 5) rfl, (bk_drew HK.out).at_ (i := 6) rfl⟩) (fun hHeld => ?_)
  refine wpAnyH_take (i := 0) (oi := ({ dst := some 3, op := Op.fieldAddr 62 (Operand.tmp 1) 0, type := 0, pos := "bytes.go:103", after := #[], guard := none } : Oper)) (v := ?_) rfl (by kernel_rfl) (by kernel_rfl) (by kernel_rfl) (fun _ _ _ h => h) (Or.inl ⟨by rfl, ?_⟩) (by assumption) ?_
  rotate_left
  · intro w hSw; (try dsimp only at hSw); go_simp; first | done | with_reducible rfl
  try simp only [Act.put, List.setIfInBounds_toArray, List.set_cons_zero, List.set_cons_succ]
  refine wpAnyH_take (i := 1) (oi := ({ dst := some 4, op := Op.load 3 (Operand.tmp 3), type := 3, pos := "bytes.go:103", after := #[{ on := 0, ground := Ground.data }], guard := none } : Oper)) (v := ?_) rfl (by kernel_rfl) (by kernel_rfl) (by kernel_rfl) (fun _ _ _ h => h) (Or.inl ⟨by rfl, ?_⟩) (by assumption) ?_
  rotate_left
  · intro w hSw; (try dsimp only at hSw); go_simp; first | done | with_reducible rfl
  try simp only [Act.put, List.setIfInBounds_toArray, List.set_cons_zero, List.set_cons_succ]
  refine wpAnyH_take (i := 2) (oi := ({ dst := some 5, op := Op.fieldAddr 62 (Operand.tmp 1) 1, type := 0, pos := "bytes.go:103", after := #[], guard := none } : Oper)) (v := ?_) rfl (by kernel_rfl) (by kernel_rfl) (by kernel_rfl) (fun _ _ _ h => h) (Or.inl ⟨by rfl, ?_⟩) (by assumption) ?_
  rotate_left
  · intro w hSw; (try dsimp only at hSw); go_simp; first | done | with_reducible rfl
  try simp only [Act.put, List.setIfInBounds_toArray, List.set_cons_zero, List.set_cons_succ]
  refine wpAnyH_take (i := 3) (oi := ({ dst := some 6, op := Op.load 3 (Operand.tmp 5), type := 3, pos := "bytes.go:103", after := #[{ on := 2, ground := Ground.data }], guard := none } : Oper)) (v := ?_) rfl (by kernel_rfl) (by kernel_rfl) (by kernel_rfl) (fun _ _ _ h => h) (Or.inl ⟨by rfl, ?_⟩) (by assumption) ?_
  rotate_left
  · intro w hSw; (try dsimp only at hSw); go_simp; first | done | with_reducible rfl
  try simp only [Act.put, List.setIfInBounds_toArray, List.set_cons_zero, List.set_cons_succ]
  refine wpAnyH_take (i := 9) (oi := ({ dst := some 12, op := Op.fieldAddr 62 (Operand.tmp 1) 2, type := 0, pos := "bytes.go:103", after := #[], guard := none } : Oper)) (v := ?_) rfl (by kernel_rfl) (by kernel_rfl) (by kernel_rfl) (fun _ _ _ h => h) (Or.inl ⟨by rfl, ?_⟩) (by assumption) ?_
  rotate_left
  · intro w hSw; (try dsimp only at hSw); go_simp; first | done | with_reducible rfl
  try simp only [Act.put, List.setIfInBounds_toArray, List.set_cons_zero, List.set_cons_succ]
  refine wpAnyH_take (i := 10) (oi := ({ dst := some 13, op := Op.load 24 (Operand.tmp 12), type := 24, pos := "bytes.go:103", after := #[{ on := 9, ground := Ground.data }], guard := none } : Oper)) (v := ?_) rfl (by kernel_rfl) (by kernel_rfl) (by kernel_rfl) (fun _ _ _ h => h) (Or.inl ⟨by rfl, ?_⟩) (by assumption) ?_
  rotate_left
  · intro w hSw; (try dsimp only at hSw); go_simp; first | done | with_reducible rfl
  try simp only [Act.put, List.setIfInBounds_toArray, List.set_cons_zero, List.set_cons_succ]
  refine wpAnyH_take (i := 12) (oi := ({ dst := some 15, op := Op.fieldAddr 62 (Operand.tmp 1) 3, type := 0, pos := "bytes.go:103", after := #[], guard := none } : Oper)) (v := ?_) rfl (by kernel_rfl) (by kernel_rfl) (by kernel_rfl) (fun _ _ _ h => h) (Or.inl ⟨by rfl, ?_⟩) (by assumption) ?_
  rotate_left
  · intro w hSw; (try dsimp only at hSw); go_simp; first | done | with_reducible rfl
  try simp only [Act.put, List.setIfInBounds_toArray, List.set_cons_zero, List.set_cons_succ]
  refine wpAnyH_take (i := 13) (oi := ({ dst := some 16, op := Op.load 25 (Operand.tmp 15), type := 25, pos := "bytes.go:103", after := #[{ on := 12, ground := Ground.data }], guard := none } : Oper)) (v := ?_) rfl (by kernel_rfl) (by kernel_rfl) (by kernel_rfl) (fun _ _ _ h => h) (Or.inl ⟨by rfl, ?_⟩) (by assumption) ?_
  rotate_left
  · intro w hSw; (try dsimp only at hSw); go_simp; first | done | with_reducible rfl
  try simp only [Act.put, List.setIfInBounds_toArray, List.set_cons_zero, List.set_cons_succ]
  refine wpAnyH_ready (rs := [4]) (by kernel_rfl) (by simp) ?_
  refine AllReadyH.cons (o := ({ dst := some 7, op := Op.buildSlice 70 2 #[(0, Operand.tmp 4), (1, Operand.tmp 6)], type := 70, pos := "bytes.go:103", after := #[{ on := 1, ground := Ground.data }, { on := 3, ground := Ground.data }], guard := none } : Oper)) rfl (fun K hK => ?_) AllReadyH.nil
  go_simp
  refine hK.out _ _ (⟨(bk_drew (HK.out.alloc (.cells #[.int .i64 p.seq, .int .i64 p.view] 3))).at_ (i := 0) rfl, (bk_drew (HK.out.alloc (.cells #[.int .i64 p.seq, .int .i64 p.view] 3))).at_ (i := 1) rfl, (bk_drew (HK.out.alloc (.cells #[.int .i64 p.seq, .int .i64 p.view] 3))).at_ (i := 2) rfl, (bk_drew (HK.out.alloc (.cells #[.int .i64 p.seq, .int .i64 p.view] 3))).at_ (i := 3) rfl, (bk_drew (HK.out.alloc (.cells #[.int .i64 p.seq, .int .i64 p.view] 3))).at_ (i := 4) rfl, (bk_drew (HK.out.alloc (.cells #[.int .i64 p.seq, .int .i64 p.view] 3))).at_ (i := 5) rfl, (bk_drew (HK.out.alloc (.cells #[.int .i64 p.seq, .int .i64 p.view] 3))).at_ (i := 6) rfl⟩) (fun hHeld => ?_)
  clear hK K
  try simp only [Act.put, List.setIfInBounds_toArray, List.set_cons_zero, List.set_cons_succ]
  have HB1 := Lib.hid (below_drew (HB.out.alloc HB.out.size (.cells #[.int .i64 p.seq, .int .i64 p.view] 3)))
  have HK1 := Lib.hid (bk_drew (HK.out.alloc (.cells #[.int .i64 p.seq, .int .i64 p.view] 3)))
  have HL1 := Lib.hid (HL.out.below (below_drew ((Below.refl _ _).alloc (Nat.le_refl _) (.cells #[.int .i64 p.seq, .int .i64 p.view] 3))))
  have HV1 := Lib.hid (HV.out.below (below_drew ((Below.refl _ _).alloc (Nat.le_refl _) (.cells #[.int .i64 p.seq, .int .i64 p.view] 3))))
  have HR1 := Lib.hid (show Rd (X.alloc (.cells #[.int .i64 p.seq, .int .i64 p.view] 3)).drew (some ⟨X.heap.size, 0, none⟩) 2 ([p.seq, p.view].map iv) from Rd.new X [.int .i64 p.seq, .int .i64 p.view] 3)
  clear HB HK HL HV
  refine wpAnyH_ready (rs := [5]) (by kernel_rfl) (by simp) ?_
  refine AllReadyH.cons (o := ({ dst := some 8, op := Op.call { callee := Callee.value (Operand.func 97), args := #[Operand.tmp 7], argTypes := #[70] }, type := 33, pos := "bytes.go:103", after := #[{ on := 4, ground := Ground.data }], guard := none } : Oper)) rfl (fun K hK => ?_) AllReadyH.nil
  go_simp
  refine (nums_ok _ _ _ _ _ HR1.out (by omega) HNB.out).mono ?_
  rintro e2 w2 ⟨hb2, A2, n2, c2, rfl, ho2⟩
  have HB2 := Lib.hid (below_next HB1.out hb2 HB1.out.size)
  have HK2 := Lib.hid (HK1.out.kept hb2)
  have HL2 := Lib.hid (HL1.out.below hb2)
  have HV2 := Lib.hid (HV1.out.below hb2)
  have HO2 := Lib.hid ho2
  clear hb2 ho2
  go_wp2_with fail
  refine hK.out _ _ (⟨HK2.out.at_ (i := 0) rfl, HK2.out.at_ (i := 1) rfl, HK2.out.at_ (i := 2) rfl, HK2.out.at_ (i := 3) rfl, HK2.out.at_ (i := 4) rfl, HK2.out.at_ (i := 5) rfl, HK2.out.at_ (i := 6) rfl⟩) (fun hHeld => ?_)
  clear hK K
  try simp only [Act.put, List.setIfInBounds_toArray, List.set_cons_zero, List.set_cons_succ]
  refine wpAnyH_take (i := 6) (oi := ({ dst := some 9, op := Op.extract (Operand.tmp 8) 0, type := 22, pos := "bytes.go:103", after := #[{ on := 5, ground := Ground.data }], guard := none } : Oper)) (v := ?_) rfl (by kernel_rfl) (by kernel_rfl) (by kernel_rfl) (fun _ _ _ h => h) (Or.inl ⟨by rfl, ?_⟩) (by assumption) ?_
  rotate_left
  · intro w hSw; (try dsimp only at hSw); go_simp; first | done | with_reducible rfl
  try simp only [Act.put, List.setIfInBounds_toArray, List.set_cons_zero, List.set_cons_succ]
  refine wpAnyH_take (i := 7) (oi := ({ dst := some 10, op := Op.extract (Operand.tmp 8) 1, type := 32, pos := "bytes.go:103", after := #[{ on := 5, ground := Ground.data }], guard := none } : Oper)) (v := ?_) rfl (by kernel_rfl) (by kernel_rfl) (by kernel_rfl) (fun _ _ _ h => h) (Or.inl ⟨by rfl, ?_⟩) (by assumption) ?_
  rotate_left
  · intro w hSw; (try dsimp only at hSw); go_simp; first | done | with_reducible rfl
  try simp only [Act.put, List.setIfInBounds_toArray, List.set_cons_zero, List.set_cons_succ]
  refine wpAnyH_ready (rs := [8]) (by kernel_rfl) (by simp) ?_
  refine AllReadyH.cons (o := ({ dst := some 11, op := Op.call { callee := Callee.value (Operand.func 72), args := #[Operand.tmp 9, Operand.tmp 10], argTypes := #[22, 32] }, type := 22, pos := "bytes.go:103", after := #[{ on := 6, ground := Ground.data }, { on := 7, ground := Ground.data }, { on := 5, ground := Ground.chain }], guard := none } : Oper)) rfl (fun K hK => ?_) AllReadyH.nil
  go_simp
  refine (mustB_yes _ _ _ _).mono ?_
  rintro e3 w3 ⟨rfl, rfl⟩
  go_wp2_with fail
  refine hK.out _ _ (⟨HK2.out.at_ (i := 0) rfl, HK2.out.at_ (i := 1) rfl, HK2.out.at_ (i := 2) rfl, HK2.out.at_ (i := 3) rfl, HK2.out.at_ (i := 4) rfl, HK2.out.at_ (i := 5) rfl, HK2.out.at_ (i := 6) rfl⟩) (fun hHeld => ?_)
  clear hK K
  try simp only [Act.put, List.setIfInBounds_toArray, List.set_cons_zero, List.set_cons_succ]
  refine wpAnyH_ready (rs := [11]) (by kernel_rfl) (by simp) ?_
  refine AllReadyH.cons (o := ({ dst := some 14, op := Op.call { callee := Callee.value (Operand.func 60), args := #[Operand.tmp 13], argTypes := #[24] }, type := 22, pos := "bytes.go:103", after := #[{ on := 10, ground := Ground.data }, { on := 8, ground := Ground.chain }], guard := none } : Oper)) rfl (fun K hK => ?_) AllReadyH.nil
  go_simp
  refine (packEntry_any p.e _ _ _ _ HL2.out HEO.out).mono ?_
  rintro e3 w3 ⟨A3, n3, c3, rfl, ho3, hb3⟩
  have HB3 := Lib.hid (below_next HB2.out hb3 HB2.out.size)
  have HK3 := Lib.hid (HK2.out.kept hb3)
  have HV3 := Lib.hid (HV2.out.below hb3)
  have HO3a := Lib.hid (HO2.out.below hb3)
  have HO3 := Lib.hid ho3
  clear hb3 ho3
  go_wp2_with fail
  refine hK.out _ _ (⟨HK3.out.at_ (i := 0) rfl, HK3.out.at_ (i := 1) rfl, HK3.out.at_ (i := 2) rfl, HK3.out.at_ (i := 3) rfl, HK3.out.at_ (i := 4) rfl, HK3.out.at_ (i := 5) rfl, HK3.out.at_ (i := 6) rfl⟩) (fun hHeld => ?_)
  clear hK K
  try simp only [Act.put, List.setIfInBounds_toArray, List.set_cons_zero, List.set_cons_succ]
  refine wpAnyH_ready (rs := [14]) (by kernel_rfl) (by simp) ?_
  refine AllReadyH.cons (o := ({ dst := some 17, op := Op.call { callee := Callee.value (Operand.func 110), args := #[Operand.tmp 16, Operand.func 55], argTypes := #[25, 88] }, type := 22, pos := "bytes.go:103", after := #[{ on := 13, ground := Ground.data }, { on := 11, ground := Ground.chain }], guard := none } : Oper)) rfl (fun K hK => ?_) AllReadyH.nil
  go_simp
  refine (packListL_any _ _ _ _ _ HV3.out (ltsOk_mem HVO.out)).mono ?_
  rintro e4 w4 ⟨hb4, ⟨lv, hlv, A4, n4, c4, rfl, ho4⟩ | ⟨hlv, rfl⟩⟩
  rotate_left
  · exact ⟨rfl, below_next HB3.out hb4 HB3.out.size, .inr ⟨by unfold Pv.pack; rw [hlv], rfl⟩⟩
  have HB4 := Lib.hid (below_next HB3.out hb4 HB3.out.size)
  have HK4 := Lib.hid (HK3.out.kept hb4)
  have HO4a := Lib.hid (HO3a.out.below hb4)
  have HO4b := Lib.hid (HO3.out.below hb4)
  have HO4 := Lib.hid ho4
  have HLV := Lib.hid hlv
  clear hb4 ho4 hlv
  go_wp2_with fail
  refine hK.out _ _ (⟨HK4.out.at_ (i := 0) rfl, HK4.out.at_ (i := 1) rfl, HK4.out.at_ (i := 2) rfl, HK4.out.at_ (i := 3) rfl, HK4.out.at_ (i := 4) rfl, HK4.out.at_ (i := 5) rfl, HK4.out.at_ (i := 6) rfl⟩) (fun hHeld => ?_)
  clear hK K
  try simp only [Act.put, List.setIfInBounds_toArray, List.set_cons_zero, List.set_cons_succ]
  refine wpAnyH_ready (rs := [15]) (by kernel_rfl) (by simp) ?_
  refine AllReadyH.cons (o := ({ dst := some 18, op := Op.buildSlice 44 3 #[(0, Operand.tmp 11), (1, Operand.tmp 14), (2, Operand.tmp 17)], type := 44, pos := "bytes.go:103", after := #[{ on := 8, ground := Ground.data }, { on := 11, ground := Ground.data }, { on := 14, ground := Ground.data }], guard := none } : Oper)) rfl (fun K hK => ?_) AllReadyH.nil
  go_simp
  refine hK.out _ _ (⟨(HK4.out.alloc (.cells #[.slice A2 n2 c2, .slice A3 n3 c3, .slice A4 n4 c4] 22)).at_ (i := 0) rfl, (HK4.out.alloc (.cells #[.slice A2 n2 c2, .slice A3 n3 c3, .slice A4 n4 c4] 22)).at_ (i := 1) rfl, (HK4.out.alloc (.cells #[.slice A2 n2 c2, .slice A3 n3 c3, .slice A4 n4 c4] 22)).at_ (i := 2) rfl, (HK4.out.alloc (.cells #[.slice A2 n2 c2, .slice A3 n3 c3, .slice A4 n4 c4] 22)).at_ (i := 3) rfl, (HK4.out.alloc (.cells #[.slice A2 n2 c2, .slice A3 n3 c3, .slice A4 n4 c4] 22)).at_ (i := 4) rfl, (HK4.out.alloc (.cells #[.slice A2 n2 c2, .slice A3 n3 c3, .slice A4 n4 c4] 22)).at_ (i := 5) rfl, (HK4.out.alloc (.cells #[.slice A2 n2 c2, .slice A3 n3 c3, .slice A4 n4 c4] 22)).at_ (i := 6) rfl⟩) (fun hHeld => ?_)
  clear hK K
  try simp only [Act.put, List.setIfInBounds_toArray, List.set_cons_zero, List.set_cons_succ]
  have HB5 := Lib.hid (HB4.out.alloc HB4.out.size (.cells #[.slice A2 n2 c2, .slice A3 n3 c3, .slice A4 n4 c4] 22))
  have HK5 := Lib.hid (HK4.out.alloc (.cells #[.slice A2 n2 c2, .slice A3 n3 c3, .slice A4 n4 c4] 22))
  have HR5 := Lib.hid (rows_made3 w4 22 HO4a.out.row HO4b.out.row HO4.out.row)
  refine wpAnyH_ready (rs := [16]) (by kernel_rfl) (by simp) ?_
  refine AllReadyH.cons (o := ({ dst := some 19, op := Op.call { callee := Callee.value (Operand.func 75), args := #[Operand.tmp 18], argTypes := #[44] }, type := 33, pos := "bytes.go:103", after := #[{ on := 15, ground := Ground.data }, { on := 14, ground := Ground.chain }], guard := none } : Oper)) rfl (fun K hK => ?_) AllReadyH.nil
  go_simp
  refine (joinX_any _ _ _ _ _ HR5.out (HTA.out _ HLV.out)).mono ?_
  rintro e6 w6 ⟨hb6, ⟨lr, hlr, A6, n6, c6, rfl, ho6⟩ | ⟨hlr, rfl⟩⟩
  rotate_left
  · have HB6 := Lib.hid (below_next HB5.out hb6 HB5.out.size)
    have HK6 := Lib.hid (HK5.out.kept hb6)
    go_wp2_with fail
    refine hK.out _ _ (⟨HK6.out.at_ (i := 0) rfl, HK6.out.at_ (i := 1) rfl, HK6.out.at_ (i := 2) rfl, HK6.out.at_ (i := 3) rfl, HK6.out.at_ (i := 4) rfl, HK6.out.at_ (i := 5) rfl, HK6.out.at_ (i := 6) rfl⟩) (fun hHeld => ?_)
    clear hK K
    try simp only [Act.put, List.setIfInBounds_toArray, List.set_cons_zero, List.set_cons_succ]
    refine wpAnyH_take (i := 17) (oi := ({ dst := some 20, op := Op.extract (Operand.tmp 19) 0, type := 22, pos := "bytes.go:103", after := #[{ on := 16, ground := Ground.data }], guard := none } : Oper)) (v := ?_) rfl (by kernel_rfl) (by kernel_rfl) (by kernel_rfl) (fun _ _ _ h => h) (Or.inl ⟨by rfl, ?_⟩) (by assumption) ?_
    rotate_left
    · intro w hSw; (try dsimp only at hSw); go_simp; first | done | with_reducible rfl
    try simp only [Act.put, List.setIfInBounds_toArray, List.set_cons_zero, List.set_cons_succ]
    refine wpAnyH_take (i := 18) (oi := ({ dst := some 21, op := Op.extract (Operand.tmp 19) 1, type := 32, pos := "bytes.go:103", after := #[{ on := 16, ground := Ground.data }], guard := none } : Oper)) (v := ?_) rfl (by kernel_rfl) (by kernel_rfl) (by kernel_rfl) (fun _ _ _ h => h) (Or.inl ⟨by rfl, ?_⟩) (by assumption) ?_
    rotate_left
    · intro w hSw; (try dsimp only at hSw); go_simp; first | done | with_reducible rfl
    try simp only [Act.put, List.setIfInBounds_toArray, List.set_cons_zero, List.set_cons_succ]
    refine wpAnyH_ready (rs := [19]) (by kernel_rfl) (by simp) ?_
    refine AllReadyH.cons (o := ({ dst := some 22, op := Op.call { callee := Callee.value (Operand.func 72), args := #[Operand.tmp 20, Operand.tmp 21], argTypes := #[22, 32] }, type := 22, pos := "bytes.go:103", after := #[{ on := 17, ground := Ground.data }, { on := 18, ground := Ground.data }, { on := 16, ground := Ground.chain }], guard := none } : Oper)) rfl (fun K hK => ?_) AllReadyH.nil
    go_simp
    refine (mustB_no _ 13 (by decide) _).mono ?_
    rintro e7 w7 ⟨rfl, rfl⟩
    exact ⟨rfl, HB6.out, .inr ⟨by unfold Pv.pack; rw [HLV.out]; exact hlr, rfl⟩⟩
  have HB6 := Lib.hid (below_next HB5.out hb6 HB5.out.size)
  have HK6 := Lib.hid (HK5.out.kept hb6)
  have HO6 := Lib.hid (ho6.more HB5.out.size)
  have HLR := Lib.hid hlr
  clear hb6 ho6 hlr
  go_wp2_with fail
  refine hK.out _ _ (⟨HK6.out.at_ (i := 0) rfl, HK6.out.at_ (i := 1) rfl, HK6.out.at_ (i := 2) rfl, HK6.out.at_ (i := 3) rfl, HK6.out.at_ (i := 4) rfl, HK6.out.at_ (i := 5) rfl, HK6.out.at_ (i := 6) rfl⟩) (fun hHeld => ?_)
  clear hK K
  try simp only [Act.put, List.setIfInBounds_toArray, List.set_cons_zero, List.set_cons_succ]
  refine wpAnyH_take (i := 17) (oi := ({ dst := some 20, op := Op.extract (Operand.tmp 19) 0, type := 22, pos := "bytes.go:103", after := #[{ on := 16, ground := Ground.data }], guard := none } : Oper)) (v := ?_) rfl (by kernel_rfl) (by kernel_rfl) (by kernel_rfl) (fun _ _ _ h => h) (Or.inl ⟨by rfl, ?_⟩) (by assumption) ?_
  rotate_left
  · intro w hSw; (try dsimp only at hSw); go_simp; first | done | with_reducible rfl
  try simp only [Act.put, List.setIfInBounds_toArray, List.set_cons_zero, List.set_cons_succ]
  refine wpAnyH_take (i := 18) (oi := ({ dst := some 21, op := Op.extract (Operand.tmp 19) 1, type := 32, pos := "bytes.go:103", after := #[{ on := 16, ground := Ground.data }], guard := none } : Oper)) (v := ?_) rfl (by kernel_rfl) (by kernel_rfl) (by kernel_rfl) (fun _ _ _ h => h) (Or.inl ⟨by rfl, ?_⟩) (by assumption) ?_
  rotate_left
  · intro w hSw; (try dsimp only at hSw); go_simp; first | done | with_reducible rfl
  try simp only [Act.put, List.setIfInBounds_toArray, List.set_cons_zero, List.set_cons_succ]
  refine wpAnyH_ready (rs := [19]) (by kernel_rfl) (by simp) ?_
  refine AllReadyH.cons (o := ({ dst := some 22, op := Op.call { callee := Callee.value (Operand.func 72), args := #[Operand.tmp 20, Operand.tmp 21], argTypes := #[22, 32] }, type := 22, pos := "bytes.go:103", after := #[{ on := 17, ground := Ground.data }, { on := 18, ground := Ground.data }, { on := 16, ground := Ground.chain }], guard := none } : Oper)) rfl (fun K hK => ?_) AllReadyH.nil
  go_simp
  refine (mustB_yes _ _ _ _).mono ?_
  rintro e7 w7 ⟨rfl, rfl⟩
  go_wp2_with fail
  refine hK.out _ _ (⟨HK6.out.at_ (i := 0) rfl, HK6.out.at_ (i := 1) rfl, HK6.out.at_ (i := 2) rfl, HK6.out.at_ (i := 3) rfl, HK6.out.at_ (i := 4) rfl, HK6.out.at_ (i := 5) rfl, HK6.out.at_ (i := 6) rfl⟩) (fun hHeld => ?_)
  clear hK K
  try simp only [Act.put, List.setIfInBounds_toArray, List.set_cons_zero, List.set_cons_succ]
  refine wpAnyH_take (i := 20) (oi := ({ dst := some 2, op := Op.assign (Operand.tmp 22), type := 22, pos := "bytes.go:103", after := #[{ on := 19, ground := Ground.data }, { on := 19, ground := Ground.chain }, { on := 0, ground := Ground.phase }, { on := 1, ground := Ground.phase }, { on := 2, ground := Ground.phase }, { on := 3, ground := Ground.phase }, { on := 4, ground := Ground.phase }, { on := 5, ground := Ground.phase }, { on := 6, ground := Ground.phase }, { on := 7, ground := Ground.phase }, { on := 8, ground := Ground.phase }, { on := 9, ground := Ground.phase }, { on := 10, ground := Ground.phase }, { on := 11, ground := Ground.phase }, { on := 12, ground := Ground.phase }, { on := 13, ground := Ground.phase }, { on := 14, ground := Ground.phase }, { on := 15, ground := Ground.phase }, { on := 16, ground := Ground.phase }, { on := 17, ground := Ground.phase }, { on := 18, ground := Ground.phase }, { on := 19, ground := Ground.phase }], guard := none } : Oper)) (v := ?_) rfl (by kernel_rfl) (by kernel_rfl) (by kernel_rfl) (fun _ _ _ h => h) (Or.inl ⟨by rfl, ?_⟩) (by assumption) ?_
  rotate_left
  · intro w hSw; (try dsimp only at hSw); go_simp; first | done | with_reducible rfl
  try simp only [Act.put, List.setIfInBounds_toArray, List.set_cons_zero, List.set_cons_succ]
  refine wpAnyH_done (by kernel_rfl) ?_ _
  go_wp2_with fail
  go_ret
  exact ⟨HB6.out, .inl ⟨lr, by unfold Pv.pack; rw [HLV.out]; exact HLR.out, A6, n6, c6, rfl, HO6.out⟩⟩

theorem packListP_any (A : Option Addr) (c : Nat) (ls : List Pv) (F : Nat → Prop) (w : World) (h : RdS RPv F w A c ls) (hok : ls.length ≤ 8 ∧ ∀ l ∈ ls, l.ok = true) :
    Calls Try.prog 111 #[.slice A ls.length c, .func (.func 112) #[] #[]] w (Pk (pvsPack ls) w) := by
  obtain ⟨i0, hi, hz0, hz1, hz2⟩ := info_parts info_bytes
  have HR := Lib.hid h
  have HOK := Lib.hid hok.2
  have hn := hok.1
  clear h hok
  go_enter Try.func111, Try.ntmps111
  go_wp2_with fail
  go_loopw [5, 10] (fun s i wr => ∃ (A' : Option Addr) (n' c' k : Nat) (acc : List (List UInt8)), k ≤ ls.length ∧ s = .slice A' n' c' ∧ i = .int .i64 k ∧ OwnRs wr w.heap.size A' n' c' acc ∧ allX Pv.pack (ls.take k) = some acc ∧ Below w.heap.size w wr) (fun _ i _ => ls.length - (intOf i).toNat)
  case atStart => exact ⟨none, 0, 0, 0, [], by omega, rfl, rfl, OwnRs.nil_ _ _, rfl, Below.refl _ _⟩
  case round =>
    obtain ⟨A', n', c', k, acc, hk, rfl, rfl, ho, ha, hb⟩ := hrel
    have hal := allX_len ha
    have hol := ho.1
    rw [List.length_take] at hal
    obtain rfl : n' = k := by omega
    by_cases hlt : n' < ls.length
    · obtain ⟨l, hl⟩ : ∃ l, ls[n']? = some l := ⟨_, List.getElem?_eq_getElem hlt⟩
      obtain ⟨x, B, d, C, q, rfl, hxb, c0, c1, c2, c3, c4, c5, c6, hr⟩ := (HR.out.below hb).pv7 hl
      have hmem : l ∈ ls := by obtain ⟨hh, rfl⟩ := List.getElem?_eq_some_iff.1 hl; exact List.getElem_mem hh
      have HSN := Lib.hid (show ls.take (n' + 1) = ls.take n' ++ [l] by obtain ⟨hh, rfl⟩ := List.getElem?_eq_some_iff.1 hl; exact List.take_succ_eq_append_getElem hh)
      have HM := Lib.hid hmem
      have b1 := hb.alloc hb.size (.cells #[.int .i64 l.seq, .int .i64 l.view, .int .i64 l.e.c, .int .i64 l.e.s, .int .i64 l.e.t, .slice B l.e.dig.length d, .slice C l.votes.length q] 62)
      have HB1 := Lib.hid b1
      have HO1 := Lib.hid (ho.below ((Below.refl _ _).alloc (Nat.le_refl _) (.cells #[.int .i64 l.seq, .int .i64 l.view, .int .i64 l.e.c, .int .i64 l.e.s, .int .i64 l.e.t, .slice B l.e.dig.length d, .slice C l.votes.length q] 62)))
      have HA := Lib.hid ha
      have HC := Lib.hid (packProven_any l B d C q F _ (hr.1.below ((Below.refl wr.heap.size wr).alloc (Nat.le_refl _) (.cells #[.int .i64 l.seq, .int .i64 l.view, .int .i64 l.e.c, .int .i64 l.e.s, .int .i64 l.e.t, .slice B l.e.dig.length d, .slice C l.votes.length q] 62))) (hr.2.below ((Below.refl wr.heap.size wr).alloc (Nat.le_refl _) (.cells #[.int .i64 l.seq, .int .i64 l.view, .int .i64 l.e.c, .int .i64 l.e.s, .int .i64 l.e.t, .slice B l.e.dig.length d, .slice C l.votes.length q] 62))) (HOK.out l hmem))
      have y1 : (0 : Int) ≤ (n' : Int) := by omega
      have y2 : (n' : Int) < (ls.length : Int) := by omega
      clear hl b1 hb hr ho ha hmem hal hol
      go_wp2_with fail
      refine HC.out.mono ?_
      rintro e w1 ⟨hb1, ⟨b, hbk, A1, n1, c1, rfl, ho1⟩ | ⟨hbk, rfl⟩⟩
      · have hn1 : b.length = n1 := OwnB.len ho1
        subst hn1
        have HB2 := Lib.hid (below_next HB1.out hb1 HB1.out.size)
        have hs2 := HB2.out.size
        have hs1 := HB1.out.size
        obtain ⟨hl0, us, hou, hin⟩ := HO1.out.below hb1
        have HL := Lib.hid hl0
        have HIN := Lib.hid hin
        have HBK := Lib.hid hbk
        have HOB := Lib.hid (own_base ho1 hs1)
        clear hl0 hin hb1 hbk ho1
        go_wp2_with (at_builtin
                     refine wpList_append_rd _ rfl _ _ 44 rfl w.heap.size 22 i0 _ 24 Try.underlying44 hi hz0 hz1 hz2 rfl A' n' c' us rfl (World.ownsRow.alloc hou _) (some ⟨w1.heap.size, 0, none⟩) 1 1 [.slice A1 b.length c1] rfl
                       (Rd.new w1 [Value.slice A1 b.length c1] 22) (by simp [Value.oneCell']) (by simp only [maxLen]; omega) (by omega) (by simp; omega) ?_
                     intro A2 c2 w2 hown2 hg2 hrow2)
        go_roundw
        case rel =>
          refine ⟨A2, n' + 1, c2, n' + 1, acc ++ [b], by omega, rfl, by go_num, ?_, by rw [HSN.out]; exact allX_snoc HA.out HBK.out, ?_⟩
          · exact OwnRs.push (w := w1.alloc (.cells #[.slice A1 b.length c1] 22)) HL.out (World.ownsRow.alloc hou _) (fun k u l hu hl => by
              obtain ⟨A3, c3, e3, h3⟩ := HIN.out k u l hu hl
              exact ⟨A3, c3, e3, h3.alloc _⟩) (HOB.out.alloc _) hg2 hown2
          · have b2 := HB2.out.alloc HB2.out.size (.cells #[.slice A1 b.length c1] 22)
            exact b2.grown hg2 b2.size (fun g hg => (World.ownsRow.lt hou g hg).1)
        case measure => simp [intOf]; omega
      · refine ⟨rfl, below_next HB1.out hb1 HB1.out.size, .inr ⟨?_, rfl⟩⟩
        show packList Pv.pack ls = none
        unfold packList
        rw [allX_none HM.out hbk]
    · have e : ls.take n' = ls := List.take_of_length_le (by omega)
      rw [e] at ha
      have HP := Lib.hid (show pvsPack ls = joinX acc by show packList Pv.pack ls = _; unfold packList; rw [ha])
      have HT := Lib.hid (show total acc ≤ 68719476736 by
        have h1 := total_bound (N := 196635) (fun b hb => by obtain ⟨x, _, hx⟩ := allX_mem ha b hb; exact pv_pack_len hx)
        have h2 := allX_len ha
        omega)
      have HB := Lib.hid hb
      have HRR := Lib.hid ho.rd
      clear e ha hb ho hal hol
      go_wp2_with fail
      refine (joinX_any _ _ _ _ _ HRR.out HT.out).mono ?_
      rw [← HP.out]
      rintro e w1 ⟨hb1, ⟨b, hbk, A1, n1, c1, rfl, ho1⟩ | ⟨hbk, rfl⟩⟩
      · have HB2 := Lib.hid (below_next HB.out hb1 HB.out.size)
        have HBK := Lib.hid hbk
        have HO := Lib.hid (ho1.more HB.out.size)
        clear hb1 hbk ho1
        go_wp2_with fail
        refine (mustB_yes _ _ _ _).mono ?_
        rintro e w2 ⟨rfl, rfl⟩
        go_wp2_with fail
        go_ret
        exact ⟨HB2.out, .inl ⟨b, HBK.out, A1, n1, c1, rfl, HO.out⟩⟩
      · have HB2 := Lib.hid (below_next HB.out hb1 HB.out.size)
        have HBK := Lib.hid hbk
        clear hb1 hbk
        go_wp2_with fail
        refine (mustB_no _ 13 (by decide) _).mono ?_
        rintro e w2 ⟨rfl, rfl⟩
        exact ⟨rfl, HB2.out, .inr ⟨HBK.out, rfl⟩⟩
end Go.Proofs.Ytmgmmbgjmnklkaa
