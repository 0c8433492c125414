/-
  The reference's bytes of what is proven. A walk; no statement.
-/
import Derived.Test.YtmgmmbgjmnklkaaMsgRef6
namespace Go.Proofs.Ytmgmmbgjmnklkaa
set_option maxRecDepth 100000
open Go.RowKit
open Pk
set_option linter.unusedVariables false

theorem en_enc {e : En} (h : e.ok = true) : e.encode = (0, e.pack) := by unfold En.encode; rw [if_neg (by rw [h]; decide)]
theorem pv_ok9 {p : Pv} (h : p.ok = true) : wideB p.seq = true ∧ wideB p.view = true ∧ p.e.ok = true ∧ p.votes.length ≤ 64 ∧ ∀ l ∈ p.votes, l.ok = true := by
  unfold Pv.ok ltsOk at h
  simp only [Bool.and_eq_true, decide_eq_true_eq, List.all_eq_true] at h
  exact ⟨h.1, h.2.1, h.2.2.1, h.2.2.2.1, h.2.2.2.2⟩
theorem wide_lt {v : Int} (h : wideB v = true) : 0 ≤ v ∧ v < 1099511627776 := by unfold wideB at h; simpa using h

set_option maxRecDepth 100000 in
set_option maxHeartbeats 3200000 in
theorem refProven_any (A : Option Addr) (c : Nat) (ls : List Pv) (F : Nat → Prop) (w : World) (h : RdS RPv F w A c ls) (hok : ls.length ≤ 8 ∧ ∀ p ∈ ls, p.ok = true) :
    Calls Try.prog 43 #[.slice A ls.length c] w (EncP (encX (pvsPack ls)) w) := by
  obtain ⟨i0, hi, hz0, hz1, hz2⟩ := info_parts info_bytes
  have HR := Lib.hid h
  have HOK := Lib.hid hok.2
  have hn := hok.1
  have HE := Lib.hid (OwnRs.empty w)
  clear h hok
  go_enter Try.func43, Try.ntmps43
  go_wp2_with fail
  go_loopw [4, 5] (fun s i wr => ∃ (A' : Option Addr) (n' c' k : Nat) (acc : List (List UInt8)), k ≤ ls.length ∧ s = .slice A' n' c' ∧ i = .int .i64 k ∧ OwnRs wr w.heap.size A' n' c' acc ∧ allX Pv.pack (ls.take k) = some acc ∧ Below w.heap.size w wr) (fun _ i _ => ls.length - (intOf i).toNat)
  case atStart => exact ⟨_, 0, 0, 0, [], by omega, rfl, rfl, HE.out, rfl, (Below.refl _ _).alloc (Nat.le_refl _) _⟩
  case round =>
    obtain ⟨A', n', c', k, acc, hk, rfl, rfl, ho, ha, hb⟩ := hrel
    have hal := allX_len ha
    have hol := ho.1
    rw [List.length_take] at hal
    obtain rfl : n' = k := by omega
    by_cases hlt : n' < ls.length
    · obtain ⟨x, hl⟩ : ∃ x, ls[n']? = some x := ⟨_, List.getElem?_eq_getElem hlt⟩
      obtain ⟨a, B, d, C, q, rfl, hab, c0, c1, c2, c3, c4, c5, c6, he, hr⟩ := (HR.out.below hb).pv7 hl
      have hmem : x ∈ ls := by obtain ⟨hh, rfl⟩ := List.getElem?_eq_some_iff.1 hl; exact List.getElem_mem hh
      have HSN := Lib.hid (show ls.take (n' + 1) = ls.take n' ++ [x] by obtain ⟨hh, rfl⟩ := List.getElem?_eq_some_iff.1 hl; exact List.take_succ_eq_append_getElem hh)
      have hpo := pv_ok9 (HOK.out x hmem)
      have HM := Lib.hid hmem
      have HPO := Lib.hid hpo
      have HB0 := Lib.hid hb
      have HO := Lib.hid ho
      have HA := Lib.hid ha
      have HC := Lib.hid (refPacks_any C q x.votes F _ hr hpo.2.2.2)
      have HE0 := Lib.hid he
      have HC0 := Lib.hid c0
      have HC1 := Lib.hid c1
      have HCE := Lib.hid (And.intro c2 (And.intro c3 (And.intro c4 c5)))
      have y1 : (0 : Int) ≤ (n' : Int) := by omega
      have y2 : (n' : Int) < (ls.length : Int) := by omega
      clear hl hb hr ho ha hmem hal hol hpo he c0 c1 c2 c3 c4 c5
      go_wp2_with fail
      refine HC.out.mono ?_
      rintro e w1 ⟨hb1, A1, n1, c1, rfl, ho1⟩
      cases hbk : ltsPack x.votes with
      | none =>
        have HB1 := Lib.hid (below_next HB0.out hb1 HB0.out.size)
        have HF := Lib.hid (show encX (pvsPack ls) = (13, []) by
          show encX (packList Pv.pack ls) = _
          unfold packList
          rw [allX_none HM.out (by unfold Pv.pack; rw [hbk])]
          rfl)
        clear hb1 ho1 hbk c6
        simp only [encX]
        go_wp2_with fail
        go_ret2
        exact ⟨HB1.out, none, 0, 0, by rw [HF.out]; rfl, by rw [HF.out]; exact OwnB.nil_ _ _⟩
      | some v =>
        have ho1 : OwnB w1 wr.heap.size A1 n1 c1 v := by rw [hbk] at ho1; exact ho1
        have HB1 := Lib.hid (below_next HB0.out hb1 HB0.out.size)
        have HBK := Lib.hid hbk
        have HW1 := Lib.hid hb1
        have HO11 := Lib.hid ho1
        have g2 := kept_cell HCE.out.1 hb1
        have g3 := kept_cell HCE.out.2.1 hb1
        have g4 := kept_cell HCE.out.2.2.1 hb1
        have g5 := kept_cell HCE.out.2.2.2 hb1
        have HC2 := Lib.hid (refPackEntry_any x.e B d F w1 (HE0.out.below hb1))
        clear hb1 ho1 hbk c6
        simp only [encX]
        go_wp2_with fail
        refine HC2.out.mono ?_
        rw [en_enc HPO.out.2.2.1]
        rintro e w2 ⟨hb2, A2, n2, c2, rfl, ho2⟩
        have ho2 : OwnB w2 w1.heap.size A2 n2 c2 x.e.pack := ho2
        have HB2 := Lib.hid (below_next HB1.out hb2 HB1.out.size)
        have HW2 := Lib.hid hb2
        have HW12 := Lib.hid (show wr.heap.size ≤ w2.heap.size from Nat.le_trans HW1.out.size hb2.size)
        have HO21 := Lib.hid (HO11.out.below hb2)
        have HO22 := Lib.hid ho2
        have HSK := Lib.hid (show ∀ W', Below w2.heap.size w2 W' → W'.cell? (a.add (n' * 7)) = some (.int .i64 x.seq) ∧ W'.cell? ⟨(a.add (n' * 7)).block, (a.add (n' * 7)).off + 1, none⟩ = some (.int .i64 x.view) from fun W' hw => ⟨kept_cell (kept_cell (kept_cell HC0.out HW1.out) hb2) hw, kept_cell (kept_cell (kept_cell HC1.out HW1.out) hb2) hw⟩)
        have hw1 := wide_lt HPO.out.1
        have hw2 := wide_lt HPO.out.2.1
        have HNB := Lib.hid (pv_ok (HOK.out x HM.out)).1
        have HPK := Lib.hid (show x.pack = joinX [numsN [x.seq, x.view], x.e.pack, v] by unfold Pv.pack; rw [HBK.out])
        have HTA := Lib.hid (show total [numsN [x.seq, x.view], x.e.pack, v] ≤ 68719476736 by
          have h1 := numsN_len3 HNB.out (by simp)
          have h2 := joinX_len (en_join HPO.out.2.2.1)
          have h3 : v.length ≤ 64 * 65545 := by
            have hv := HBK.out
            unfold ltsPack packList at hv
            cases hr : allX Lt.pack x.votes with
            | none => rw [hr] at hv; cases hv
            | some rows =>
              rw [hr] at hv
              have h4 := joinX_len hv
              have h5 := allX_len hr
              have h6 := HPO.out.2.2.2.1
              have h7 : rows.length * 65545 ≤ 64 * 65545 := Nat.mul_le_mul_right _ (by omega)
              exact Nat.le_trans h4 h7
          simp only [List.length_cons, List.length_nil] at h2
          simp only [total]
          omega)
        clear hb2 ho2 hw1 hw2 g2 g3 g4 g5
        dsimp only
        go_wp2_with fail
        refine wp_region_held_drew (S := fun w' => w'.cell? (a.add (n' * 7)) = some (.int .i64 x.seq) ∧ w'.cell? ⟨(a.add (n' * 7)).block, (a.add (n' * 7)).off + 1, none⟩ = some (.int .i64 x.view)) (by kernel_rfl) (HSK.out _ (below_drew (Below.refl _ _))) (fun hHeld => ?_)
        refine wpAnyH_take (i := 0) (oi := ({ dst := some 40, op := Op.move (Operand.tmp 0), type := 26, pos := "ref.go:126", after := #[], guard := none } : Oper)) (v := ?_) rfl (by kernel_rfl) (by kernel_rfl) (by kernel_rfl) (fun _ _ _ h => h) (Or.inl ⟨by rfl, ?_⟩) (by assumption) ?_
        rotate_left
        · intro w hSw; (try dsimp only at hSw); go_simp; first | done | with_reducible rfl
        try simp only [Act.put, List.setIfInBounds_toArray, List.set_cons_zero, List.set_cons_succ]
        refine wpAnyH_take (i := 1) (oi := ({ dst := some 41, op := Op.move (Operand.tmp 5), type := 3, pos := "ref.go:126", after := #[], guard := none } : Oper)) (v := ?_) rfl (by kernel_rfl) (by kernel_rfl) (by kernel_rfl) (fun _ _ _ h => h) (Or.inl ⟨by rfl, ?_⟩) (by assumption) ?_
        rotate_left
        · intro w hSw; (try dsimp only at hSw); go_simp; first | done | with_reducible rfl
        try simp only [Act.put, List.setIfInBounds_toArray, List.set_cons_zero, List.set_cons_succ]
        refine wpAnyH_take (i := 2) (oi := ({ dst := some 42, op := Op.indexAddr 26 (Operand.tmp 40) (Operand.tmp 41), type := 0, pos := "ref.go:126", after := #[{ on := 0, ground := Ground.data }, { on := 1, ground := Ground.data }], guard := none } : Oper)) (v := ?_) rfl (by kernel_rfl) (by kernel_rfl) (by kernel_rfl) (fun _ _ _ h => h) (Or.inl ⟨by rfl, ?_⟩) (by assumption) ?_
        rotate_left
        · intro w hSw; (try dsimp only at hSw); go_simp; first | done | with_reducible rfl
        try simp only [Act.put, List.setIfInBounds_toArray, List.set_cons_zero, List.set_cons_succ]
        refine wpAnyH_take (i := 3) (oi := ({ dst := some 43, op := Op.fieldAddr 62 (Operand.tmp 42) 0, type := 0, pos := "ref.go:126", after := #[{ on := 2, ground := Ground.data }], guard := none } : Oper)) (v := ?_) rfl (by kernel_rfl) (by kernel_rfl) (by kernel_rfl) (fun _ _ _ h => h) (Or.inl ⟨by rfl, ?_⟩) (by assumption) ?_
        rotate_left
        · intro w hSw; (try dsimp only at hSw); go_simp; first | done | with_reducible rfl
        try simp only [Act.put, List.setIfInBounds_toArray, List.set_cons_zero, List.set_cons_succ]
        refine wpAnyH_take (i := 4) (oi := ({ dst := some 44, op := Op.load 3 (Operand.tmp 43), type := 3, pos := "ref.go:126", after := #[{ on := 3, ground := Ground.data }], guard := none } : Oper)) (v := ?_) rfl (by kernel_rfl) (by kernel_rfl) (by kernel_rfl) (fun _ _ _ h => h) (Or.inl ⟨by rfl, ?_⟩) (by assumption) ?_
        rotate_left
        · intro w hSw; (try dsimp only at hSw); go_simp; first | done | with_reducible rfl
        try simp only [Act.put, List.setIfInBounds_toArray, List.set_cons_zero, List.set_cons_succ]
        refine wpAnyH_take (i := 5) (oi := ({ dst := some 45, op := Op.move (Operand.tmp 0), type := 26, pos := "ref.go:126", after := #[], guard := none } : Oper)) (v := ?_) rfl (by kernel_rfl) (by kernel_rfl) (by kernel_rfl) (fun _ _ _ h => h) (Or.inl ⟨by rfl, ?_⟩) (by assumption) ?_
        rotate_left
        · intro w hSw; (try dsimp only at hSw); go_simp; first | done | with_reducible rfl
        try simp only [Act.put, List.setIfInBounds_toArray, List.set_cons_zero, List.set_cons_succ]
        refine wpAnyH_take (i := 6) (oi := ({ dst := some 46, op := Op.move (Operand.tmp 5), type := 3, pos := "ref.go:126", after := #[], guard := none } : Oper)) (v := ?_) rfl (by kernel_rfl) (by kernel_rfl) (by kernel_rfl) (fun _ _ _ h => h) (Or.inl ⟨by rfl, ?_⟩) (by assumption) ?_
        rotate_left
        · intro w hSw; (try dsimp only at hSw); go_simp; first | done | with_reducible rfl
        try simp only [Act.put, List.setIfInBounds_toArray, List.set_cons_zero, List.set_cons_succ]
        refine wpAnyH_take (i := 7) (oi := ({ dst := some 47, op := Op.indexAddr 26 (Operand.tmp 45) (Operand.tmp 46), type := 0, pos := "ref.go:126", after := #[{ on := 5, ground := Ground.data }, { on := 6, ground := Ground.data }], guard := none } : Oper)) (v := ?_) rfl (by kernel_rfl) (by kernel_rfl) (by kernel_rfl) (fun _ _ _ h => h) (Or.inl ⟨by rfl, ?_⟩) (by assumption) ?_
        rotate_left
        · intro w hSw; (try dsimp only at hSw); go_simp; first | done | with_reducible rfl
        try simp only [Act.put, List.setIfInBounds_toArray, List.set_cons_zero, List.set_cons_succ]
        refine wpAnyH_take (i := 8) (oi := ({ dst := some 48, op := Op.fieldAddr 62 (Operand.tmp 47) 1, type := 0, pos := "ref.go:126", after := #[{ on := 7, ground := Ground.data }], guard := none } : Oper)) (v := ?_) rfl (by kernel_rfl) (by kernel_rfl) (by kernel_rfl) (fun _ _ _ h => h) (Or.inl ⟨by rfl, ?_⟩) (by assumption) ?_
        rotate_left
        · intro w hSw; (try dsimp only at hSw); go_simp; first | done | with_reducible rfl
        try simp only [Act.put, List.setIfInBounds_toArray, List.set_cons_zero, List.set_cons_succ]
        refine wpAnyH_take (i := 9) (oi := ({ dst := some 49, op := Op.load 3 (Operand.tmp 48), type := 3, pos := "ref.go:126", after := #[{ on := 8, ground := Ground.data }], guard := none } : Oper)) (v := ?_) rfl (by kernel_rfl) (by kernel_rfl) (by kernel_rfl) (fun _ _ _ h => h) (Or.inl ⟨by rfl, ?_⟩) (by assumption) ?_
        rotate_left
        · intro w hSw; (try dsimp only at hSw); go_simp; first | done | with_reducible rfl
        try simp only [Act.put, List.setIfInBounds_toArray, List.set_cons_zero, List.set_cons_succ]
        refine wpAnyH_take (i := 12) (oi := ({ dst := some 52, op := Op.move (Operand.tmp 8), type := 22, pos := "ref.go:126", after := #[], guard := none } : Oper)) (v := ?_) rfl (by kernel_rfl) (by kernel_rfl) (by kernel_rfl) (fun _ _ _ h => h) (Or.inl ⟨by rfl, ?_⟩) (by assumption) ?_
        rotate_left
        · intro w hSw; (try dsimp only at hSw); go_simp; first | done | with_reducible rfl
        try simp only [Act.put, List.setIfInBounds_toArray, List.set_cons_zero, List.set_cons_succ]
        refine wpAnyH_take (i := 13) (oi := ({ dst := some 53, op := Op.move (Operand.tmp 6), type := 22, pos := "ref.go:126", after := #[], guard := none } : Oper)) (v := ?_) rfl (by kernel_rfl) (by kernel_rfl) (by kernel_rfl) (fun _ _ _ h => h) (Or.inl ⟨by rfl, ?_⟩) (by assumption) ?_
        rotate_left
        · intro w hSw; (try dsimp only at hSw); go_simp; first | done | with_reducible rfl
        try simp only [Act.put, List.setIfInBounds_toArray, List.set_cons_zero, List.set_cons_succ]
        refine wpAnyH_ready (rs := [10]) (by kernel_rfl) (by simp) ?_
        refine AllReadyH.cons (o := ({ dst := some 50, op := Op.buildSlice 70 2 #[(0, Operand.tmp 44), (1, Operand.tmp 49)], type := 70, pos := "ref.go:126", after := #[{ on := 4, ground := Ground.data }, { on := 9, ground := Ground.data }], guard := none } : Oper)) rfl (fun K hK => ?_) AllReadyH.nil
        go_simp
        refine hK.out _ _ (HSK.out _ (below_drew ((Below.refl _ _).alloc (Nat.le_refl _) (.cells #[.int .i64 x.seq, .int .i64 x.view] 3)))) (fun hHeld => ?_)
        clear hK K
        try simp only [Act.put, List.setIfInBounds_toArray, List.set_cons_zero, List.set_cons_succ]
        have hx1 := below_drew ((Below.refl w2.heap.size w2).alloc (Nat.le_refl _) (.cells #[.int .i64 x.seq, .int .i64 x.view] 3))
        have HB3 := Lib.hid (below_next HB2.out hx1 HB2.out.size)
        have HO31 := Lib.hid (HO21.out.below hx1)
        have HO32 := Lib.hid (HO22.out.below hx1)
        have HR3 := Lib.hid (show Rd (w2.alloc (.cells #[.int .i64 x.seq, .int .i64 x.view] 3)).drew (some ⟨w2.heap.size, 0, none⟩) 2 ([x.seq, x.view].map iv) from Rd.new w2 [.int .i64 x.seq, .int .i64 x.view] 3)
        have HX1 := Lib.hid hx1
        clear hx1
        refine wpAnyH_ready (rs := [11]) (by kernel_rfl) (by simp) ?_
        refine AllReadyH.cons (o := ({ dst := some 51, op := Op.call { callee := Callee.value (Operand.func 41), args := #[Operand.tmp 50], argTypes := #[70] }, type := 22, pos := "ref.go:126", after := #[{ on := 10, ground := Ground.data }], guard := none } : Oper)) rfl (fun K hK => ?_) AllReadyH.nil
        go_simp
        refine (refNumsB_any _ _ _ _ _ HR3.out (by omega) HNB.out).mono ?_
        rintro e w3 ⟨A3, n3, c3, rfl, ho3, hb3⟩
        have HB4 := Lib.hid (below_next HB3.out hb3 HB3.out.size)
        have HX3 := Lib.hid (below_next HX1.out hb3 HX1.out.size)
        have HW13 := Lib.hid (Nat.le_trans HW12.out HX3.out.size)
        have HO41 := Lib.hid (HO31.out.below hb3)
        have HO42 := Lib.hid (HO32.out.below hb3)
        have HO43 := Lib.hid ho3
        clear hb3 ho3
        go_wp2_with fail
        refine hK.out _ _ (HSK.out _ HX3.out) (fun hHeld => ?_)
        clear hK K
        try simp only [Act.put, List.setIfInBounds_toArray, List.set_cons_zero, List.set_cons_succ]
        refine wpAnyH_ready (rs := [14]) (by kernel_rfl) (by simp) ?_
        refine AllReadyH.cons (o := ({ dst := some 54, op := Op.buildSlice 44 3 #[(0, Operand.tmp 51), (1, Operand.tmp 52), (2, Operand.tmp 53)], type := 44, pos := "ref.go:126", after := #[{ on := 11, ground := Ground.data }, { on := 12, ground := Ground.data }, { on := 13, ground := Ground.data }], guard := none } : Oper)) rfl (fun K hK => ?_) AllReadyH.nil
        go_simp
        refine hK.out _ _ (HSK.out _ (HX3.out.alloc HX3.out.size (.cells #[.slice A3 n3 c3, .slice A2 n2 c2, .slice A1 n1 c1] 22))) (fun hHeld => ?_)
        clear hK K
        try simp only [Act.put, List.setIfInBounds_toArray, List.set_cons_zero, List.set_cons_succ]
        have HB5 := Lib.hid (HB4.out.alloc HB4.out.size (.cells #[.slice A3 n3 c3, .slice A2 n2 c2, .slice A1 n1 c1] 22))
        have HX5 := Lib.hid (HX3.out.alloc HX3.out.size (.cells #[.slice A3 n3 c3, .slice A2 n2 c2, .slice A1 n1 c1] 22))
        have HR5 := Lib.hid (rows_made3 w3 22 HO43.out.row HO42.out.row HO41.out.row)
        have HO5 := Lib.hid (HO.out.below (below_next (below_next (below_next HW1.out HW2.out HW1.out.size) HX3.out HW12.out) ((Below.refl _ _).alloc (Nat.le_refl _) (.cells #[.slice A3 n3 c3, .slice A2 n2 c2, .slice A1 n1 c1] 22)) HW13.out))
        refine wpAnyH_ready (rs := [15]) (by kernel_rfl) (by simp) ?_
        refine AllReadyH.cons (o := ({ dst := some 55, op := Op.call { callee := Callee.value (Operand.func 44), args := #[Operand.tmp 54], argTypes := #[44] }, type := 33, pos := "ref.go:126", after := #[{ on := 14, ground := Ground.data }, { on := 11, ground := Ground.chain }], guard := none } : Oper)) rfl (fun K hK => ?_) AllReadyH.nil
        go_simp
        refine (refJoinX_any _ _ _ _ _ HR5.out HTA.out).mono ?_
        rintro e w6 ⟨hb6, hj⟩
        obtain ⟨A6, n6, c6, k6, l6, rfl, ho6, hp6⟩ : ∃ A6 n6 c6 k6 l6, e = .returned (.tuple #[.slice A6 n6 c6, .int .i64 ((k6 : Nat) : Int)]) ∧ OwnB w6 (w3.alloc (.cells #[.slice A3 n3 c3, .slice A2 n2 c2, .slice A1 n1 c1] 22)).heap.size A6 n6 c6 l6 ∧ encX x.pack = (k6, l6) := by
          rcases hj with ⟨lr, hlr, A6, n6, c6, rfl, ho6⟩ | ⟨hlr, rfl⟩
          · exact ⟨A6, n6, c6, 0, lr, rfl, ho6, by rw [HPK.out, hlr]; rfl⟩
          · exact ⟨none, 0, 0, 13, [], rfl, OwnB.nil_ _ _, by rw [HPK.out, hlr]; rfl⟩
        have HB6 := Lib.hid (below_next HB5.out hb6 HB5.out.size)
        have HX6 := Lib.hid (below_next HX5.out hb6 HX5.out.size)
        have HO6 := Lib.hid (HO5.out.below hb6)
        have HO61 := Lib.hid (ho6.more HB5.out.size)
        have HEN := Lib.hid hp6
        clear hb6 ho6 hp6 hj
        go_wp2_with fail
        refine hK.out _ _ (HSK.out _ HX6.out) (fun hHeld => ?_)
        clear hK K
        try simp only [Act.put, List.setIfInBounds_toArray, List.set_cons_zero, List.set_cons_succ]
        refine wpAnyH_take (i := 16) (oi := ({ dst := some 39, op := Op.move (Operand.tmp 55), type := 33, pos := "ref.go:126", after := #[{ on := 15, ground := Ground.data }], guard := none } : Oper)) (v := ?_) rfl (by kernel_rfl) (by kernel_rfl) (by kernel_rfl) (fun _ _ _ h => h) (Or.inl ⟨by rfl, ?_⟩) (by assumption) ?_
        rotate_left
        · intro w hSw; (try dsimp only at hSw); go_simp; first | done | with_reducible rfl
        try simp only [Act.put, List.setIfInBounds_toArray, List.set_cons_zero, List.set_cons_succ]
        refine wpAnyH_take (i := 17) (oi := ({ dst := some 56, op := Op.extract (Operand.tmp 39) 0, type := 22, pos := "ref.go:126", after := #[{ on := 16, ground := Ground.data }], guard := none } : Oper)) (v := ?_) rfl (by kernel_rfl) (by kernel_rfl) (by kernel_rfl) (fun _ _ _ h => h) (Or.inl ⟨by rfl, ?_⟩) (by assumption) ?_
        rotate_left
        · intro w hSw; (try dsimp only at hSw); go_simp; first | done | with_reducible rfl
        try simp only [Act.put, List.setIfInBounds_toArray, List.set_cons_zero, List.set_cons_succ]
        refine wpAnyH_take (i := 18) (oi := ({ dst := some 57, op := Op.extract (Operand.tmp 39) 1, type := 32, pos := "ref.go:126", after := #[{ on := 16, ground := Ground.data }, { on := 19, ground := Ground.gcOnly Departure.lateStores }], guard := none } : Oper)) (v := ?_) rfl (by kernel_rfl) (by kernel_rfl) (by kernel_rfl) (fun _ _ _ h => h) (Or.inl ⟨by rfl, ?_⟩) (by assumption) ?_
        rotate_left
        · intro w hSw; (try dsimp only at hSw); go_simp; first | done | with_reducible rfl
        try simp only [Act.put, List.setIfInBounds_toArray, List.set_cons_zero, List.set_cons_succ]
        refine wpAnyH_take (i := 19) (oi := ({ dst := some 10, op := Op.assign (Operand.tmp 56), type := 22, pos := "ref.go:126", after := #[{ on := 17, ground := Ground.data }, { on := 15, ground := Ground.chain }, { on := 0, ground := Ground.phase }, { on := 1, ground := Ground.phase }, { on := 2, ground := Ground.phase }, { on := 3, ground := Ground.phase }, { on := 4, ground := Ground.phase }, { on := 5, ground := Ground.phase }, { on := 6, ground := Ground.phase }, { on := 7, ground := Ground.phase }, { on := 8, ground := Ground.phase }, { on := 9, ground := Ground.phase }, { on := 10, ground := Ground.phase }, { on := 11, ground := Ground.phase }, { on := 12, ground := Ground.phase }, { on := 13, ground := Ground.phase }, { on := 14, ground := Ground.phase }, { on := 15, ground := Ground.phase }, { on := 16, ground := Ground.phase }, { on := 17, ground := Ground.phase }, { on := 18, ground := Ground.textOnly Departure.lateStores }], guard := none } : Oper)) (v := ?_) rfl (by kernel_rfl) (by kernel_rfl) (by kernel_rfl) (fun _ _ _ h => h) (Or.inl ⟨by rfl, ?_⟩) (by assumption) ?_
        rotate_left
        · intro w hSw; (try dsimp only at hSw); go_simp; first | done | with_reducible rfl
        try simp only [Act.put, List.setIfInBounds_toArray, List.set_cons_zero, List.set_cons_succ]
        refine wpAnyH_take (i := 20) (oi := ({ dst := some 7, op := Op.assign (Operand.tmp 57), type := 32, pos := "ref.go:126", after := #[{ on := 18, ground := Ground.data }, { on := 19, ground := Ground.chain }, { on := 0, ground := Ground.phase }, { on := 1, ground := Ground.phase }, { on := 2, ground := Ground.phase }, { on := 3, ground := Ground.phase }, { on := 4, ground := Ground.phase }, { on := 5, ground := Ground.phase }, { on := 6, ground := Ground.phase }, { on := 7, ground := Ground.phase }, { on := 8, ground := Ground.phase }, { on := 9, ground := Ground.phase }, { on := 10, ground := Ground.phase }, { on := 11, ground := Ground.phase }, { on := 12, ground := Ground.phase }, { on := 13, ground := Ground.phase }, { on := 14, ground := Ground.phase }, { on := 15, ground := Ground.phase }, { on := 16, ground := Ground.phase }, { on := 17, ground := Ground.phase }, { on := 18, ground := Ground.phase }, { on := 19, ground := Ground.phase }], guard := none } : Oper)) (v := ?_) rfl (by kernel_rfl) (by kernel_rfl) (by kernel_rfl) (fun _ _ _ h => h) (Or.inl ⟨by rfl, ?_⟩) (by assumption) ?_
        rotate_left
        · intro w hSw; (try dsimp only at hSw); go_simp; first | done | with_reducible rfl
        try simp only [Act.put, List.setIfInBounds_toArray, List.set_cons_zero, List.set_cons_succ]
        refine wpAnyH_done (by kernel_rfl) ?_ _
        have HX26 := Lib.hid (below_next (below_next HW1.out HW2.out HW1.out.size) HX6.out HW12.out)
        cases hpk : x.pack with
        | none =>
          have HF := Lib.hid (show encX (pvsPack ls) = (13, []) by
            show encX (packList Pv.pack ls) = _
            unfold packList
            rw [allX_none HM.out hpk]
            rfl)
          obtain ⟨rfl, rfl⟩ : k6 = 13 ∧ l6 = [] := by have := HEN.out; rw [hpk] at this; injection this with h1 h2; exact ⟨h1.symm, h2.symm⟩
          clear hpk
          go_wp2_with fail
          go_ret2
          exact ⟨HB6.out, none, 0, 0, by rw [HF.out]; rfl, by rw [HF.out]; exact OwnB.nil_ _ _⟩
        | some b =>
          obtain ⟨rfl, rfl⟩ : k6 = 0 ∧ l6 = b := by have := HEN.out; rw [hpk] at this; injection this with h1 h2; exact ⟨h1.symm, h2.symm⟩
          have HBK2 := Lib.hid hpk
          have hn1 : l6.length = n6 := OwnB.len HO61.out
          subst hn1
          have hs6 := HB6.out.size
          obtain ⟨hl0, us, hou, hin⟩ := HO6.out
          have HL := Lib.hid hl0
          have HIN := Lib.hid hin
          clear hl0 hin hpk
          go_wp2_with (at_builtin
                       refine wpList_append_rd _ rfl _ _ 44 rfl w.heap.size 22 i0 _ 24 Try.underlying44 hi hz0 hz1 hz2 rfl A' n' c' us rfl (World.ownsRow.alloc hou _) (some ⟨w6.heap.size, 0, none⟩) 1 1 [.slice A6 l6.length c6] rfl
                         (Rd.new w6 [Value.slice A6 l6.length c6] 22) (by simp [Value.oneCell']) (by simp only [maxLen]; omega) (by omega) (by simp; omega) ?_
                       intro A7 c7 w7 hown2 hg2 hrow2)
          go_roundw
          case rel =>
            refine ⟨A7, n' + 1, c7, n' + 1, acc ++ [l6], by omega, rfl, by go_num, ?_, by rw [HSN.out]; exact allX_snoc HA.out HBK2.out, ?_⟩
            · exact OwnRs.push (w := w6.alloc (.cells #[.slice A6 l6.length c6] 22)) HL.out (World.ownsRow.alloc hou _) (fun k u l hu hl => by
                obtain ⟨A3, c3, e3, h3⟩ := HIN.out k u l hu hl
                exact ⟨A3, c3, e3, h3.alloc _⟩) (HO61.out.alloc _) hg2 hown2
            · have b2 := HB6.out.alloc HB6.out.size (.cells #[.slice A6 l6.length c6] 22)
              exact b2.grown hg2 b2.size (fun g hg => (World.ownsRow.lt hou g hg).1)
          case measure => simp [intOf]; omega
    · have e : ls.take n' = ls := List.take_of_length_le (by omega)
      rw [e] at ha
      have HP := Lib.hid (show pvsPack ls = joinX acc by show packList Pv.pack ls = _; unfold packList; rw [ha])
      have HT := Lib.hid (show total acc ≤ 68719476736 by
        have h1 := total_bound (N := 196635) (fun b hb => by obtain ⟨x, _, hx⟩ := allX_mem ha b hb; exact pv_pack_len hx)
        have h2 := allX_len ha
        omega)
      have HB := Lib.hid hb
      have HRR := Lib.hid ho.rd
      clear e ha hb ho hal hol
      go_wp2_with fail
      refine (refJoinX_any _ _ _ _ _ HRR.out HT.out).mono ?_
      rw [← HP.out]
      rintro e w1 ⟨hb1, ⟨b, hbk, A1, n1, c1, rfl, ho1⟩ | ⟨hbk, rfl⟩⟩
      · have HB2 := Lib.hid (below_next HB.out hb1 HB.out.size)
        have HBK := Lib.hid hbk
        have HO := Lib.hid (ho1.more HB.out.size)
        clear hb1 hbk ho1
        go_wp2_with fail
        go_ret2
        exact ⟨HB2.out, A1, n1, c1, by rw [HBK.out]; rfl, by rw [HBK.out]; exact HO.out⟩
      · have HB2 := Lib.hid (below_next HB.out hb1 HB.out.size)
        have HBK := Lib.hid hbk
        clear hb1 hbk
        go_wp2_with fail
        go_ret2
        exact ⟨HB2.out, none, 0, 0, by rw [HBK.out]; rfl, by rw [HBK.out]; exact OwnB.nil_ _ _⟩
end Go.Proofs.Ytmgmmbgjmnklkaa
