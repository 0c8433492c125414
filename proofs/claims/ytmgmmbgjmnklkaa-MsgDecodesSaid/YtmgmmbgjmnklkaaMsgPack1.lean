/-
  The program's bytes of entries, letters, and what is proven. Walks; no statement.
-/
import Derived.Test.YtmgmmbgjmnklkaaMsgChk5
import Derived.Test.YtmgmmbgjmnklkaaJoin
import Derived.Test.YtmgmmbgjmnklkaaMInts
import Derived.Deep.RegionHeld3
namespace Go.Proofs.Ytmgmmbgjmnklkaa
set_option maxRecDepth 100000
open Go.RowKit
open Pk
set_option linter.unusedVariables false

/-- new bytes came back, if there are such; else a panic -/
def Pk (r : Option (List UInt8)) (w : World) (e : Ending) (w' : World) : Prop :=
  Below w.heap.size w w' ∧ ((∃ l, r = some l ∧ ∃ A n c, e = .returned (.slice A n c) ∧ OwnB w' w.heap.size A n c l) ∨ (r = none ∧ e = Pn 13))
theorem joinX_len {ls : List (List UInt8)} {b : List UInt8} (h : joinX ls = some b) : b.length ≤ ls.length * 65545 := by
  unfold joinX at h
  split at h
  · cases h
  · rename_i hb
    injection h with h
    subst h
    unfold joinBad at hb
    simp only [Bool.or_eq_true, not_or] at hb
    have hl : longField ls = false := by simpa using hb.2
    clear hb
    unfold longField at hl
    rw [List.any_eq_false] at hl
    induction ls with
    | nil => simp [joinN]
    | cons x r ih =>
      have hx := hl x (List.mem_cons_self ..)
      simp only [decide_eq_true_eq, Nat.not_lt] at hx
      have := ih (fun y hy => hl y (List.mem_cons_of_mem _ hy))
      have := encN_len9 (v := x.length) (by omega)
      simp only [joinN, List.length_append, List.length_cons]
      omega
/-- Join's answer, by joinX -/
def JoinXP (r : Option (List UInt8)) (w : World) (e : Ending) (w' : World) : Prop :=
  Below w.heap.size w w' ∧ ((∃ l, r = some l ∧ ∃ A n c, e = .returned (.tuple #[.slice A n c, .int .i64 0]) ∧ OwnB w' w.heap.size A n c l) ∨ (r = none ∧ e = .returned (.tuple #[.slice none 0 0, .int .i64 13])))
theorem JoinPost.x {ls : List (List UInt8)} {w : World} {e : Ending} {w' : World} (h : JoinPost ls w e w') : JoinXP (joinX ls) w e w' := by
  obtain ⟨hb, ⟨hj, rfl⟩ | ⟨hj, A, n, c, rfl, ho⟩⟩ := h
  · exact ⟨hb, .inr ⟨by unfold joinX; rw [hj]; rfl, rfl⟩⟩
  · exact ⟨hb, .inl ⟨_, by unfold joinX; rw [hj]; rfl, A, n, c, rfl, ho⟩⟩
theorem joinX_any (A : Option Addr) (n c : Nat) (ls : List (List UInt8)) (w : World) (h : RdRows w A n ls) (ht : total ls ≤ 68719476736) : Calls Try.prog 75 #[.slice A n c] w (JoinXP (joinX ls) w) :=
  (join_any A n c ls w h ht).mono fun _ _ h => h.x
/-- Nums' answer, where no number is refused -/
def NumsOk (l : List Int) (w : World) (e : Ending) (w' : World) : Prop := Below w.heap.size w w' ∧ ∃ A n c, e = .returned (.tuple #[.slice A n c, .int .i64 0]) ∧ OwnB w' w.heap.size A n c (numsN l)
theorem nums_ok (A : Option Addr) (n c : Nat) (l : List Int) (w : World) (h : Rd w A n (l.map iv)) (hn : n ≤ 4294967296) (hb : numsBad l = false) : Calls Try.prog 97 #[.slice A n c] w (NumsOk l w) :=
  (nums_any A n c l w h hn).mono fun _ _ ⟨hb', h⟩ => by
    rcases h with ⟨h, _⟩ | ⟨_, h⟩
    · rw [hb] at h; cases h
    · exact ⟨hb', h⟩
/-- a row of slices that was just laid -/
theorem rows_made (W : World) (t : TypeId) (vs : List Value) (ls : List (List UInt8)) (hl : vs.length = ls.length) (h : ∀ (k : Nat) (u : Value) (l : List UInt8), vs[k]? = some u → ls[k]? = some l → RowV W u l) :
    RdRows (W.alloc (.cells vs.toArray t)) (some ⟨W.heap.size, 0, none⟩) ls.length ls := by
  refine ⟨rfl, vs, ?_, fun k u l hu hx => (h k u l hu hx).keep ((Below.refl _ _).alloc (Nat.le_refl _) _)⟩
  have := Rd.new W vs t
  rwa [hl] at this
theorem rows_made2 (W : World) (t : TypeId) {v1 v2 : Value} {l1 l2 : List UInt8} (h1 : RowV W v1 l1) (h2 : RowV W v2 l2) : RdRows (W.alloc (.cells #[v1, v2] t)) (some ⟨W.heap.size, 0, none⟩) 2 [l1, l2] :=
  rows_made W t [v1, v2] [l1, l2] rfl fun k u l hu hl => by
    match k, hu, hl with
    | 0, hu, hl => injection hu with hu; injection hl with hl; subst hu hl; exact h1
    | 1, hu, hl => injection hu with hu; injection hl with hl; subst hu hl; exact h2
theorem rows_made3 (W : World) (t : TypeId) {v1 v2 v3 : Value} {l1 l2 l3 : List UInt8} (h1 : RowV W v1 l1) (h2 : RowV W v2 l2) (h3 : RowV W v3 l3) : RdRows (W.alloc (.cells #[v1, v2, v3] t)) (some ⟨W.heap.size, 0, none⟩) 3 [l1, l2, l3] :=
  rows_made W t [v1, v2, v3] [l1, l2, l3] rfl fun k u l hu hl => by
    match k, hu, hl with
    | 0, hu, hl => injection hu with hu; injection hl with hl; subst hu hl; exact h1
    | 1, hu, hl => injection hu with hu; injection hl with hl; subst hu hl; exact h2
    | 2, hu, hl => injection hu with hu; injection hl with hl; subst hu hl; exact h3
theorem BF.row {F : Nat → Prop} {w : World} {A : Option Addr} {c : Nat} {l : List UInt8} (h : BF F w A c l) : RowV w (.slice A l.length c) l := h.sl.row
theorem OwnB.row {w : World} {base : Nat} {A : Option Addr} {n c : Nat} {l : List UInt8} (h : OwnB w base A n c l) : RowV w (.slice A n c) l := (Sl.own h).row
theorem numsN_len3 {l : List Int} (h : numsBad l = false) (h3 : l.length ≤ 3) : (numsN l).length ≤ 27 := by have := numsN_len h; omega
/-- what a right letter has -/
theorem tags_total {ts : List (List UInt8)} (h : tagsOk ts = true) : total ts ≤ 1088 := by
  unfold tagsOk at h
  simp only [Bool.and_eq_true, decide_eq_true_eq] at h
  have : ∀ l : List (List UInt8), (l.all fun t => decide (t.length ≤ 16)) = true → total l ≤ 17 * l.length := by
    intro l
    induction l with
    | nil => intro _; simp [total]
    | cons x r ih =>
      intro hx
      simp only [List.all_cons, Bool.and_eq_true, decide_eq_true_eq] at hx
      have := ih hx.2
      simp only [total, List.length_cons]
      omega
  have := this ts h.2
  omega
theorem lt_ok {l : Lt} (h : l.ok = true) : numsBad [l.f1, l.f2, l.r] = false ∧ l.body.length ≤ 65536 ∧ total l.tags ≤ 1088 := by
  unfold Lt.ok roleB at h
  simp only [Bool.and_eq_true, decide_eq_true_eq] at h
  refine ⟨?_, h.2.2.2.1, tags_total h.2.2.2.2⟩
  simp [numsBad]
  omega

theorem packLetter_any (l : Lt) (A : Option Addr) (c : Nat) (B : Option Addr) (d : Nat) (F : Nat → Prop) (w : World) (h : LtR F w l A c B d) (hok : l.ok = true) :
    Calls Try.prog 55 #[.agg #[.int .i64 l.f1, .int .i64 l.f2, .int .i64 l.r, .slice A l.body.length c, .slice B l.tags.length d]] w (Pk l.pack w) := by
  have hB := (Below.refl w.heap.size w).alloc (Nat.le_refl _) (.cells #[.int .i64 l.f1, .int .i64 l.f2, .int .i64 l.r, .slice A l.body.length c, .slice B l.tags.length d] 46)
  have HB := Lib.hid hB
  have HK := Lib.hid (Bk.new w 46 [.int .i64 l.f1, .int .i64 l.f2, .int .i64 l.r, .slice A l.body.length c, .slice B l.tags.length d])
  have HL := Lib.hid (h.below hB)
  have hsz := lt_ok hok
  have HNB := Lib.hid hsz.1
  have HTT := Lib.hid (show total l.tags ≤ 68719476736 by have := hsz.2.2; omega)
  have HTA := Lib.hid (show ∀ t, joinX l.tags = some t → total [numsN [l.f1, l.f2, l.r], l.body, t] ≤ 68719476736 by
    intro t ht
    have h1 := joinX_len ht
    have h2 := total_len l.tags
    have h3 := numsN_len3 hsz.1 (by simp)
    have h4 := hsz.2.1
    have h5 := hsz.2.2
    simp only [total]
    omega)
  clear h hB hsz hok
  go_enter Try.func55, Try.ntmps55
  go_wp2_with fail
  obtain ⟨X, hX⟩ : ∃ X, X = w.alloc (.cells #[.int .i64 l.f1, .int .i64 l.f2, .int .i64 l.r, .slice A l.body.length c, .slice B l.tags.length d] 46) := ⟨_, rfl⟩
  rw [← hX] at HB HK HL ⊢
  clear hX
  refine wp_region_held_drew (S := fun w' => w'.cell? ⟨w.heap.size, 0, none⟩ = some (.int .i64 l.f1) ∧ w'.cell? ⟨w.heap.size, 1, none⟩ = some (.int .i64 l.f2) ∧ w'.cell? ⟨w.heap.size, 2, none⟩ = some (.int .i64 l.r) ∧ w'.cell? ⟨w.heap.size, 3, none⟩ = some (.slice A l.body.length c) ∧ w'.cell? ⟨w.heap.size, 4, none⟩ = some (.slice B l.tags.length d)) (by kernel_rfl) ((bk_drew HK.out).five) (fun hHeld => ?_)
  refine wpAnyH_take (i := 0) (oi := ({ dst := some 3, op := Op.fieldAddr 46 (Operand.tmp 1) 0, type := 0, pos := "bytes.go:90", after := #[], guard := none } : Oper)) (v := ?_) rfl (by kernel_rfl) (by kernel_rfl) (by kernel_rfl) (fun _ _ _ h => h) (Or.inl ⟨by rfl, ?_⟩) (by assumption) ?_
  rotate_left
  · intro w hSw; (try dsimp only at hSw); go_simp; first | done | with_reducible rfl
  try simp only [Act.put, List.setIfInBounds_toArray, List.set_cons_zero, List.set_cons_succ]
  refine wpAnyH_take (i := 1) (oi := ({ dst := some 4, op := Op.fieldAddr 43 (Operand.tmp 3) 0, type := 0, pos := "bytes.go:90", after := #[{ on := 0, ground := Ground.data }], guard := none } : Oper)) (v := ?_) rfl (by kernel_rfl) (by kernel_rfl) (by kernel_rfl) (fun _ _ _ h => h) (Or.inl ⟨by rfl, ?_⟩) (by assumption) ?_
  rotate_left
  · intro w hSw; (try dsimp only at hSw); go_simp; first | done | with_reducible rfl
  try simp only [Act.put, List.setIfInBounds_toArray, List.set_cons_zero, List.set_cons_succ]
  refine wpAnyH_take (i := 2) (oi := ({ dst := some 5, op := Op.load 3 (Operand.tmp 4), type := 3, pos := "bytes.go:90", after := #[{ on := 1, ground := Ground.data }], guard := none } : Oper)) (v := ?_) rfl (by kernel_rfl) (by kernel_rfl) (by kernel_rfl) (fun _ _ _ h => h) (Or.inl ⟨by rfl, ?_⟩) (by assumption) ?_
  rotate_left
  · intro w hSw; (try dsimp only at hSw); go_simp; first | done | with_reducible rfl
  try simp only [Act.put, List.setIfInBounds_toArray, List.set_cons_zero, List.set_cons_succ]
  refine wpAnyH_take (i := 3) (oi := ({ dst := some 6, op := Op.fieldAddr 46 (Operand.tmp 1) 0, type := 0, pos := "bytes.go:90", after := #[], guard := none } : Oper)) (v := ?_) rfl (by kernel_rfl) (by kernel_rfl) (by kernel_rfl) (fun _ _ _ h => h) (Or.inl ⟨by rfl, ?_⟩) (by assumption) ?_
  rotate_left
  · intro w hSw; (try dsimp only at hSw); go_simp; first | done | with_reducible rfl
  try simp only [Act.put, List.setIfInBounds_toArray, List.set_cons_zero, List.set_cons_succ]
  refine wpAnyH_take (i := 4) (oi := ({ dst := some 7, op := Op.fieldAddr 43 (Operand.tmp 6) 1, type := 0, pos := "bytes.go:90", after := #[{ on := 3, ground := Ground.data }], guard := none } : Oper)) (v := ?_) rfl (by kernel_rfl) (by kernel_rfl) (by kernel_rfl) (fun _ _ _ h => h) (Or.inl ⟨by rfl, ?_⟩) (by assumption) ?_
  rotate_left
  · intro w hSw; (try dsimp only at hSw); go_simp; first | done | with_reducible rfl
  try simp only [Act.put, List.setIfInBounds_toArray, List.set_cons_zero, List.set_cons_succ]
  refine wpAnyH_take (i := 5) (oi := ({ dst := some 8, op := Op.load 3 (Operand.tmp 7), type := 3, pos := "bytes.go:90", after := #[{ on := 4, ground := Ground.data }], guard := none } : Oper)) (v := ?_) rfl (by kernel_rfl) (by kernel_rfl) (by kernel_rfl) (fun _ _ _ h => h) (Or.inl ⟨by rfl, ?_⟩) (by assumption) ?_
  rotate_left
  · intro w hSw; (try dsimp only at hSw); go_simp; first | done | with_reducible rfl
  try simp only [Act.put, List.setIfInBounds_toArray, List.set_cons_zero, List.set_cons_succ]
  refine wpAnyH_take (i := 6) (oi := ({ dst := some 9, op := Op.fieldAddr 46 (Operand.tmp 1) 1, type := 0, pos := "bytes.go:90", after := #[], guard := none } : Oper)) (v := ?_) rfl (by kernel_rfl) (by kernel_rfl) (by kernel_rfl) (fun _ _ _ h => h) (Or.inl ⟨by rfl, ?_⟩) (by assumption) ?_
  rotate_left
  · intro w hSw; (try dsimp only at hSw); go_simp; first | done | with_reducible rfl
  try simp only [Act.put, List.setIfInBounds_toArray, List.set_cons_zero, List.set_cons_succ]
  refine wpAnyH_take (i := 7) (oi := ({ dst := some 10, op := Op.load 3 (Operand.tmp 9), type := 3, pos := "bytes.go:90", after := #[{ on := 6, ground := Ground.data }], guard := none } : Oper)) (v := ?_) rfl (by kernel_rfl) (by kernel_rfl) (by kernel_rfl) (fun _ _ _ h => h) (Or.inl ⟨by rfl, ?_⟩) (by assumption) ?_
  rotate_left
  · intro w hSw; (try dsimp only at hSw); go_simp; first | done | with_reducible rfl
  try simp only [Act.put, List.setIfInBounds_toArray, List.set_cons_zero, List.set_cons_succ]
  refine wpAnyH_take (i := 13) (oi := ({ dst := some 16, op := Op.fieldAddr 46 (Operand.tmp 1) 2, type := 0, pos := "bytes.go:90", after := #[], guard := none } : Oper)) (v := ?_) rfl (by kernel_rfl) (by kernel_rfl) (by kernel_rfl) (fun _ _ _ h => h) (Or.inl ⟨by rfl, ?_⟩) (by assumption) ?_
  rotate_left
  · intro w hSw; (try dsimp only at hSw); go_simp; first | done | with_reducible rfl
  try simp only [Act.put, List.setIfInBounds_toArray, List.set_cons_zero, List.set_cons_succ]
  refine wpAnyH_take (i := 14) (oi := ({ dst := some 17, op := Op.load 22 (Operand.tmp 16), type := 22, pos := "bytes.go:90", after := #[{ on := 13, ground := Ground.data }], guard := none } : Oper)) (v := ?_) rfl (by kernel_rfl) (by kernel_rfl) (by kernel_rfl) (fun _ _ _ h => h) (Or.inl ⟨by rfl, ?_⟩) (by assumption) ?_
  rotate_left
  · intro w hSw; (try dsimp only at hSw); go_simp; first | done | with_reducible rfl
  try simp only [Act.put, List.setIfInBounds_toArray, List.set_cons_zero, List.set_cons_succ]
  refine wpAnyH_take (i := 15) (oi := ({ dst := some 18, op := Op.fieldAddr 46 (Operand.tmp 1) 3, type := 0, pos := "bytes.go:90", after := #[], guard := none } : Oper)) (v := ?_) rfl (by kernel_rfl) (by kernel_rfl) (by kernel_rfl) (fun _ _ _ h => h) (Or.inl ⟨by rfl, ?_⟩) (by assumption) ?_
  rotate_left
  · intro w hSw; (try dsimp only at hSw); go_simp; first | done | with_reducible rfl
  try simp only [Act.put, List.setIfInBounds_toArray, List.set_cons_zero, List.set_cons_succ]
  refine wpAnyH_take (i := 16) (oi := ({ dst := some 19, op := Op.load 44 (Operand.tmp 18), type := 44, pos := "bytes.go:90", after := #[{ on := 15, ground := Ground.data }], guard := none } : Oper)) (v := ?_) rfl (by kernel_rfl) (by kernel_rfl) (by kernel_rfl) (fun _ _ _ h => h) (Or.inl ⟨by rfl, ?_⟩) (by assumption) ?_
  rotate_left
  · intro w hSw; (try dsimp only at hSw); go_simp; first | done | with_reducible rfl
  try simp only [Act.put, List.setIfInBounds_toArray, List.set_cons_zero, List.set_cons_succ]
  refine wpAnyH_ready (rs := [8]) (by kernel_rfl) (by simp) ?_
  refine AllReadyH.cons (o := ({ dst := some 11, op := Op.buildSlice 70 3 #[(0, Operand.tmp 5), (1, Operand.tmp 8), (2, Operand.tmp 10)], type := 70, pos := "bytes.go:90", after := #[{ on := 2, ground := Ground.data }, { on := 5, ground := Ground.data }, { on := 7, ground := Ground.data }], guard := none } : Oper)) rfl (fun K hK => ?_) AllReadyH.nil
  go_simp
  refine hK.out _ _ ((bk_drew (HK.out.alloc (.cells #[.int .i64 l.f1, .int .i64 l.f2, .int .i64 l.r] 3))).five) (fun hHeld => ?_)
  clear hK K
  try simp only [Act.put, List.setIfInBounds_toArray, List.set_cons_zero, List.set_cons_succ]
  have HB1 := Lib.hid (below_drew (HB.out.alloc HB.out.size (.cells #[.int .i64 l.f1, .int .i64 l.f2, .int .i64 l.r] 3)))
  have HK1 := Lib.hid (bk_drew (HK.out.alloc (.cells #[.int .i64 l.f1, .int .i64 l.f2, .int .i64 l.r] 3)))
  have HL1 := Lib.hid (HL.out.below (below_drew ((Below.refl _ _).alloc (Nat.le_refl _) (.cells #[.int .i64 l.f1, .int .i64 l.f2, .int .i64 l.r] 3))))
  have HR1 := Lib.hid (show Rd (X.alloc (.cells #[.int .i64 l.f1, .int .i64 l.f2, .int .i64 l.r] 3)).drew (some ⟨X.heap.size, 0, none⟩) 3 ([l.f1, l.f2, l.r].map iv) from Rd.new X [.int .i64 l.f1, .int .i64 l.f2, .int .i64 l.r] 3)
  clear HB HK HL
  refine wpAnyH_ready (rs := [9]) (by kernel_rfl) (by simp) ?_
  refine AllReadyH.cons (o := ({ dst := some 12, op := Op.call { callee := Callee.value (Operand.func 97), args := #[Operand.tmp 11], argTypes := #[70] }, type := 33, pos := "bytes.go:90", after := #[{ on := 8, ground := Ground.data }], guard := none } : Oper)) rfl (fun K hK => ?_) AllReadyH.nil
  go_simp
  refine (nums_ok _ _ _ _ _ HR1.out (by omega) HNB.out).mono ?_
  rintro e w2 ⟨hb2, A2, n2, c2, rfl, ho2⟩
  have HB2 := Lib.hid (below_next HB1.out hb2 HB1.out.size)
  have HK2 := Lib.hid (HK1.out.kept hb2)
  have HL2 := Lib.hid (HL1.out.below hb2)
  have HO2 := Lib.hid ho2
  clear hb2 ho2
  go_wp2_with fail
  refine hK.out _ _ (HK2.out.five) (fun hHeld => ?_)
  clear hK K
  try simp only [Act.put, List.setIfInBounds_toArray, List.set_cons_zero, List.set_cons_succ]
  refine wpAnyH_take (i := 10) (oi := ({ dst := some 13, op := Op.extract (Operand.tmp 12) 0, type := 22, pos := "bytes.go:90", after := #[{ on := 9, ground := Ground.data }], guard := none } : Oper)) (v := ?_) rfl (by kernel_rfl) (by kernel_rfl) (by kernel_rfl) (fun _ _ _ h => h) (Or.inl ⟨by rfl, ?_⟩) (by assumption) ?_
  rotate_left
  · intro w hSw; (try dsimp only at hSw); go_simp; first | done | with_reducible rfl
  try simp only [Act.put, List.setIfInBounds_toArray, List.set_cons_zero, List.set_cons_succ]
  refine wpAnyH_take (i := 11) (oi := ({ dst := some 14, op := Op.extract (Operand.tmp 12) 1, type := 32, pos := "bytes.go:90", after := #[{ on := 9, ground := Ground.data }], guard := none } : Oper)) (v := ?_) rfl (by kernel_rfl) (by kernel_rfl) (by kernel_rfl) (fun _ _ _ h => h) (Or.inl ⟨by rfl, ?_⟩) (by assumption) ?_
  rotate_left
  · intro w hSw; (try dsimp only at hSw); go_simp; first | done | with_reducible rfl
  try simp only [Act.put, List.setIfInBounds_toArray, List.set_cons_zero, List.set_cons_succ]
  refine wpAnyH_ready (rs := [12]) (by kernel_rfl) (by simp) ?_
  refine AllReadyH.cons (o := ({ dst := some 15, op := Op.call { callee := Callee.value (Operand.func 72), args := #[Operand.tmp 13, Operand.tmp 14], argTypes := #[22, 32] }, type := 22, pos := "bytes.go:90", after := #[{ on := 10, ground := Ground.data }, { on := 11, ground := Ground.data }, { on := 9, ground := Ground.chain }], guard := none } : Oper)) rfl (fun K hK => ?_) AllReadyH.nil
  go_simp
  refine (mustB_yes _ _ _ _).mono ?_
  rintro e w3 ⟨rfl, rfl⟩
  go_wp2_with fail
  refine hK.out _ _ (HK2.out.five) (fun hHeld => ?_)
  clear hK K
  try simp only [Act.put, List.setIfInBounds_toArray, List.set_cons_zero, List.set_cons_succ]
  refine wpAnyH_ready (rs := [17]) (by kernel_rfl) (by simp) ?_
  refine AllReadyH.cons (o := ({ dst := some 20, op := Op.call { callee := Callee.value (Operand.func 75), args := #[Operand.tmp 19], argTypes := #[44] }, type := 33, pos := "bytes.go:90", after := #[{ on := 16, ground := Ground.data }, { on := 12, ground := Ground.chain }], guard := none } : Oper)) rfl (fun K hK => ?_) AllReadyH.nil
  go_simp
  refine (joinX_any _ _ _ _ _ HL2.out.2.rows HTT.out).mono ?_
  rintro e w4 ⟨hb4, ⟨lt, hlt, A4, n4, c4, rfl, ho4⟩ | ⟨hlt, rfl⟩⟩
  rotate_left
  · have HB4 := Lib.hid (below_next HB2.out hb4 HB2.out.size)
    have HK4 := Lib.hid (HK2.out.kept hb4)
    go_wp2_with fail
    refine hK.out _ _ (HK4.out.five) (fun hHeld => ?_)
    clear hK K
    try simp only [Act.put, List.setIfInBounds_toArray, List.set_cons_zero, List.set_cons_succ]
    refine wpAnyH_take (i := 18) (oi := ({ dst := some 21, op := Op.extract (Operand.tmp 20) 0, type := 22, pos := "bytes.go:90", after := #[{ on := 17, ground := Ground.data }], guard := none } : Oper)) (v := ?_) rfl (by kernel_rfl) (by kernel_rfl) (by kernel_rfl) (fun _ _ _ h => h) (Or.inl ⟨by rfl, ?_⟩) (by assumption) ?_
    rotate_left
    · intro w hSw; (try dsimp only at hSw); go_simp; first | done | with_reducible rfl
    try simp only [Act.put, List.setIfInBounds_toArray, List.set_cons_zero, List.set_cons_succ]
    refine wpAnyH_take (i := 19) (oi := ({ dst := some 22, op := Op.extract (Operand.tmp 20) 1, type := 32, pos := "bytes.go:90", after := #[{ on := 17, ground := Ground.data }], guard := none } : Oper)) (v := ?_) rfl (by kernel_rfl) (by kernel_rfl) (by kernel_rfl) (fun _ _ _ h => h) (Or.inl ⟨by rfl, ?_⟩) (by assumption) ?_
    rotate_left
    · intro w hSw; (try dsimp only at hSw); go_simp; first | done | with_reducible rfl
    try simp only [Act.put, List.setIfInBounds_toArray, List.set_cons_zero, List.set_cons_succ]
    refine wpAnyH_ready (rs := [20]) (by kernel_rfl) (by simp) ?_
    refine AllReadyH.cons (o := ({ dst := some 23, op := Op.call { callee := Callee.value (Operand.func 72), args := #[Operand.tmp 21, Operand.tmp 22], argTypes := #[22, 32] }, type := 22, pos := "bytes.go:90", after := #[{ on := 18, ground := Ground.data }, { on := 19, ground := Ground.data }, { on := 17, ground := Ground.chain }], guard := none } : Oper)) rfl (fun K hK => ?_) AllReadyH.nil
    go_simp
    refine (mustB_no _ 13 (by decide) _).mono ?_
    rintro e w5 ⟨rfl, rfl⟩
    exact ⟨rfl, HB4.out, .inr ⟨by unfold Lt.pack; rw [hlt], rfl⟩⟩
  have HB4 := Lib.hid (below_next HB2.out hb4 HB2.out.size)
  have HK4 := Lib.hid (HK2.out.kept hb4)
  have HL4 := Lib.hid (HL2.out.below hb4)
  have HO2b := Lib.hid (HO2.out.below hb4)
  have HO4 := Lib.hid ho4
  have HLT := Lib.hid hlt
  clear hb4 ho4 hlt
  go_wp2_with fail
  refine hK.out _ _ (HK4.out.five) (fun hHeld => ?_)
  clear hK K
  try simp only [Act.put, List.setIfInBounds_toArray, List.set_cons_zero, List.set_cons_succ]
  refine wpAnyH_take (i := 18) (oi := ({ dst := some 21, op := Op.extract (Operand.tmp 20) 0, type := 22, pos := "bytes.go:90", after := #[{ on := 17, ground := Ground.data }], guard := none } : Oper)) (v := ?_) rfl (by kernel_rfl) (by kernel_rfl) (by kernel_rfl) (fun _ _ _ h => h) (Or.inl ⟨by rfl, ?_⟩) (by assumption) ?_
  rotate_left
  · intro w hSw; (try dsimp only at hSw); go_simp; first | done | with_reducible rfl
  try simp only [Act.put, List.setIfInBounds_toArray, List.set_cons_zero, List.set_cons_succ]
  refine wpAnyH_take (i := 19) (oi := ({ dst := some 22, op := Op.extract (Operand.tmp 20) 1, type := 32, pos := "bytes.go:90", after := #[{ on := 17, ground := Ground.data }], guard := none } : Oper)) (v := ?_) rfl (by kernel_rfl) (by kernel_rfl) (by kernel_rfl) (fun _ _ _ h => h) (Or.inl ⟨by rfl, ?_⟩) (by assumption) ?_
  rotate_left
  · intro w hSw; (try dsimp only at hSw); go_simp; first | done | with_reducible rfl
  try simp only [Act.put, List.setIfInBounds_toArray, List.set_cons_zero, List.set_cons_succ]
  refine wpAnyH_ready (rs := [20]) (by kernel_rfl) (by simp) ?_
  refine AllReadyH.cons (o := ({ dst := some 23, op := Op.call { callee := Callee.value (Operand.func 72), args := #[Operand.tmp 21, Operand.tmp 22], argTypes := #[22, 32] }, type := 22, pos := "bytes.go:90", after := #[{ on := 18, ground := Ground.data }, { on := 19, ground := Ground.data }, { on := 17, ground := Ground.chain }], guard := none } : Oper)) rfl (fun K hK => ?_) AllReadyH.nil
  go_simp
  refine (mustB_yes _ _ _ _).mono ?_
  rintro e w5 ⟨rfl, rfl⟩
  go_wp2_with fail
  refine hK.out _ _ (HK4.out.five) (fun hHeld => ?_)
  clear hK K
  try simp only [Act.put, List.setIfInBounds_toArray, List.set_cons_zero, List.set_cons_succ]
  refine wpAnyH_ready (rs := [21]) (by kernel_rfl) (by simp) ?_
  refine AllReadyH.cons (o := ({ dst := some 24, op := Op.buildSlice 44 3 #[(0, Operand.tmp 15), (1, Operand.tmp 17), (2, Operand.tmp 23)], type := 44, pos := "bytes.go:90", after := #[{ on := 12, ground := Ground.data }, { on := 14, ground := Ground.data }, { on := 20, ground := Ground.data }], guard := none } : Oper)) rfl (fun K hK => ?_) AllReadyH.nil
  go_simp
  refine hK.out _ _ ((HK4.out.alloc (.cells #[.slice A2 n2 c2, .slice A l.body.length c, .slice A4 n4 c4] 22)).five) (fun hHeld => ?_)
  clear hK K
  try simp only [Act.put, List.setIfInBounds_toArray, List.set_cons_zero, List.set_cons_succ]
  have HB5 := Lib.hid (HB4.out.alloc HB4.out.size (.cells #[.slice A2 n2 c2, .slice A l.body.length c, .slice A4 n4 c4] 22))
  have HK5 := Lib.hid (HK4.out.alloc (.cells #[.slice A2 n2 c2, .slice A l.body.length c, .slice A4 n4 c4] 22))
  have HR5 := Lib.hid (rows_made3 w4 22 HO2b.out.row HL4.out.1.row HO4.out.row)
  refine wpAnyH_ready (rs := [22]) (by kernel_rfl) (by simp) ?_
  refine AllReadyH.cons (o := ({ dst := some 25, op := Op.call { callee := Callee.value (Operand.func 75), args := #[Operand.tmp 24], argTypes := #[44] }, type := 33, pos := "bytes.go:90", after := #[{ on := 21, ground := Ground.data }, { on := 20, ground := Ground.chain }], guard := none } : Oper)) rfl (fun K hK => ?_) AllReadyH.nil
  go_simp
  refine (joinX_any _ _ _ _ _ HR5.out (HTA.out _ HLT.out)).mono ?_
  rintro e w6 ⟨hb6, ⟨lr, hlr, A6, n6, c6, rfl, ho6⟩ | ⟨hlr, rfl⟩⟩
  rotate_left
  · have HB6 := Lib.hid (below_next HB5.out hb6 HB5.out.size)
    have HK6 := Lib.hid (HK5.out.kept hb6)
    go_wp2_with fail
    refine hK.out _ _ (HK6.out.five) (fun hHeld => ?_)
    clear hK K
    try simp only [Act.put, List.setIfInBounds_toArray, List.set_cons_zero, List.set_cons_succ]
    refine wpAnyH_take (i := 23) (oi := ({ dst := some 26, op := Op.extract (Operand.tmp 25) 0, type := 22, pos := "bytes.go:90", after := #[{ on := 22, ground := Ground.data }], guard := none } : Oper)) (v := ?_) rfl (by kernel_rfl) (by kernel_rfl) (by kernel_rfl) (fun _ _ _ h => h) (Or.inl ⟨by rfl, ?_⟩) (by assumption) ?_
    rotate_left
    · intro w hSw; (try dsimp only at hSw); go_simp; first | done | with_reducible rfl
    try simp only [Act.put, List.setIfInBounds_toArray, List.set_cons_zero, List.set_cons_succ]
    refine wpAnyH_take (i := 24) (oi := ({ dst := some 27, op := Op.extract (Operand.tmp 25) 1, type := 32, pos := "bytes.go:90", after := #[{ on := 22, ground := Ground.data }], guard := none } : Oper)) (v := ?_) rfl (by kernel_rfl) (by kernel_rfl) (by kernel_rfl) (fun _ _ _ h => h) (Or.inl ⟨by rfl, ?_⟩) (by assumption) ?_
    rotate_left
    · intro w hSw; (try dsimp only at hSw); go_simp; first | done | with_reducible rfl
    try simp only [Act.put, List.setIfInBounds_toArray, List.set_cons_zero, List.set_cons_succ]
    refine wpAnyH_ready (rs := [25]) (by kernel_rfl) (by simp) ?_
    refine AllReadyH.cons (o := ({ dst := some 28, op := Op.call { callee := Callee.value (Operand.func 72), args := #[Operand.tmp 26, Operand.tmp 27], argTypes := #[22, 32] }, type := 22, pos := "bytes.go:90", after := #[{ on := 23, ground := Ground.data }, { on := 24, ground := Ground.data }, { on := 22, ground := Ground.chain }], guard := none } : Oper)) rfl (fun K hK => ?_) AllReadyH.nil
    go_simp
    refine (mustB_no _ 13 (by decide) _).mono ?_
    rintro e w7 ⟨rfl, rfl⟩
    exact ⟨rfl, HB6.out, .inr ⟨by unfold Lt.pack; rw [HLT.out]; exact hlr, rfl⟩⟩
  have HB6 := Lib.hid (below_next HB5.out hb6 HB5.out.size)
  have HK6 := Lib.hid (HK5.out.kept hb6)
  have HO6 := Lib.hid (ho6.more HB5.out.size)
  have HLR := Lib.hid hlr
  clear hb6 ho6 hlr
  go_wp2_with fail
  refine hK.out _ _ (HK6.out.five) (fun hHeld => ?_)
  clear hK K
  try simp only [Act.put, List.setIfInBounds_toArray, List.set_cons_zero, List.set_cons_succ]
  refine wpAnyH_take (i := 23) (oi := ({ dst := some 26, op := Op.extract (Operand.tmp 25) 0, type := 22, pos := "bytes.go:90", after := #[{ on := 22, ground := Ground.data }], guard := none } : Oper)) (v := ?_) rfl (by kernel_rfl) (by kernel_rfl) (by kernel_rfl) (fun _ _ _ h => h) (Or.inl ⟨by rfl, ?_⟩) (by assumption) ?_
  rotate_left
  · intro w hSw; (try dsimp only at hSw); go_simp; first | done | with_reducible rfl
  try simp only [Act.put, List.setIfInBounds_toArray, List.set_cons_zero, List.set_cons_succ]
  refine wpAnyH_take (i := 24) (oi := ({ dst := some 27, op := Op.extract (Operand.tmp 25) 1, type := 32, pos := "bytes.go:90", after := #[{ on := 22, ground := Ground.data }], guard := none } : Oper)) (v := ?_) rfl (by kernel_rfl) (by kernel_rfl) (by kernel_rfl) (fun _ _ _ h => h) (Or.inl ⟨by rfl, ?_⟩) (by assumption) ?_
  rotate_left
  · intro w hSw; (try dsimp only at hSw); go_simp; first | done | with_reducible rfl
  try simp only [Act.put, List.setIfInBounds_toArray, List.set_cons_zero, List.set_cons_succ]
  refine wpAnyH_ready (rs := [25]) (by kernel_rfl) (by simp) ?_
  refine AllReadyH.cons (o := ({ dst := some 28, op := Op.call { callee := Callee.value (Operand.func 72), args := #[Operand.tmp 26, Operand.tmp 27], argTypes := #[22, 32] }, type := 22, pos := "bytes.go:90", after := #[{ on := 23, ground := Ground.data }, { on := 24, ground := Ground.data }, { on := 22, ground := Ground.chain }], guard := none } : Oper)) rfl (fun K hK => ?_) AllReadyH.nil
  go_simp
  refine (mustB_yes _ _ _ _).mono ?_
  rintro e w7 ⟨rfl, rfl⟩
  go_wp2_with fail
  refine hK.out _ _ (HK6.out.five) (fun hHeld => ?_)
  clear hK K
  try simp only [Act.put, List.setIfInBounds_toArray, List.set_cons_zero, List.set_cons_succ]
  refine wpAnyH_take (i := 26) (oi := ({ dst := some 2, op := Op.assign (Operand.tmp 28), type := 22, pos := "bytes.go:90", after := #[{ on := 25, ground := Ground.data }, { on := 25, ground := Ground.chain }, { on := 0, ground := Ground.phase }, { on := 1, ground := Ground.phase }, { on := 2, ground := Ground.phase }, { on := 3, ground := Ground.phase }, { on := 4, ground := Ground.phase }, { on := 5, ground := Ground.phase }, { on := 6, ground := Ground.phase }, { on := 7, ground := Ground.phase }, { on := 8, ground := Ground.phase }, { on := 9, ground := Ground.phase }, { on := 10, ground := Ground.phase }, { on := 11, ground := Ground.phase }, { on := 12, ground := Ground.phase }, { on := 13, ground := Ground.phase }, { on := 14, ground := Ground.phase }, { on := 15, ground := Ground.phase }, { on := 16, ground := Ground.phase }, { on := 17, ground := Ground.phase }, { on := 18, ground := Ground.phase }, { on := 19, ground := Ground.phase }, { on := 20, ground := Ground.phase }, { on := 21, ground := Ground.phase }, { on := 22, ground := Ground.phase }, { on := 23, ground := Ground.phase }, { on := 24, ground := Ground.phase }, { on := 25, ground := Ground.phase }], guard := none } : Oper)) (v := ?_) rfl (by kernel_rfl) (by kernel_rfl) (by kernel_rfl) (fun _ _ _ h => h) (Or.inl ⟨by rfl, ?_⟩) (by assumption) ?_
  rotate_left
  · intro w hSw; (try dsimp only at hSw); go_simp; first | done | with_reducible rfl
  try simp only [Act.put, List.setIfInBounds_toArray, List.set_cons_zero, List.set_cons_succ]
  refine wpAnyH_done (by kernel_rfl) ?_ _
  go_wp2_with fail
  go_ret
  exact ⟨HB6.out, .inl ⟨lr, by unfold Lt.pack; rw [HLT.out]; exact HLR.out, A6, n6, c6, rfl, HO6.out⟩⟩

/-- what a right entry has -/
theorem en_ok {e : En} (h : e.ok = true) : numsBad [e.c + 1, e.s, e.t] = false ∧ e.dig.length ≤ 32 ∧ -1 ≤ e.c ∧ e.c < 8 := by
  unfold En.ok wideB peerB at h
  simp only [Bool.and_eq_true, decide_eq_true_eq] at h
  obtain ⟨ht, h⟩ := h
  split at h
  · simp only [Bool.and_eq_true, decide_eq_true_eq] at h
    refine ⟨?_, by omega, by omega, by omega⟩
    simp [numsBad]
    omega
  · simp only [Bool.and_eq_true, decide_eq_true_eq] at h
    refine ⟨?_, by omega, by omega, by omega⟩
    simp [numsBad]
    omega
theorem en_join {e : En} (h : e.ok = true) : joinX [numsN [e.c + 1, e.s, e.t], e.dig] = some e.pack := by
  have h1 := en_ok h
  have h2 := numsN_len3 h1.1 (by simp)
  unfold joinX
  rw [if_neg]
  · rfl
  · simp [joinBad, longField]
    omega
theorem packEntry_any (e : En) (A : Option Addr) (c : Nat) (F : Nat → Prop) (w : World) (h : BF F w A c e.dig) (hok : e.ok = true) :
    Calls Try.prog 60 #[.agg #[.int .i64 e.c, .int .i64 e.s, .int .i64 e.t, .slice A e.dig.length c]] w (Fresh1 e.pack w) := by
  have hB := (Below.refl w.heap.size w).alloc (Nat.le_refl _) (.cells #[.int .i64 e.c, .int .i64 e.s, .int .i64 e.t, .slice A e.dig.length c] 24)
  have HB := Lib.hid hB
  have HK := Lib.hid (Bk.new w 24 [.int .i64 e.c, .int .i64 e.s, .int .i64 e.t, .slice A e.dig.length c])
  have HL := Lib.hid (h.below hB)
  have hsz := en_ok hok
  have HNB := Lib.hid hsz.1
  have HJX := Lib.hid (en_join hok)
  have HTA := Lib.hid (show total [numsN [e.c + 1, e.s, e.t], e.dig] ≤ 68719476736 by
    have h2 := numsN_len3 hsz.1 (by simp)
    have h3 := hsz.2.1
    simp only [total]
    omega)
  obtain ⟨_, _, y1, y2⟩ := hsz
  have y3 : IntKind.i64.wrap (e.c + 1) = e.c + 1 := by rw [IntKind.wrap_i64]; omega
  clear h hB hok
  go_enter Try.func60, Try.ntmps60
  go_wp2_with fail
  obtain ⟨X, hX⟩ : ∃ X, X = w.alloc (.cells #[.int .i64 e.c, .int .i64 e.s, .int .i64 e.t, .slice A e.dig.length c] 24) := ⟨_, rfl⟩
  rw [← hX] at HB HK HL ⊢
  clear hX
  refine wp_region_held_drew (S := fun w' => w'.cell? ⟨w.heap.size, 0, none⟩ = some (.int .i64 e.c) ∧ w'.cell? ⟨w.heap.size, 1, none⟩ = some (.int .i64 e.s) ∧ w'.cell? ⟨w.heap.size, 2, none⟩ = some (.int .i64 e.t) ∧ w'.cell? ⟨w.heap.size, 3, none⟩ = some (.slice A e.dig.length c)) (by kernel_rfl) (⟨(bk_drew HK.out).at_ (i := 0) rfl, (bk_drew HK.out).at_ (i := 1) rfl, (bk_drew HK.out).at_ (i := 2) rfl, (bk_drew HK.out).at_ (i := 3) rfl⟩) (fun hHeld => ?_)
  refine wpAnyH_take (i := 0) (oi := ({ dst := some 3, op := Op.fieldAddr 24 (Operand.tmp 1) 0, type := 0, pos := "bytes.go:78", after := #[], guard := none } : Oper)) (v := ?_) rfl (by kernel_rfl) (by kernel_rfl) (by kernel_rfl) (fun _ _ _ h => h) (Or.inl ⟨by rfl, ?_⟩) (by assumption) ?_
  rotate_left
  · intro w hSw; (try dsimp only at hSw); go_simp; first | done | with_reducible rfl
  try simp only [Act.put, List.setIfInBounds_toArray, List.set_cons_zero, List.set_cons_succ]
  refine wpAnyH_take (i := 1) (oi := ({ dst := some 4, op := Op.load 3 (Operand.tmp 3), type := 3, pos := "bytes.go:78", after := #[{ on := 0, ground := Ground.data }], guard := none } : Oper)) (v := ?_) rfl (by kernel_rfl) (by kernel_rfl) (by kernel_rfl) (fun _ _ _ h => h) (Or.inl ⟨by rfl, ?_⟩) (by assumption) ?_
  rotate_left
  · intro w hSw; (try dsimp only at hSw); go_simp; first | done | with_reducible rfl
  try simp only [Act.put, List.setIfInBounds_toArray, List.set_cons_zero, List.set_cons_succ]
  refine wpAnyH_take (i := 2) (oi := ({ dst := some 5, op := Op.binOp BinOp.add 3 (Operand.tmp 4) (Operand.const (Value.int IntKind.i64 1)) 3, type := 3, pos := "bytes.go:78", after := #[{ on := 1, ground := Ground.data }], guard := none } : Oper)) (v := ?_) rfl (by kernel_rfl) (by kernel_rfl) (by kernel_rfl) (fun _ _ _ h => h) (Or.inl ⟨by rfl, ?_⟩) (by assumption) ?_
  rotate_left
  · intro w hSw; (try dsimp only at hSw); go_simp; first | done | with_reducible rfl
  try simp only [Act.put, List.setIfInBounds_toArray, List.set_cons_zero, List.set_cons_succ]
  refine wpAnyH_take (i := 3) (oi := ({ dst := some 6, op := Op.fieldAddr 24 (Operand.tmp 1) 1, type := 0, pos := "bytes.go:78", after := #[], guard := none } : Oper)) (v := ?_) rfl (by kernel_rfl) (by kernel_rfl) (by kernel_rfl) (fun _ _ _ h => h) (Or.inl ⟨by rfl, ?_⟩) (by assumption) ?_
  rotate_left
  · intro w hSw; (try dsimp only at hSw); go_simp; first | done | with_reducible rfl
  try simp only [Act.put, List.setIfInBounds_toArray, List.set_cons_zero, List.set_cons_succ]
  refine wpAnyH_take (i := 4) (oi := ({ dst := some 7, op := Op.load 3 (Operand.tmp 6), type := 3, pos := "bytes.go:78", after := #[{ on := 3, ground := Ground.data }], guard := none } : Oper)) (v := ?_) rfl (by kernel_rfl) (by kernel_rfl) (by kernel_rfl) (fun _ _ _ h => h) (Or.inl ⟨by rfl, ?_⟩) (by assumption) ?_
  rotate_left
  · intro w hSw; (try dsimp only at hSw); go_simp; first | done | with_reducible rfl
  try simp only [Act.put, List.setIfInBounds_toArray, List.set_cons_zero, List.set_cons_succ]
  refine wpAnyH_take (i := 5) (oi := ({ dst := some 8, op := Op.fieldAddr 24 (Operand.tmp 1) 2, type := 0, pos := "bytes.go:78", after := #[], guard := none } : Oper)) (v := ?_) rfl (by kernel_rfl) (by kernel_rfl) (by kernel_rfl) (fun _ _ _ h => h) (Or.inl ⟨by rfl, ?_⟩) (by assumption) ?_
  rotate_left
  · intro w hSw; (try dsimp only at hSw); go_simp; first | done | with_reducible rfl
  try simp only [Act.put, List.setIfInBounds_toArray, List.set_cons_zero, List.set_cons_succ]
  refine wpAnyH_take (i := 6) (oi := ({ dst := some 9, op := Op.load 3 (Operand.tmp 8), type := 3, pos := "bytes.go:78", after := #[{ on := 5, ground := Ground.data }], guard := none } : Oper)) (v := ?_) rfl (by kernel_rfl) (by kernel_rfl) (by kernel_rfl) (fun _ _ _ h => h) (Or.inl ⟨by rfl, ?_⟩) (by assumption) ?_
  rotate_left
  · intro w hSw; (try dsimp only at hSw); go_simp; first | done | with_reducible rfl
  try simp only [Act.put, List.setIfInBounds_toArray, List.set_cons_zero, List.set_cons_succ]
  refine wpAnyH_take (i := 12) (oi := ({ dst := some 15, op := Op.fieldAddr 24 (Operand.tmp 1) 3, type := 0, pos := "bytes.go:78", after := #[], guard := none } : Oper)) (v := ?_) rfl (by kernel_rfl) (by kernel_rfl) (by kernel_rfl) (fun _ _ _ h => h) (Or.inl ⟨by rfl, ?_⟩) (by assumption) ?_
  rotate_left
  · intro w hSw; (try dsimp only at hSw); go_simp; first | done | with_reducible rfl
  try simp only [Act.put, List.setIfInBounds_toArray, List.set_cons_zero, List.set_cons_succ]
  refine wpAnyH_take (i := 13) (oi := ({ dst := some 16, op := Op.load 22 (Operand.tmp 15), type := 22, pos := "bytes.go:78", after := #[{ on := 12, ground := Ground.data }], guard := none } : Oper)) (v := ?_) rfl (by kernel_rfl) (by kernel_rfl) (by kernel_rfl) (fun _ _ _ h => h) (Or.inl ⟨by rfl, ?_⟩) (by assumption) ?_
  rotate_left
  · intro w hSw; (try dsimp only at hSw); go_simp; first | done | with_reducible rfl
  try simp only [Act.put, List.setIfInBounds_toArray, List.set_cons_zero, List.set_cons_succ]
  refine wpAnyH_ready (rs := [7]) (by kernel_rfl) (by simp) ?_
  refine AllReadyH.cons (o := ({ dst := some 10, op := Op.buildSlice 70 3 #[(0, Operand.tmp 5), (1, Operand.tmp 7), (2, Operand.tmp 9)], type := 70, pos := "bytes.go:78", after := #[{ on := 2, ground := Ground.data }, { on := 4, ground := Ground.data }, { on := 6, ground := Ground.data }], guard := none } : Oper)) rfl (fun K hK => ?_) AllReadyH.nil
  go_simp
  refine hK.out _ _ (⟨(bk_drew (HK.out.alloc (.cells #[.int .i64 (e.c + 1), .int .i64 e.s, .int .i64 e.t] 3))).at_ (i := 0) rfl, (bk_drew (HK.out.alloc (.cells #[.int .i64 (e.c + 1), .int .i64 e.s, .int .i64 e.t] 3))).at_ (i := 1) rfl, (bk_drew (HK.out.alloc (.cells #[.int .i64 (e.c + 1), .int .i64 e.s, .int .i64 e.t] 3))).at_ (i := 2) rfl, (bk_drew (HK.out.alloc (.cells #[.int .i64 (e.c + 1), .int .i64 e.s, .int .i64 e.t] 3))).at_ (i := 3) rfl⟩) (fun hHeld => ?_)
  clear hK K
  try simp only [Act.put, List.setIfInBounds_toArray, List.set_cons_zero, List.set_cons_succ]
  have HB1 := Lib.hid (below_drew (HB.out.alloc HB.out.size (.cells #[.int .i64 (e.c + 1), .int .i64 e.s, .int .i64 e.t] 3)))
  have HK1 := Lib.hid (bk_drew (HK.out.alloc (.cells #[.int .i64 (e.c + 1), .int .i64 e.s, .int .i64 e.t] 3)))
  have HL1 := Lib.hid (HL.out.below (below_drew ((Below.refl _ _).alloc (Nat.le_refl _) (.cells #[.int .i64 (e.c + 1), .int .i64 e.s, .int .i64 e.t] 3))))
  have HR1 := Lib.hid (show Rd (X.alloc (.cells #[.int .i64 (e.c + 1), .int .i64 e.s, .int .i64 e.t] 3)).drew (some ⟨X.heap.size, 0, none⟩) 3 ([e.c + 1, e.s, e.t].map iv) from Rd.new X [.int .i64 (e.c + 1), .int .i64 e.s, .int .i64 e.t] 3)
  clear HB HK HL
  refine wpAnyH_ready (rs := [8]) (by kernel_rfl) (by simp) ?_
  refine AllReadyH.cons (o := ({ dst := some 11, op := Op.call { callee := Callee.value (Operand.func 97), args := #[Operand.tmp 10], argTypes := #[70] }, type := 33, pos := "bytes.go:78", after := #[{ on := 7, ground := Ground.data }], guard := none } : Oper)) rfl (fun K hK => ?_) AllReadyH.nil
  go_simp
  refine (nums_ok _ _ _ _ _ HR1.out (by omega) HNB.out).mono ?_
  rintro e2 w2 ⟨hb2, A2, n2, c2, rfl, ho2⟩
  have HB2 := Lib.hid (below_next HB1.out hb2 HB1.out.size)
  have HK2 := Lib.hid (HK1.out.kept hb2)
  have HL2 := Lib.hid (HL1.out.below hb2)
  have HO2 := Lib.hid ho2
  clear hb2 ho2
  go_wp2_with fail
  refine hK.out _ _ (⟨HK2.out.at_ (i := 0) rfl, HK2.out.at_ (i := 1) rfl, HK2.out.at_ (i := 2) rfl, HK2.out.at_ (i := 3) rfl⟩) (fun hHeld => ?_)
  clear hK K
  try simp only [Act.put, List.setIfInBounds_toArray, List.set_cons_zero, List.set_cons_succ]
  refine wpAnyH_take (i := 9) (oi := ({ dst := some 12, op := Op.extract (Operand.tmp 11) 0, type := 22, pos := "bytes.go:78", after := #[{ on := 8, ground := Ground.data }], guard := none } : Oper)) (v := ?_) rfl (by kernel_rfl) (by kernel_rfl) (by kernel_rfl) (fun _ _ _ h => h) (Or.inl ⟨by rfl, ?_⟩) (by assumption) ?_
  rotate_left
  · intro w hSw; (try dsimp only at hSw); go_simp; first | done | with_reducible rfl
  try simp only [Act.put, List.setIfInBounds_toArray, List.set_cons_zero, List.set_cons_succ]
  refine wpAnyH_take (i := 10) (oi := ({ dst := some 13, op := Op.extract (Operand.tmp 11) 1, type := 32, pos := "bytes.go:78", after := #[{ on := 8, ground := Ground.data }], guard := none } : Oper)) (v := ?_) rfl (by kernel_rfl) (by kernel_rfl) (by kernel_rfl) (fun _ _ _ h => h) (Or.inl ⟨by rfl, ?_⟩) (by assumption) ?_
  rotate_left
  · intro w hSw; (try dsimp only at hSw); go_simp; first | done | with_reducible rfl
  try simp only [Act.put, List.setIfInBounds_toArray, List.set_cons_zero, List.set_cons_succ]
  refine wpAnyH_ready (rs := [11]) (by kernel_rfl) (by simp) ?_
  refine AllReadyH.cons (o := ({ dst := some 14, op := Op.call { callee := Callee.value (Operand.func 72), args := #[Operand.tmp 12, Operand.tmp 13], argTypes := #[22, 32] }, type := 22, pos := "bytes.go:78", after := #[{ on := 9, ground := Ground.data }, { on := 10, ground := Ground.data }, { on := 8, ground := Ground.chain }], guard := none } : Oper)) rfl (fun K hK => ?_) AllReadyH.nil
  go_simp
  refine (mustB_yes _ _ _ _).mono ?_
  rintro e3 w3 ⟨rfl, rfl⟩
  go_wp2_with fail
  refine hK.out _ _ (⟨HK2.out.at_ (i := 0) rfl, HK2.out.at_ (i := 1) rfl, HK2.out.at_ (i := 2) rfl, HK2.out.at_ (i := 3) rfl⟩) (fun hHeld => ?_)
  clear hK K
  try simp only [Act.put, List.setIfInBounds_toArray, List.set_cons_zero, List.set_cons_succ]
  refine wpAnyH_ready (rs := [14]) (by kernel_rfl) (by simp) ?_
  refine AllReadyH.cons (o := ({ dst := some 17, op := Op.buildSlice 44 2 #[(0, Operand.tmp 14), (1, Operand.tmp 16)], type := 44, pos := "bytes.go:78", after := #[{ on := 11, ground := Ground.data }, { on := 13, ground := Ground.data }], guard := none } : Oper)) rfl (fun K hK => ?_) AllReadyH.nil
  go_simp
  refine hK.out _ _ (⟨(HK2.out.alloc (.cells #[.slice A2 n2 c2, .slice A e.dig.length c] 22)).at_ (i := 0) rfl, (HK2.out.alloc (.cells #[.slice A2 n2 c2, .slice A e.dig.length c] 22)).at_ (i := 1) rfl, (HK2.out.alloc (.cells #[.slice A2 n2 c2, .slice A e.dig.length c] 22)).at_ (i := 2) rfl, (HK2.out.alloc (.cells #[.slice A2 n2 c2, .slice A e.dig.length c] 22)).at_ (i := 3) rfl⟩) (fun hHeld => ?_)
  clear hK K
  try simp only [Act.put, List.setIfInBounds_toArray, List.set_cons_zero, List.set_cons_succ]
  have HB5 := Lib.hid (HB2.out.alloc HB2.out.size (.cells #[.slice A2 n2 c2, .slice A e.dig.length c] 22))
  have HK5 := Lib.hid (HK2.out.alloc (.cells #[.slice A2 n2 c2, .slice A e.dig.length c] 22))
  have HR5 := Lib.hid (rows_made2 w2 22 HO2.out.row HL2.out.row)
  refine wpAnyH_ready (rs := [15]) (by kernel_rfl) (by simp) ?_
  refine AllReadyH.cons (o := ({ dst := some 18, op := Op.call { callee := Callee.value (Operand.func 75), args := #[Operand.tmp 17], argTypes := #[44] }, type := 33, pos := "bytes.go:78", after := #[{ on := 14, ground := Ground.data }, { on := 11, ground := Ground.chain }], guard := none } : Oper)) rfl (fun K hK => ?_) AllReadyH.nil
  go_simp
  refine (joinX_any _ _ _ _ _ HR5.out HTA.out).mono ?_
  rw [HJX.out]
  rintro e6 w6 ⟨hb6, ⟨lr, hlr, A6, n6, c6, rfl, ho6⟩ | ⟨hlr, rfl⟩⟩
  rotate_left
  · cases hlr
  obtain rfl := Option.some.inj hlr
  have HB6 := Lib.hid (below_next HB5.out hb6 HB5.out.size)
  have HK6 := Lib.hid (HK5.out.kept hb6)
  have HO6 := Lib.hid (ho6.more HB5.out.size)
  clear hb6 ho6 hlr
  go_wp2_with fail
  refine hK.out _ _ (⟨HK6.out.at_ (i := 0) rfl, HK6.out.at_ (i := 1) rfl, HK6.out.at_ (i := 2) rfl, HK6.out.at_ (i := 3) rfl⟩) (fun hHeld => ?_)
  clear hK K
  try simp only [Act.put, List.setIfInBounds_toArray, List.set_cons_zero, List.set_cons_succ]
  refine wpAnyH_take (i := 16) (oi := ({ dst := some 19, op := Op.extract (Operand.tmp 18) 0, type := 22, pos := "bytes.go:78", after := #[{ on := 15, ground := Ground.data }], guard := none } : Oper)) (v := ?_) rfl (by kernel_rfl) (by kernel_rfl) (by kernel_rfl) (fun _ _ _ h => h) (Or.inl ⟨by rfl, ?_⟩) (by assumption) ?_
  rotate_left
  · intro w hSw; (try dsimp only at hSw); go_simp; first | done | with_reducible rfl
  try simp only [Act.put, List.setIfInBounds_toArray, List.set_cons_zero, List.set_cons_succ]
  refine wpAnyH_take (i := 17) (oi := ({ dst := some 20, op := Op.extract (Operand.tmp 18) 1, type := 32, pos := "bytes.go:78", after := #[{ on := 15, ground := Ground.data }], guard := none } : Oper)) (v := ?_) rfl (by kernel_rfl) (by kernel_rfl) (by kernel_rfl) (fun _ _ _ h => h) (Or.inl ⟨by rfl, ?_⟩) (by assumption) ?_
  rotate_left
  · intro w hSw; (try dsimp only at hSw); go_simp; first | done | with_reducible rfl
  try simp only [Act.put, List.setIfInBounds_toArray, List.set_cons_zero, List.set_cons_succ]
  refine wpAnyH_ready (rs := [18]) (by kernel_rfl) (by simp) ?_
  refine AllReadyH.cons (o := ({ dst := some 21, op := Op.call { callee := Callee.value (Operand.func 72), args := #[Operand.tmp 19, Operand.tmp 20], argTypes := #[22, 32] }, type := 22, pos := "bytes.go:78", after := #[{ on := 16, ground := Ground.data }, { on := 17, ground := Ground.data }, { on := 15, ground := Ground.chain }], guard := none } : Oper)) rfl (fun K hK => ?_) AllReadyH.nil
  go_simp
  refine (mustB_yes _ _ _ _).mono ?_
  rintro e7 w7 ⟨rfl, rfl⟩
  go_wp2_with fail
  refine hK.out _ _ (⟨HK6.out.at_ (i := 0) rfl, HK6.out.at_ (i := 1) rfl, HK6.out.at_ (i := 2) rfl, HK6.out.at_ (i := 3) rfl⟩) (fun hHeld => ?_)
  clear hK K
  try simp only [Act.put, List.setIfInBounds_toArray, List.set_cons_zero, List.set_cons_succ]
  refine wpAnyH_take (i := 19) (oi := ({ dst := some 2, op := Op.assign (Operand.tmp 21), type := 22, pos := "bytes.go:78", after := #[{ on := 18, ground := Ground.data }, { on := 18, ground := Ground.chain }, { on := 0, ground := Ground.phase }, { on := 1, ground := Ground.phase }, { on := 2, ground := Ground.phase }, { on := 3, ground := Ground.phase }, { on := 4, ground := Ground.phase }, { on := 5, ground := Ground.phase }, { on := 6, ground := Ground.phase }, { on := 7, ground := Ground.phase }, { on := 8, ground := Ground.phase }, { on := 9, ground := Ground.phase }, { on := 10, ground := Ground.phase }, { on := 11, ground := Ground.phase }, { on := 12, ground := Ground.phase }, { on := 13, ground := Ground.phase }, { on := 14, ground := Ground.phase }, { on := 15, ground := Ground.phase }, { on := 16, ground := Ground.phase }, { on := 17, ground := Ground.phase }, { on := 18, ground := Ground.phase }], guard := none } : Oper)) (v := ?_) rfl (by kernel_rfl) (by kernel_rfl) (by kernel_rfl) (fun _ _ _ h => h) (Or.inl ⟨by rfl, ?_⟩) (by assumption) ?_
  rotate_left
  · intro w hSw; (try dsimp only at hSw); go_simp; first | done | with_reducible rfl
  try simp only [Act.put, List.setIfInBounds_toArray, List.set_cons_zero, List.set_cons_succ]
  refine wpAnyH_done (by kernel_rfl) ?_ _
  go_wp2_with fail
  go_ret
  exact ⟨A6, n6, c6, rfl, HO6.out, HB6.out⟩
end Go.Proofs.Ytmgmmbgjmnklkaa
