/-
  The program's reading of numbers and of an entry. Walks; no statement.
-/
import Derived.Test.YtmgmmbgjmnklkaaMsgPack3
import Derived.Test.YtmgmmbgjmnklkaaSplit
namespace Go.Proofs.Ytmgmmbgjmnklkaa
set_option maxRecDepth 100000
open Go.RowKit
open Pk
set_option linter.unusedVariables false

theorem ints_range : ∀ (f : Nat) (l : List UInt8), ∀ v ∈ (intsF f l).2, 0 ≤ v ∧ v < 4611686018427387904 := by
  intro f
  induction f with
  | zero => intro l v hv; cases hv
  | succ f ih =>
    intro l v hv
    rw [intsF] at hv
    split at hv
    · cases hv
    · split at hv
      · cases hv
      · split at hv
        · cases hv
        · rcases List.mem_cons.1 hv with e | e
          · subst e
            have := rdN_lt l
            omega
          · exact ih _ v e
theorem rdNums_range {k : Nat} {b : List UInt8} {vs : List Int} (h : rdNums k b = some vs) : vs.length = k ∧ ∀ v ∈ vs, 0 ≤ v ∧ v < 4611686018427387904 := by
  unfold rdNums at h
  split at h
  · rename_i h1
    injection h with h
    subst h
    exact ⟨h1.2, ints_range _ _⟩
  · cases h
theorem split_fields {l : List UInt8} (h : (splitN l).1 = 0) : ∀ f ∈ (splitN l).2, f.length ≤ 65536 := by
  have hb := (joinN_splitN h).2
  unfold joinBad at hb
  simp only [Bool.or_eq_false_iff] at hb
  have hl := hb.2
  unfold longField at hl
  rw [List.any_eq_false] at hl
  intro f hf
  have := hl f hf
  simpa using this
/-- a panic with some error's number -/
def PnX (e : Ending) : Prop := ∃ k, e = Pn k ∧ k ≠ 0
/-- so many new numbers came back, if there are such; else a panic -/
def RdI (r : Option (List Int)) (k : Nat) (w : World) (e : Ending) (w' : World) : Prop :=
  Below w.heap.size w w' ∧ ((∃ vs, r = some vs ∧ ∃ A c, e = .returned (.slice A k c) ∧ OwnI w' w.heap.size A k c vs) ∨ (r = none ∧ PnX e))
theorem readNums_any (k : Nat) (A : Option Addr) (n c : Nat) (l : List UInt8) (w : World) (h : Sl w A n c l) (hn : n ≤ 4294967296) :
    Calls Try.prog 101 #[.int .i64 (k : Int), .slice A n c] w (RdI (rdNums k l) k w) := by
  have H := Lib.hid (ints_any A n c l w h.rd h.1 h.2.1 hn)
  have HD := Lib.hid (show rdNums k l = if (intsN l).1 = 0 ∧ (intsN l).2.length = k then some (intsN l).2 else none from rfl)
  unfold IntsPost at H
  generalize rdNums k l = r at *
  generalize (intsN l).1 = z at *
  generalize (intsN l).2 = vs at *
  clear h hn
  go_enter Try.func101, Try.ntmps101
  go_wp2_with fail
  refine H.out.mono ?_
  rintro e w1 ⟨hb, ⟨hz, rfl⟩ | ⟨hz, A1, n1, c1, rfl, ho⟩⟩
  · have HR := Lib.hid (show r = none by rw [HD.out, if_neg (fun h => hz h.1)])
    have HZ := Lib.hid (show (z : Int) ≠ 0 by omega)
    have HB := Lib.hid hb
    clear hz hb HD
    go_wp2_with fail
    refine (mustI_no _ _ HZ.out _).mono ?_
    rintro e w2 ⟨rfl, rfl⟩
    exact ⟨rfl, HB.out, .inr ⟨HR.out, _, rfl, by first | decide | assumption | exact HZ.out | exact HZ5.out⟩⟩
  · have hl := ho.len
    subst hl
    have HB := Lib.hid hb
    have HO := Lib.hid ho
    have HZ := Lib.hid hz
    clear hz hb ho
    go_wp2_with fail
    refine (mustI_yes _ _ _ _).mono ?_
    rintro e w2 ⟨rfl, rfl⟩
    go_wp2_with fail
    refine (exactlyI_any _ _ _ _ _).mono ?_
    rintro e w3 ⟨rfl, ⟨hk, rfl⟩ | ⟨hk, rfl⟩⟩
    · subst hk
      have HR := Lib.hid (show r = some vs by rw [HD.out, if_pos ⟨HZ.out, rfl⟩])
      clear HD
      go_wp2_with fail
      go_ret
      exact ⟨HB.out, .inl ⟨vs, HR.out, A1, c1, rfl, HO.out⟩⟩
    · have HR := Lib.hid (show r = none by rw [HD.out, if_neg (fun h => hk h.2)])
      exact ⟨rfl, HB.out, .inr ⟨HR.out, _, rfl, by first | decide | assumption | exact HZ.out | exact HZ5.out⟩⟩
/-- where numbers of a call's own lie -/
theorem OwnI.at_ {w : World} {base : Nat} {A : Option Addr} {n c : Nat} {l : List Int} (h : OwnI w base A n c l) (hn : 0 < n) :
    ∃ g, A = some ⟨g, 0, none⟩ ∧ base ≤ g ∧ g < w.heap.size ∧ ∀ j v, l[j]? = some v → w.cell? ⟨g, j, none⟩ = some (.int .i64 v) := by
  obtain ⟨g, cap, hv, hb, hlt⟩ := World.ownsRow.form h hn
  injection hv with hA _ _
  subst hA
  refine ⟨g, rfl, hb, hlt, fun j v hj => ?_⟩
  have := World.ownsRow.cells h (g := g) rfl j (iv v) (by rw [List.getElem?_map, hj]; rfl)
  rw [at_add] at this
  simpa [iv] using this
/-- where fields of a call's own lie -/
theorem OwnRs.at_ {w : World} {base : Nat} {A : Option Addr} {n c : Nat} {ls : List (List UInt8)} (h : OwnRs w base A n c ls) (hn : 0 < n) :
    ∃ g, A = some ⟨g, 0, none⟩ ∧ base ≤ g ∧ g < w.heap.size ∧ ∀ j l, ls[j]? = some l → ∃ B d, w.cell? ⟨g, j, none⟩ = some (.slice B l.length d) ∧ OwnB w base B l.length d l := by
  obtain ⟨hl, us, ho, hin⟩ := h
  have hul : us.length = n := by simpa using ho.1
  obtain ⟨g, cap, hv, hb, hlt⟩ := World.ownsRow.form ho hn
  injection hv with hA _ _
  subst hA
  refine ⟨g, rfl, hb, hlt, fun j l hj => ?_⟩
  have hjn : j < us.length := by have := (List.getElem?_eq_some_iff.1 hj).1; omega
  obtain ⟨B, d, e, hB⟩ := hin j us[j] l (List.getElem?_eq_getElem hjn) hj
  have := World.ownsRow.cells ho (g := g) rfl j _ (List.getElem?_eq_getElem hjn)
  rw [at_add, e] at this
  exact ⟨B, d, by simpa using this, hB⟩
/-- cells of other blocks stay behind stores -/
theorem far1 {w : World} {g : Nat} {p : Addr} {v : Value} (h : w.cell? p = some v) (hne : p.block ≠ g) (i : Nat) (u : Value) : (w.setCell ⟨g, i, none⟩ u).cell? p = some v :=
  (World.cell?_setCell_other w _ p u (by intro e; exact hne (by rw [← e]))).trans h
theorem cell_drew {w : World} {p : Addr} {v : Value} (h : w.cell? p = some v) : w.drew.cell? p = some v := h
theorem kept_cell {w w' : World} {p : Addr} {v : Value} (h : w.cell? p = some v) (hb : Below w.heap.size w w') : w'.cell? p = some v := (hb.cell (cell_lt h)).trans h

theorem readNum_any (A : Option Addr) (n c : Nat) (l : List UInt8) (w : World) (h : Sl w A n c l) (hn : n ≤ 4294967296) :
    Calls Try.prog 87 #[.slice A n c] w fun e w' => Below w.heap.size w w' ∧ ((∃ v, rdNum l = some v ∧ e = .returned (.int .i64 v) ∧ 0 ≤ v ∧ v < 4611686018427387904) ∨ (rdNum l = none ∧ PnX e)) := by
  have H := Lib.hid (readNums_any 1 A n c l w h hn)
  have HD := Lib.hid (show rdNum l = match rdNums 1 l with | some [v] => some v | _ => none from rfl)
  have HRG := Lib.hid (fun vs => rdNums_range (k := 1) (b := l) (vs := vs))
  generalize rdNum l = r at *
  generalize rdNums 1 l = rr at *
  clear h hn
  go_enter Try.func87, Try.ntmps87
  go_wp2_with fail
  refine H.out.mono ?_
  rintro e w1 ⟨hb, ⟨vs, rfl, A1, c1, rfl, ho⟩ | ⟨rfl, k, rfl, hk0⟩⟩
  · obtain ⟨hl1, hrg⟩ := HRG.out vs rfl
    match vs, hl1 with
    | [v], _ =>
      obtain ⟨g, rfl, _, _, hc⟩ := ho.at_ (by omega)
      have c0 := hc 0 v rfl
      have HV := Lib.hid (hrg v (List.mem_cons_self ..))
      have HR := Lib.hid (show r = some v from HD.out)
      have HB := Lib.hid hb
      clear ho hc hrg hb HD
      go_wp2_with fail
      go_ret
      exact ⟨HB.out, .inl ⟨v, HR.out, rfl, HV.out⟩⟩
  · exact ⟨rfl, hb, .inr ⟨HD.out, _, rfl, by first | decide | assumption | exact HZ.out | exact HZ5.out⟩⟩
/-- an entry came back, if there is one; else a panic -/
def RdE (r : Option En) (w : World) (e : Ending) (w' : World) : Prop :=
  Below w.heap.size w w' ∧ ((∃ x, r = some x ∧ ∃ A c, e = .returned (.agg #[.int .i64 x.c, .int .i64 x.s, .int .i64 x.t, .slice A x.dig.length c]) ∧ BF (From w.heap.size) w' A c x.dig) ∨ (r = none ∧ PnX e))
theorem info_entry : (Try.prog.info? 24).map (·.size) = some 4 := by kernel_rfl
theorem BF.from_ {B B' : Nat} {w : World} {A : Option Addr} {c : Nat} {l : List UInt8} (h : BF (From B) w A c l) (hB : B' ≤ B) : BF (From B') w A c l := h.keep ⟨Nat.le_refl _, fun _ _ _ => rfl⟩ fun b hb _ => Nat.le_trans hB hb
theorem RdS.from_ {α : Type} {R : Rdr α} {B B' : Nat} {w : World} {A : Option Addr} {c : Nat} {l : List α} (h : RdS R (From B) w A c l) (hB : B' ≤ B) : RdS R (From B') w A c l := h.keep ⟨Nat.le_refl _, fun _ _ _ => rfl⟩ fun b hb _ => Nat.le_trans hB hb
/-- bytes whose blocks aren't block g stay behind stores into it -/
theorem BF.set {F : Nat → Prop} {w w' : World} {g : Nat} {A : Option Addr} {c : Nat} {l : List UInt8} (h : BF F w A c l) (hg : w.grownBy w' (some g)) (hne : ∀ b, F b → b ≠ g) : BF F w' A c l :=
  h.keep (Kp.of_grown hg fun b hb e => hne b hb (Option.some.inj e)) fun _ h _ => h

theorem readEntry_any (A : Option Addr) (n c : Nat) (l : List UInt8) (w : World) (h : Sl w A n c l) (hn : n ≤ 4294967296) :
    Calls Try.prog 65 #[.slice A n c] w (RdE (rdEn l) w) := by
  have HB := Lib.hid ((Below.refl w.heap.size w).alloc (Nat.le_refl _) (.cells #[.int .i64 0, .int .i64 0, .int .i64 0, .slice none 0 0] 24))
  have HK := Lib.hid (Bk.new w 24 [.int .i64 0, .int .i64 0, .int .i64 0, .slice none 0 0])
  have HS := Lib.hid (h.below HB.out)
  have HN := Lib.hid hn
  have HD := Lib.hid (show rdEn l = match rdFlds 2 l with
    | some [f0, f1] => (match rdNums 3 f0 with
      | some [x, y, z] => some ⟨x - 1, y, z, f1⟩
      | _ => none)
    | _ => none from rfl)
  clear h hn
  go_enter Try.func65, Try.ntmps65
  go_wp2_with fail
  refine (split_any A n c l _ (HS.out.rd) HS.out.1 HS.out.2.1 (by have := HN.out; omega)).mono ?_
  rintro e w1 ⟨hb1, ⟨hz, rfl⟩ | ⟨hz, A1, n1, c1, rfl, ho1⟩⟩
  · have HZ := Lib.hid (show ((splitN l).1 : Int) ≠ 0 by omega)
    have HR := Lib.hid (show rdFlds 2 l = none by unfold rdFlds; rw [if_neg (fun h => hz h.1)])
    have HB1 := Lib.hid (below_next HB.out hb1 HB.out.size)
    clear hz hb1
    go_wp2_with fail
    refine (mustR_no _ _ HZ.out _).mono ?_
    rintro e w2 ⟨rfl, rfl⟩
    exact ⟨rfl, HB1.out, .inr ⟨by rw [HD.out, HR.out], _, rfl, by first | decide | assumption | exact HZ.out | exact HZ5.out⟩⟩
  have HZ := Lib.hid hz
  have HB1 := Lib.hid (below_next HB.out hb1 HB.out.size)
  have HK1 := Lib.hid (HK.out.kept hb1)
  have HO1 := Lib.hid ho1
  have hl1 := ho1.1
  clear hz hb1 ho1
  go_wp2_with fail
  refine (mustR_yes _ _ _ _).mono ?_
  rintro e w2 ⟨rfl, rfl⟩
  go_wp2_with fail
  refine (exactlyR_any _ _ _ 2 _).mono ?_
  rintro e w2 ⟨rfl, ⟨hk, rfl⟩ | ⟨hk, rfl⟩⟩
  rotate_left
  · have HR := Lib.hid (show rdFlds 2 l = none by unfold rdFlds; rw [if_neg (fun h => hk (by omega))])
    exact ⟨rfl, HB1.out, .inr ⟨by rw [HD.out, HR.out], _, rfl, by first | decide | assumption | exact HZ.out | exact HZ5.out⟩⟩
  subst hk
  have HR := Lib.hid (show rdFlds 2 l = some (splitN l).2 by unfold rdFlds; rw [if_pos ⟨HZ.out, by omega⟩])
  obtain ⟨gf, rfl, hgf, hgl, hcf⟩ := HO1.out.at_ (by omega)
  match hfs : (splitN l).2, hl1 with
  | [f0, f1], _ =>
    rw [hfs] at HR hcf
    obtain ⟨B0, d0, q0, ob0⟩ := hcf 0 f0 rfl
    obtain ⟨B1, d1, q1, ob1⟩ := hcf 1 f1 rfl
    have HLN := Lib.hid (show f0.length ≤ 4294967296 by
      have h1 := split_fields HZ.out
      rw [hfs] at h1
      have := h1 f0 (List.mem_cons_self ..)
      omega)
    have HQ1 := Lib.hid q1
    have HQ0 := Lib.hid ob0
    have HOB := Lib.hid ob1
    have HGF := Lib.hid hgf
    clear hcf ob0 ob1 hfs q1 hgf
    go_wp2_with fail
    refine (readNums_any 3 B0 f0.length d0 f0 _ (Sl.own HQ0.out) HLN.out).mono ?_
    rintro e w3 ⟨hb3, ⟨vs, hvs, A3, c3, rfl, ho3⟩ | ⟨hvs, k, rfl, hk0⟩⟩
    rotate_left
    · exact ⟨rfl, below_next HB1.out hb3 HB1.out.size, .inr ⟨by rw [HD.out, HR.out]; simp only [hvs], _, rfl, by first | decide | assumption | exact HZ.out | exact HZ5.out⟩⟩
    obtain ⟨hl3, hrg⟩ := rdNums_range hvs
    match vs, hl3 with
    | [x, y, z], _ =>
      obtain ⟨gi, rfl, hgi, hgil, hci⟩ := ho3.at_ (by omega)
      have HX := Lib.hid (show rdEn l = some ⟨x - 1, y, z, f1⟩ by rw [HD.out, HR.out]; simp only [hvs])
      have xr := hrg x (by simp)
      have HXR := Lib.hid xr
      have i0 := hci 0 x rfl
      have i1 := hci 1 y rfl
      have i2 := hci 2 z rfl
      have q1 := kept_cell HQ1.out hb3
      have HB3 := Lib.hid (below_next HB1.out hb3 HB1.out.size)
      have HK3 := Lib.hid (HK1.out.kept hb3)
      have HF3 := Lib.hid ((BF.own HOB.out).below hb3)
      have hsz := HB1.out.size
      have ni : gi ≠ w.heap.size := by have := HK1.out.lt; omega
      have nf : gf ≠ w.heap.size := by have := HGF.out; simp at this; omega
      have y3 : IntKind.i64.wrap (x - 1) = x - 1 := by rw [IntKind.wrap_i64]; omega
      obtain ⟨xr0, xr1⟩ := xr
      have k0 := HK3.out.at_ (i := 0) rfl
      have k1 := HK3.out.at_ (i := 1) rfl
      have k2 := HK3.out.at_ (i := 2) rfl
      have k3 := HK3.out.at_ (i := 3) rfl
      have z0 := HK3.out.frozen 0
      have z1 := HK3.out.frozen 1
      have z2 := HK3.out.frozen 2
      have z3 := HK3.out.frozen 3
      clear hci hb3 ho3 hvs hrg hgi hgil hsz q0 HD HQ0 HLN
      go_wp2_with fail
      refine wp_region_held_drew (S := fun w' => w'.cell? ⟨gi, 0, none⟩ = some (.int .i64 x) ∧ w'.cell? ⟨gi, 1, none⟩ = some (.int .i64 y) ∧ w'.cell? ⟨gi, 2, none⟩ = some (.int .i64 z) ∧ w'.cell? ⟨gf, 1, none⟩ = some (.slice B1 f1.length d1)) (by kernel_rfl) (⟨i0, i1, i2, q1⟩) (fun hHeld => ?_)
      refine wpAnyH_take (i := 0) (oi := ({ dst := some 15, op := Op.move (Operand.tmp 4), type := 70, pos := "bytes.go:85", after := #[], guard := none } : Oper)) (v := ?_) rfl (by kernel_rfl) (by kernel_rfl) (by kernel_rfl) (fun _ _ _ h => h) (Or.inl ⟨by rfl, ?_⟩) (by assumption) ?_
      rotate_left
      · intro w hSw; (try dsimp only at hSw); go_simp; first | done | with_reducible rfl
      try simp only [Act.put, List.setIfInBounds_toArray, List.set_cons_zero, List.set_cons_succ]
      refine wpAnyH_take (i := 1) (oi := ({ dst := some 16, op := Op.indexAddr 70 (Operand.tmp 15) (Operand.const (Value.int IntKind.i64 0)), type := 0, pos := "bytes.go:85", after := #[{ on := 0, ground := Ground.data }], guard := none } : Oper)) (v := ?_) rfl (by kernel_rfl) (by kernel_rfl) (by kernel_rfl) (fun _ _ _ h => h) (Or.inl ⟨by rfl, ?_⟩) (by assumption) ?_
      rotate_left
      · intro w hSw; (try dsimp only at hSw); go_simp; first | done | with_reducible rfl
      try simp only [Act.put, List.setIfInBounds_toArray, List.set_cons_zero, List.set_cons_succ]
      refine wpAnyH_take (i := 2) (oi := ({ dst := some 17, op := Op.load 3 (Operand.tmp 16), type := 3, pos := "bytes.go:85", after := #[{ on := 1, ground := Ground.data }], guard := none } : Oper)) (v := ?_) rfl (by kernel_rfl) (by kernel_rfl) (by kernel_rfl) (fun _ _ _ h => h) (Or.inl ⟨by rfl, ?_⟩) (by assumption) ?_
      rotate_left
      · intro w hSw; (try dsimp only at hSw); go_simp; first | done | with_reducible rfl
      try simp only [Act.put, List.setIfInBounds_toArray, List.set_cons_zero, List.set_cons_succ]
      refine wpAnyH_take (i := 3) (oi := ({ dst := some 18, op := Op.binOp BinOp.sub 3 (Operand.tmp 17) (Operand.const (Value.int IntKind.i64 1)) 3, type := 3, pos := "bytes.go:85", after := #[{ on := 2, ground := Ground.data }], guard := none } : Oper)) (v := ?_) rfl (by kernel_rfl) (by kernel_rfl) (by kernel_rfl) (fun _ _ _ h => h) (Or.inl ⟨by rfl, ?_⟩) (by assumption) ?_
      rotate_left
      · intro w hSw; (try dsimp only at hSw); go_simp; first | done | with_reducible rfl
      try simp only [Act.put, List.setIfInBounds_toArray, List.set_cons_zero, List.set_cons_succ]
      refine wpAnyH_take (i := 4) (oi := ({ dst := some 19, op := Op.move (Operand.tmp 4), type := 70, pos := "bytes.go:85", after := #[], guard := none } : Oper)) (v := ?_) rfl (by kernel_rfl) (by kernel_rfl) (by kernel_rfl) (fun _ _ _ h => h) (Or.inl ⟨by rfl, ?_⟩) (by assumption) ?_
      rotate_left
      · intro w hSw; (try dsimp only at hSw); go_simp; first | done | with_reducible rfl
      try simp only [Act.put, List.setIfInBounds_toArray, List.set_cons_zero, List.set_cons_succ]
      refine wpAnyH_take (i := 5) (oi := ({ dst := some 20, op := Op.indexAddr 70 (Operand.tmp 19) (Operand.const (Value.int IntKind.i64 1)), type := 0, pos := "bytes.go:85", after := #[{ on := 4, ground := Ground.data }], guard := none } : Oper)) (v := ?_) rfl (by kernel_rfl) (by kernel_rfl) (by kernel_rfl) (fun _ _ _ h => h) (Or.inl ⟨by rfl, ?_⟩) (by assumption) ?_
      rotate_left
      · intro w hSw; (try dsimp only at hSw); go_simp; first | done | with_reducible rfl
      try simp only [Act.put, List.setIfInBounds_toArray, List.set_cons_zero, List.set_cons_succ]
      refine wpAnyH_take (i := 6) (oi := ({ dst := some 21, op := Op.load 3 (Operand.tmp 20), type := 3, pos := "bytes.go:85", after := #[{ on := 5, ground := Ground.data }], guard := none } : Oper)) (v := ?_) rfl (by kernel_rfl) (by kernel_rfl) (by kernel_rfl) (fun _ _ _ h => h) (Or.inl ⟨by rfl, ?_⟩) (by assumption) ?_
      rotate_left
      · intro w hSw; (try dsimp only at hSw); go_simp; first | done | with_reducible rfl
      try simp only [Act.put, List.setIfInBounds_toArray, List.set_cons_zero, List.set_cons_succ]
      refine wpAnyH_take (i := 7) (oi := ({ dst := some 22, op := Op.move (Operand.tmp 4), type := 70, pos := "bytes.go:85", after := #[], guard := none } : Oper)) (v := ?_) rfl (by kernel_rfl) (by kernel_rfl) (by kernel_rfl) (fun _ _ _ h => h) (Or.inl ⟨by rfl, ?_⟩) (by assumption) ?_
      rotate_left
      · intro w hSw; (try dsimp only at hSw); go_simp; first | done | with_reducible rfl
      try simp only [Act.put, List.setIfInBounds_toArray, List.set_cons_zero, List.set_cons_succ]
      refine wpAnyH_take (i := 8) (oi := ({ dst := some 23, op := Op.indexAddr 70 (Operand.tmp 22) (Operand.const (Value.int IntKind.i64 2)), type := 0, pos := "bytes.go:85", after := #[{ on := 7, ground := Ground.data }], guard := none } : Oper)) (v := ?_) rfl (by kernel_rfl) (by kernel_rfl) (by kernel_rfl) (fun _ _ _ h => h) (Or.inl ⟨by rfl, ?_⟩) (by assumption) ?_
      rotate_left
      · intro w hSw; (try dsimp only at hSw); go_simp; first | done | with_reducible rfl
      try simp only [Act.put, List.setIfInBounds_toArray, List.set_cons_zero, List.set_cons_succ]
      refine wpAnyH_take (i := 9) (oi := ({ dst := some 24, op := Op.load 3 (Operand.tmp 23), type := 3, pos := "bytes.go:85", after := #[{ on := 8, ground := Ground.data }], guard := none } : Oper)) (v := ?_) rfl (by kernel_rfl) (by kernel_rfl) (by kernel_rfl) (fun _ _ _ h => h) (Or.inl ⟨by rfl, ?_⟩) (by assumption) ?_
      rotate_left
      · intro w hSw; (try dsimp only at hSw); go_simp; first | done | with_reducible rfl
      try simp only [Act.put, List.setIfInBounds_toArray, List.set_cons_zero, List.set_cons_succ]
      refine wpAnyH_take (i := 10) (oi := ({ dst := some 25, op := Op.move (Operand.tmp 3), type := 44, pos := "bytes.go:85", after := #[], guard := none } : Oper)) (v := ?_) rfl (by kernel_rfl) (by kernel_rfl) (by kernel_rfl) (fun _ _ _ h => h) (Or.inl ⟨by rfl, ?_⟩) (by assumption) ?_
      rotate_left
      · intro w hSw; (try dsimp only at hSw); go_simp; first | done | with_reducible rfl
      try simp only [Act.put, List.setIfInBounds_toArray, List.set_cons_zero, List.set_cons_succ]
      refine wpAnyH_take (i := 11) (oi := ({ dst := some 26, op := Op.indexAddr 44 (Operand.tmp 25) (Operand.const (Value.int IntKind.i64 1)), type := 0, pos := "bytes.go:85", after := #[{ on := 10, ground := Ground.data }], guard := none } : Oper)) (v := ?_) rfl (by kernel_rfl) (by kernel_rfl) (by kernel_rfl) (fun _ _ _ h => h) (Or.inl ⟨by rfl, ?_⟩) (by assumption) ?_
      rotate_left
      · intro w hSw; (try dsimp only at hSw); go_simp; first | done | with_reducible rfl
      try simp only [Act.put, List.setIfInBounds_toArray, List.set_cons_zero, List.set_cons_succ]
      refine wpAnyH_take (i := 12) (oi := ({ dst := some 27, op := Op.load 22 (Operand.tmp 26), type := 22, pos := "bytes.go:85", after := #[{ on := 11, ground := Ground.data }], guard := none } : Oper)) (v := ?_) rfl (by kernel_rfl) (by kernel_rfl) (by kernel_rfl) (fun _ _ _ h => h) (Or.inl ⟨by rfl, ?_⟩) (by assumption) ?_
      rotate_left
      · intro w hSw; (try dsimp only at hSw); go_simp; first | done | with_reducible rfl
      try simp only [Act.put, List.setIfInBounds_toArray, List.set_cons_zero, List.set_cons_succ]
      refine wpAnyH_take (i := 13) (oi := ({ dst := some 28, op := Op.build 24 #[(0, Operand.tmp 18), (1, Operand.tmp 21), (2, Operand.tmp 24), (3, Operand.tmp 27)], type := 24, pos := "bytes.go:85", after := #[{ on := 3, ground := Ground.data }, { on := 6, ground := Ground.data }, { on := 9, ground := Ground.data }, { on := 12, ground := Ground.data }], guard := none } : Oper)) (v := ?_) rfl (by kernel_rfl) (by kernel_rfl) (by kernel_rfl) (fun _ _ _ h => h) (Or.inl ⟨by rfl, ?_⟩) (by assumption) ?_
      rotate_left
      · intro w hSw; (try dsimp only at hSw); go_simp; first | done | with_reducible rfl
      try simp only [Act.put, List.setIfInBounds_toArray, List.set_cons_zero, List.set_cons_succ]
      refine wpAnyH_ready (rs := [14]) (by kernel_rfl) (by simp) ?_
      refine AllReadyH.cons (o := ({ dst := none, op := Op.store 24 (Operand.tmp 2) (Operand.tmp 28), type := 0, pos := "bytes.go:85", after := #[{ on := 13, ground := Ground.data }, { on := 0, ground := Ground.phase }, { on := 1, ground := Ground.phase }, { on := 2, ground := Ground.phase }, { on := 3, ground := Ground.phase }, { on := 4, ground := Ground.phase }, { on := 5, ground := Ground.phase }, { on := 6, ground := Ground.phase }, { on := 7, ground := Ground.phase }, { on := 8, ground := Ground.phase }, { on := 9, ground := Ground.phase }, { on := 10, ground := Ground.phase }, { on := 11, ground := Ground.phase }, { on := 12, ground := Ground.phase }, { on := 13, ground := Ground.phase }], guard := none } : Oper)) rfl (fun K hK => ?_) AllReadyH.nil
      go_simp
      refine hK.out _ _ (⟨cell_drew (far1 (far1 (far1 (far1 i0 ni 0 _) ni 1 _) ni 2 _) ni 3 _), cell_drew (far1 (far1 (far1 (far1 i1 ni 0 _) ni 1 _) ni 2 _) ni 3 _), cell_drew (far1 (far1 (far1 (far1 i2 ni 0 _) ni 1 _) ni 2 _) ni 3 _), cell_drew (far1 (far1 (far1 (far1 q1 nf 0 _) nf 1 _) nf 2 _) nf 3 _)⟩) (fun hHeld => ?_)
      clear hK K
      try simp only [Act.put, List.setIfInBounds_toArray, List.set_cons_zero, List.set_cons_succ]
      refine wpAnyH_done (by kernel_rfl) ?_ _
      have kk := (((HK3.out.set 0 (.int .i64 (x - 1))).set 1 (.int .i64 y)).set 2 (.int .i64 z)).set 3 (.slice B1 f1.length d1)
      have gr := grown_set (grown_set (grown_set (grown_set (grown_refl w3 (some w.heap.size)) 0 (.int .i64 (x - 1))) 1 (.int .i64 y)) 2 (.int .i64 z)) 3 (.slice B1 f1.length d1)
      have hf := HF3.out.set gr (fun b hb => by have := HK1.out.lt; unfold From at hb; simp at hb; omega)
      have hb := below_drew (HB3.out.grown gr HB3.out.size (fun g hg => by cases hg; omega))
      go_wp2_with fail
      refine bodyPost_ret_by (results_row1 rfl _ _ w.heap.size 24 _ _ rfl (bk_drew kk) Try.underlying24 rfl info_entry) rfl ?_
      exact ⟨hb, .inl ⟨_, HX.out, B1, d1, rfl, (BF.from_ hf (by simp)).below (below_drew (Below.refl _ _))⟩⟩
end Go.Proofs.Ytmgmmbgjmnklkaa
