/-
  The program's reading of lists of letters, and of what is proven. Walks; no statement.
-/
import Derived.Test.YtmgmmbgjmnklkaaMsgRead2
namespace Go.Proofs.Ytmgmmbgjmnklkaa
set_option maxRecDepth 100000
open Go.RowKit
open Pk
set_option linter.unusedVariables false

/-- a list came back, if there is one; else a panic -/
def RdSP {α : Type} (R : Rdr α) (r : Option (List α)) (w : World) (e : Ending) (w' : World) : Prop :=
  Below w.heap.size w w' ∧ ((∃ xs, r = some xs ∧ ∃ A c, e = .returned (.slice A xs.length c) ∧ RdS R (From w.heap.size) w' A c xs) ∨ (r = none ∧ PnX e))
theorem news_alloc (w : World) (cs : List Value) (t : TypeId) : ∀ j u, cs[j]? = some u → (w.alloc (.cells cs.toArray t)).cell? ((⟨w.heap.size, 0, none⟩ : Addr).add j) = some u :=
  fun j u hu => World.news_of_block (heap_alloc_new w _) j u (by simpa using hu)
theorem info_letterA : (Try.prog.info? 46).map (fun i => (i.zero, i.size, i.bytes)) = some (some (.agg #[.int .i64 0, .int .i64 0, .int .i64 0, .slice none 0 0, .slice none 0 0]), 5, 72) := by kernel_rfl
theorem info_provenA : (Try.prog.info? 62).map (fun i => (i.zero, i.size, i.bytes)) = some (some (.agg #[.int .i64 0, .int .i64 0, .int .i64 0, .int .i64 0, .int .i64 0, .slice none 0 0, .slice none 0 0]), 7, 88) := by kernel_rfl
theorem info_proven1 : (Try.prog.info? 62).map (·.size) = some 7 := by kernel_rfl
theorem form_of {w : World} {base : Nat} {e : TypeId} {sz n : Nat} {v : Value} {xs : List Value} (h : w.ownsRow base e sz v (n + 1) xs) : ∃ A c, v = .slice A (n + 1) c := by
  rcases h.2 with ⟨_, e⟩ | ⟨g, cap, cur, e, _⟩
  · omega
  · exact ⟨_, _, e⟩
theorem split_len {l : List UInt8} (h : (splitN l).1 = 0) : (splitN l).2.length ≤ 1024 := by
  have hb := (joinN_splitN h).2
  unfold joinBad at hb
  simp only [Bool.or_eq_false_iff, decide_eq_false_iff_not] at hb
  omega
/-- a proven thing came back, if there is one; else a panic -/
def RdP (r : Option Pv) (w : World) (e : Ending) (w' : World) : Prop :=
  Below w.heap.size w w' ∧ ((∃ x, r = some x ∧ ∃ A c B d, e = .returned (.agg #[.int .i64 x.seq, .int .i64 x.view, .int .i64 x.e.c, .int .i64 x.e.s, .int .i64 x.e.t, .slice A x.e.dig.length c, .slice B x.votes.length d]) ∧ BF (From w.heap.size) w' A c x.e.dig ∧ RdS RLt (From w.heap.size) w' B d x.votes) ∨ (r = none ∧ PnX e))

theorem readListL_any (A : Option Addr) (n c : Nat) (l : List UInt8) (w : World) (h : Sl w A n c l) (hn : n ≤ 4294967296) :
    Calls Try.prog 116 #[.slice A n c, .func (.func 63) #[] #[]] w (RdSP RLt (rdLts l) w) := by
  obtain ⟨i0, hi, hz0, hz1, hz2⟩ := info_parts info_letterA
  have HS := Lib.hid h
  have HN := Lib.hid hn
  have HD := Lib.hid (show rdLts l = match rdSplit l with | none => none | some fs => allX rdLt fs from rfl)
  clear h hn
  go_enter Try.func116, Try.ntmps116
  go_wp2_with fail
  refine (split_any A n c l _ HS.out.rd HS.out.1 HS.out.2.1 (by have := HN.out; omega)).mono ?_
  rintro e w1 ⟨hb1, ⟨hz, rfl⟩ | ⟨hz, A1, n1, c1, rfl, ho1⟩⟩
  · have HZ := Lib.hid (show ((splitN l).1 : Int) ≠ 0 by omega)
    have HR := Lib.hid (show rdSplit l = none by unfold rdSplit; rw [if_neg hz])
    have HB1 := Lib.hid hb1
    clear hz hb1
    go_wp2_with fail
    refine (mustR_no _ _ HZ.out _).mono ?_
    rintro e w2 ⟨rfl, rfl⟩
    exact ⟨rfl, HB1.out, .inr ⟨by rw [HD.out, HR.out], _, rfl, by first | decide | assumption | exact HZ.out | exact HZ5.out⟩⟩
  have HR := Lib.hid (show rdSplit l = some (splitN l).2 by unfold rdSplit; rw [if_pos hz])
  have HB1 := Lib.hid hb1
  have HF := Lib.hid (RdS.of_own ho1)
  have HSF := Lib.hid (split_fields hz)
  have hfn := split_len hz
  obtain rfl : (splitN l).2.length = n1 := ho1.1
  clear hz hb1 ho1
  generalize (splitN l).2 = fs at *
  go_wp2_with fail
  refine (mustR_yes _ _ _ _).mono ?_
  rintro e w2 ⟨rfl, rfl⟩
  go_wp2_with fail
  go_loopw [5, 14] (fun s i wr => ∃ (A' : Option Addr) (n' c' k : Nat) (acc : List Lt), k ≤ fs.length ∧ s = .slice A' n' c' ∧ i = .int .i64 k ∧ OwnS RLt 46 (From w.heap.size) w1.heap.size wr A' n' c' acc ∧ allX rdLt (fs.take k) = some acc ∧ Below w1.heap.size w1 wr) (fun _ i _ => fs.length - (intOf i).toNat)
  case atStart => exact ⟨none, 0, 0, 0, [], by omega, rfl, rfl, OwnS.nil_ _ _ _ _ _, rfl, Below.refl _ _⟩
  case round =>
    obtain ⟨A', n', c', k, acc, hk, rfl, rfl, ho, ha, hb⟩ := hrel
    have hal := allX_len ha
    have hol := ho.1
    rw [List.length_take] at hal
    obtain rfl : n' = k := by omega
    have HB := Lib.hid hb
    by_cases hlt : n' < fs.length
    · obtain ⟨f, hf⟩ : ∃ f, fs[n']? = some f := ⟨_, List.getElem?_eq_getElem hlt⟩
      obtain ⟨x, B, d, rfl, hxb, hc, hB⟩ := (HF.out.below hb).b1 hf
      have hmem : f ∈ fs := by obtain ⟨hh, rfl⟩ := List.getElem?_eq_some_iff.1 hf; exact List.getElem_mem hh
      have HSN := Lib.hid (show fs.take (n' + 1) = fs.take n' ++ [f] by obtain ⟨hh, rfl⟩ := List.getElem?_eq_some_iff.1 hf; exact List.take_succ_eq_append_getElem hh)
      have HM := Lib.hid hmem
      have HO := Lib.hid ho
      have HA := Lib.hid ha
      have HC := Lib.hid (readLetter_any B f.length d f wr hB.sl (by have := HSF.out f hmem; omega))
      have y1 : (0 : Int) ≤ (n' : Int) := by omega
      have y2 : (n' : Int) < (fs.length : Int) := by omega
      clear hf hb hB ho ha hmem hal hol hxb
      go_wp2_with fail
      refine HC.out.mono ?_
      rintro e w3 ⟨hb3, ⟨y, hy, A3, c3, B3, d3, rfl, hr3⟩ | ⟨hy, kk, rfl, hk0⟩⟩
      · have HB3 := Lib.hid (below_next HB.out hb3 HB.out.size)
        have HBW := Lib.hid (below_next HB1.out HB3.out HB1.out.size)
        have hsw := HB3.out.size
        have HBG := Lib.hid (fun g hg => HO.out.block g hg)
        have HBL := Lib.hid (fun g hg => HO.out.block_lt g hg)
        have HS3 := Lib.hid hb3.size
        have HWR := Lib.hid (show w.heap.size ≤ wr.heap.size from Nat.le_trans HB1.out.size HB.out.size)
        obtain ⟨hl0, css, hcl, hou, hin⟩ := HO.out.below hb3
        have HL0 := Lib.hid hl0
        have HCL := Lib.hid hcl
        have HIN := Lib.hid hin
        have HY := Lib.hid hy
        have HRY := Lib.hid (show RLt.rd (From wr.heap.size) w3 [.int .i64 y.f1, .int .i64 y.f2, .int .i64 y.r, .slice A3 y.body.length c3, .slice B3 y.tags.length d3] y from ⟨A3, c3, B3, d3, rfl, hr3⟩)
        clear hb3 hl0 hcl hin hy hr3 hc
        go_wp2_with (at_builtin
                     refine wpList_append_own_at _ rfl _ _ 25 rfl w1.heap.size 46 i0 _ 5 72 Try.underlying25 hi hz0 hz1 hz2 rfl (by omega) (.slice A' n' c') n' css.flatten rfl (World.ownsRow.alloc hou _) ⟨w3.heap.size, 0, none⟩ 1 1 [.int .i64 y.f1, .int .i64 y.f2, .int .i64 y.r, .slice A3 y.body.length c3, .slice B3 y.tags.length d3] rfl rfl
                       (news_alloc w3 [.int .i64 y.f1, .int .i64 y.f2, .int .i64 y.r, .slice A3 y.body.length c3, .slice B3 y.tags.length d3] 46) (by simp [Value.oneCell']) (by simp only [maxLen]; omega) (by omega) (by simp; omega) ?_
                     intro v4 w4 hown4 hg4 hnil4 hrow4)
        obtain ⟨A4, c4, rfl⟩ := form_of hown4
        have hB4 := (Below.refl w3.heap.size w3).alloc (Nat.le_refl _) (.cells #[.int .i64 y.f1, .int .i64 y.f2, .int .i64 y.r, .slice A3 y.body.length c3, .slice B3 y.tags.length d3] 46)
        have HX := Lib.hid (show OwnS RLt 46 (From w.heap.size) w1.heap.size w4 A4 (n' + 1) c4 (acc ++ [y]) from
          OwnS.push (R := RLt) (G := From w.heap.size) (F := From wr.heap.size) (w := w3.alloc (.cells #[.int .i64 y.f1, .int .i64 y.f2, .int .i64 y.r, .slice A3 y.body.length c3, .slice B3 y.tags.length d3] 46)) HL0.out HCL.out (fun j y cs hy hc => RLt.below (HIN.out j y cs hy hc) hB4) (RLt.below HRY.out hB4)
            (fun b hb _ => ⟨Nat.le_trans HWR.out hb, fun e => by have := HBL.out b e.symm; unfold From at hb; omega⟩) hg4 hown4 hrow4)
        have HB4 := Lib.hid ((HB3.out.alloc HB3.out.size (.cells #[.int .i64 y.f1, .int .i64 y.f2, .int .i64 y.r, .slice A3 y.body.length c3, .slice B3 y.tags.length d3] 46)).grown hg4 (by have := HB3.out.size; simp; omega) (fun g hg => HBG.out g hg))
        clear hown4 hg4 hrow4 hB4 hou hnil4
        go_roundw
        case rel => exact ⟨A4, n' + 1, c4, n' + 1, acc ++ [y], by omega, rfl, by go_num, HX.out, by rw [HSN.out]; exact allX_snoc HA.out HY.out, HB4.out⟩
        case measure => simp [intOf]; omega
      · exact ⟨rfl, below_next HB1.out (below_next HB.out hb3 HB.out.size) HB1.out.size, .inr ⟨by rw [HD.out, HR.out]; exact allX_none HM.out hy, _, rfl, by first | decide | assumption | exact HZ.out | exact HZ5.out⟩⟩
    · have e : fs.take n' = fs := List.take_of_length_le (by omega)
      rw [e] at ha
      have HP := Lib.hid (show rdLts l = some acc by rw [HD.out, HR.out]; exact ha)
      obtain rfl : acc.length = n' := hol
      have HX := Lib.hid (ho.rds (fun b hb => Nat.le_trans HB1.out.size hb))
      clear e ha hb ho hal
      go_wp2_with fail
      go_ret
      exact ⟨below_next HB1.out HB.out HB1.out.size, .inl ⟨acc, HP.out, A', c', rfl, HX.out⟩⟩

theorem readProven_any (A : Option Addr) (n c : Nat) (l : List UInt8) (w : World) (h : Sl w A n c l) (hn : n ≤ 4294967296) :
    Calls Try.prog 118 #[.slice A n c] w (RdP (rdPv l) w) := by
  have HB := Lib.hid ((Below.refl w.heap.size w).alloc (Nat.le_refl _) (.cells #[.int .i64 0, .int .i64 0, .int .i64 0, .int .i64 0, .int .i64 0, .slice none 0 0, .slice none 0 0] 62))
  have HK := Lib.hid (Bk.new w 62 [.int .i64 0, .int .i64 0, .int .i64 0, .int .i64 0, .int .i64 0, .slice none 0 0, .slice none 0 0])
  have HS := Lib.hid (h.below HB.out)
  have HN := Lib.hid hn
  have HD := Lib.hid (show rdPv l = match rdFlds 3 l with
    | some [f0, f1, f2] => (match rdNums 2 f0 with
      | some [x, y] => (match rdEn f1 with
        | some e => (match rdLts f2 with
          | some v => some ⟨x, y, e, v⟩
          | none => none)
        | none => none)
      | _ => none)
    | _ => none from rfl)
  clear h hn
  go_enter Try.func118, Try.ntmps118
  go_wp2_with fail
  refine (split_any A n c l _ (HS.out.rd) HS.out.1 HS.out.2.1 (by have := HN.out; omega)).mono ?_
  rintro e w1 ⟨hb1, ⟨hz, rfl⟩ | ⟨hz, A1, n1, c1, rfl, ho1⟩⟩
  · have HZ := Lib.hid (show ((splitN l).1 : Int) ≠ 0 by omega)
    have HR := Lib.hid (show rdFlds 3 l = none by unfold rdFlds; rw [if_neg (fun h => hz h.1)])
    have HB1 := Lib.hid (below_next HB.out hb1 HB.out.size)
    clear hz hb1
    go_wp2_with fail
    refine (mustR_no _ _ HZ.out _).mono ?_
    rintro e w2 ⟨rfl, rfl⟩
    exact ⟨rfl, HB1.out, .inr ⟨by rw [HD.out, HR.out], _, rfl, by first | decide | assumption | exact HZ.out | exact HZ5.out⟩⟩
  have HZ := Lib.hid hz
  have HB1 := Lib.hid (below_next HB.out hb1 HB.out.size)
  have HK1 := Lib.hid (HK.out.kept hb1)
  have HO1 := Lib.hid ho1
  have hl1 := ho1.1
  clear hz hb1 ho1
  go_wp2_with fail
  refine (mustR_yes _ _ _ _).mono ?_
  rintro e w2 ⟨rfl, rfl⟩
  go_wp2_with fail
  refine (exactlyR_any _ _ _ 3 _).mono ?_
  rintro e w2 ⟨rfl, ⟨hk, rfl⟩ | ⟨hk, rfl⟩⟩
  rotate_left
  · have HR := Lib.hid (show rdFlds 3 l = none by unfold rdFlds; rw [if_neg (fun h => hk (by omega))])
    exact ⟨rfl, HB1.out, .inr ⟨by rw [HD.out, HR.out], _, rfl, by first | decide | assumption | exact HZ.out | exact HZ5.out⟩⟩
  subst hk
  have HR := Lib.hid (show rdFlds 3 l = some (splitN l).2 by unfold rdFlds; rw [if_pos ⟨HZ.out, by omega⟩])
  obtain ⟨gf, rfl, hgf, hgl, hcf⟩ := HO1.out.at_ (by omega)
  match hfs : (splitN l).2, hl1 with
  | [f0, f1, f2], _ =>
    rw [hfs] at HR hcf
    have hsf := split_fields HZ.out
    rw [hfs] at hsf
    obtain ⟨B0, d0, q0, ob0⟩ := hcf 0 f0 rfl
    obtain ⟨B1, d1, q1, ob1⟩ := hcf 1 f1 rfl
    obtain ⟨B2, d2, q2, ob2⟩ := hcf 2 f2 rfl
    have HLN := Lib.hid (show f0.length ≤ 4294967296 by have := hsf f0 (by simp); omega)
    have HLN1 := Lib.hid (show f1.length ≤ 4294967296 by have := hsf f1 (by simp); omega)
    have HLN2 := Lib.hid (show f2.length ≤ 4294967296 by have := hsf f2 (by simp); omega)
    have HQ1 := Lib.hid q1
    have HQ2 := Lib.hid q2
    have HQ0 := Lib.hid ob0
    have HOB := Lib.hid ob1
    have HOB2 := Lib.hid ob2
    have HGF := Lib.hid hgf
    clear hcf ob0 ob1 ob2 hfs q1 q2 hgf hsf
    go_wp2_with fail
    refine (readNums_any 2 B0 f0.length d0 f0 _ (Sl.own HQ0.out) HLN.out).mono ?_
    rintro e w3 ⟨hb3, ⟨vs, hvs, A3, c3, rfl, ho3⟩ | ⟨hvs, k, rfl, hk0⟩⟩
    rotate_left
    · exact ⟨rfl, below_next HB1.out hb3 HB1.out.size, .inr ⟨by rw [HD.out, HR.out]; simp only [hvs], _, rfl, by first | decide | assumption | exact HZ.out | exact HZ5.out⟩⟩
    obtain ⟨hl3, hrg⟩ := rdNums_range hvs
    match vs, hl3 with
    | [x, y], _ =>
      obtain ⟨gi, rfl, hgi, hgil, hci⟩ := ho3.at_ (by omega)
      have HVS := Lib.hid hvs
      have i0 := hci 0 x rfl
      have i1 := hci 1 y rfl
      have q1 := kept_cell HQ1.out hb3
      have q2 := kept_cell HQ2.out hb3
      have HB3 := Lib.hid (below_next HB1.out hb3 HB1.out.size)
      have HK3 := Lib.hid (HK1.out.kept hb3)
      have HT1 := Lib.hid ((Sl.own HOB.out).below hb3)
      have HT2 := Lib.hid ((Sl.own HOB2.out).below hb3)
      have hsz := HB1.out.size
      have ni : gi ≠ w.heap.size := by have := HK1.out.lt; omega
      have nf : gf ≠ w.heap.size := by have := HGF.out; simp at this; omega
      have HLT3 := Lib.hid (show w.heap.size < w3.heap.size from HK3.out.lt)
      clear hci hb3 ho3 hrg hgi hgil hsz q0 HQ0 HLN hvs
      go_wp2_with fail
      refine wp_region_held_drew (S := fun w' => w'.cell? ⟨gi, 0, none⟩ = some (.int .i64 x) ∧ w'.cell? ⟨gi, 1, none⟩ = some (.int .i64 y) ∧ w'.cell? ⟨gf, 1, none⟩ = some (.slice B1 f1.length d1) ∧ w'.cell? ⟨gf, 2, none⟩ = some (.slice B2 f2.length d2)) (by kernel_rfl) (⟨i0, i1, q1, q2⟩) (fun hHeld => ?_)
      refine wpAnyH_take (i := 0) (oi := ({ dst := some 15, op := Op.move (Operand.tmp 4), type := 70, pos := "bytes.go:110", after := #[], guard := none } : Oper)) (v := ?_) rfl (by kernel_rfl) (by kernel_rfl) (by kernel_rfl) (fun _ _ _ h => h) (Or.inl ⟨by rfl, ?_⟩) (by assumption) ?_
      rotate_left
      · intro w hSw; (try dsimp only at hSw); go_simp; first | done | with_reducible rfl
      try simp only [Act.put, List.setIfInBounds_toArray, List.set_cons_zero, List.set_cons_succ]
      refine wpAnyH_take (i := 1) (oi := ({ dst := some 16, op := Op.indexAddr 70 (Operand.tmp 15) (Operand.const (Value.int IntKind.i64 0)), type := 0, pos := "bytes.go:110", after := #[{ on := 0, ground := Ground.data }], guard := none } : Oper)) (v := ?_) rfl (by kernel_rfl) (by kernel_rfl) (by kernel_rfl) (fun _ _ _ h => h) (Or.inl ⟨by rfl, ?_⟩) (by assumption) ?_
      rotate_left
      · intro w hSw; (try dsimp only at hSw); go_simp; first | done | with_reducible rfl
      try simp only [Act.put, List.setIfInBounds_toArray, List.set_cons_zero, List.set_cons_succ]
      refine wpAnyH_take (i := 2) (oi := ({ dst := some 17, op := Op.load 3 (Operand.tmp 16), type := 3, pos := "bytes.go:110", after := #[{ on := 1, ground := Ground.data }], guard := none } : Oper)) (v := ?_) rfl (by kernel_rfl) (by kernel_rfl) (by kernel_rfl) (fun _ _ _ h => h) (Or.inl ⟨by rfl, ?_⟩) (by assumption) ?_
      rotate_left
      · intro w hSw; (try dsimp only at hSw); go_simp; first | done | with_reducible rfl
      try simp only [Act.put, List.setIfInBounds_toArray, List.set_cons_zero, List.set_cons_succ]
      refine wpAnyH_take (i := 3) (oi := ({ dst := some 18, op := Op.move (Operand.tmp 4), type := 70, pos := "bytes.go:110", after := #[], guard := none } : Oper)) (v := ?_) rfl (by kernel_rfl) (by kernel_rfl) (by kernel_rfl) (fun _ _ _ h => h) (Or.inl ⟨by rfl, ?_⟩) (by assumption) ?_
      rotate_left
      · intro w hSw; (try dsimp only at hSw); go_simp; first | done | with_reducible rfl
      try simp only [Act.put, List.setIfInBounds_toArray, List.set_cons_zero, List.set_cons_succ]
      refine wpAnyH_take (i := 4) (oi := ({ dst := some 19, op := Op.indexAddr 70 (Operand.tmp 18) (Operand.const (Value.int IntKind.i64 1)), type := 0, pos := "bytes.go:110", after := #[{ on := 3, ground := Ground.data }], guard := none } : Oper)) (v := ?_) rfl (by kernel_rfl) (by kernel_rfl) (by kernel_rfl) (fun _ _ _ h => h) (Or.inl ⟨by rfl, ?_⟩) (by assumption) ?_
      rotate_left
      · intro w hSw; (try dsimp only at hSw); go_simp; first | done | with_reducible rfl
      try simp only [Act.put, List.setIfInBounds_toArray, List.set_cons_zero, List.set_cons_succ]
      refine wpAnyH_take (i := 5) (oi := ({ dst := some 20, op := Op.load 3 (Operand.tmp 19), type := 3, pos := "bytes.go:110", after := #[{ on := 4, ground := Ground.data }], guard := none } : Oper)) (v := ?_) rfl (by kernel_rfl) (by kernel_rfl) (by kernel_rfl) (fun _ _ _ h => h) (Or.inl ⟨by rfl, ?_⟩) (by assumption) ?_
      rotate_left
      · intro w hSw; (try dsimp only at hSw); go_simp; first | done | with_reducible rfl
      try simp only [Act.put, List.setIfInBounds_toArray, List.set_cons_zero, List.set_cons_succ]
      refine wpAnyH_take (i := 6) (oi := ({ dst := some 21, op := Op.move (Operand.tmp 3), type := 44, pos := "bytes.go:110", after := #[], guard := none } : Oper)) (v := ?_) rfl (by kernel_rfl) (by kernel_rfl) (by kernel_rfl) (fun _ _ _ h => h) (Or.inl ⟨by rfl, ?_⟩) (by assumption) ?_
      rotate_left
      · intro w hSw; (try dsimp only at hSw); go_simp; first | done | with_reducible rfl
      try simp only [Act.put, List.setIfInBounds_toArray, List.set_cons_zero, List.set_cons_succ]
      refine wpAnyH_take (i := 7) (oi := ({ dst := some 22, op := Op.indexAddr 44 (Operand.tmp 21) (Operand.const (Value.int IntKind.i64 1)), type := 0, pos := "bytes.go:110", after := #[{ on := 6, ground := Ground.data }], guard := none } : Oper)) (v := ?_) rfl (by kernel_rfl) (by kernel_rfl) (by kernel_rfl) (fun _ _ _ h => h) (Or.inl ⟨by rfl, ?_⟩) (by assumption) ?_
      rotate_left
      · intro w hSw; (try dsimp only at hSw); go_simp; first | done | with_reducible rfl
      try simp only [Act.put, List.setIfInBounds_toArray, List.set_cons_zero, List.set_cons_succ]
      refine wpAnyH_take (i := 8) (oi := ({ dst := some 23, op := Op.load 22 (Operand.tmp 22), type := 22, pos := "bytes.go:110", after := #[{ on := 7, ground := Ground.data }], guard := none } : Oper)) (v := ?_) rfl (by kernel_rfl) (by kernel_rfl) (by kernel_rfl) (fun _ _ _ h => h) (Or.inl ⟨by rfl, ?_⟩) (by assumption) ?_
      rotate_left
      · intro w hSw; (try dsimp only at hSw); go_simp; first | done | with_reducible rfl
      try simp only [Act.put, List.setIfInBounds_toArray, List.set_cons_zero, List.set_cons_succ]
      refine wpAnyH_take (i := 10) (oi := ({ dst := some 25, op := Op.move (Operand.tmp 3), type := 44, pos := "bytes.go:110", after := #[], guard := none } : Oper)) (v := ?_) rfl (by kernel_rfl) (by kernel_rfl) (by kernel_rfl) (fun _ _ _ h => h) (Or.inl ⟨by rfl, ?_⟩) (by assumption) ?_
      rotate_left
      · intro w hSw; (try dsimp only at hSw); go_simp; first | done | with_reducible rfl
      try simp only [Act.put, List.setIfInBounds_toArray, List.set_cons_zero, List.set_cons_succ]
      refine wpAnyH_take (i := 11) (oi := ({ dst := some 26, op := Op.indexAddr 44 (Operand.tmp 25) (Operand.const (Value.int IntKind.i64 2)), type := 0, pos := "bytes.go:110", after := #[{ on := 10, ground := Ground.data }], guard := none } : Oper)) (v := ?_) rfl (by kernel_rfl) (by kernel_rfl) (by kernel_rfl) (fun _ _ _ h => h) (Or.inl ⟨by rfl, ?_⟩) (by assumption) ?_
      rotate_left
      · intro w hSw; (try dsimp only at hSw); go_simp; first | done | with_reducible rfl
      try simp only [Act.put, List.setIfInBounds_toArray, List.set_cons_zero, List.set_cons_succ]
      refine wpAnyH_take (i := 12) (oi := ({ dst := some 27, op := Op.load 22 (Operand.tmp 26), type := 22, pos := "bytes.go:110", after := #[{ on := 11, ground := Ground.data }], guard := none } : Oper)) (v := ?_) rfl (by kernel_rfl) (by kernel_rfl) (by kernel_rfl) (fun _ _ _ h => h) (Or.inl ⟨by rfl, ?_⟩) (by assumption) ?_
      rotate_left
      · intro w hSw; (try dsimp only at hSw); go_simp; first | done | with_reducible rfl
      try simp only [Act.put, List.setIfInBounds_toArray, List.set_cons_zero, List.set_cons_succ]
      refine wpAnyH_ready (rs := [9]) (by kernel_rfl) (by simp) ?_
      refine AllReadyH.cons (o := ({ dst := some 24, op := Op.call { callee := Callee.value (Operand.func 65), args := #[Operand.tmp 23], argTypes := #[22] }, type := 24, pos := "bytes.go:110", after := #[{ on := 8, ground := Ground.data }], guard := none } : Oper)) rfl (fun K hK => ?_) AllReadyH.nil
      go_simp
      refine (readEntry_any B1 f1.length d1 f1 _ (show Sl w3.drew B1 f1.length d1 f1 from HT1.out) HLN1.out).mono ?_
      rintro e w4 ⟨hb4, ⟨ye, hye, A4, c4, rfl, hr4⟩ | ⟨hye, kk, rfl, hk0⟩⟩
      rotate_left
      · exact ⟨rfl, below_next (below_drew HB3.out) hb4 HB3.out.size, .inr ⟨by rw [HD.out, HR.out]; simp only [HVS.out, hye], _, rfl, by first | decide | assumption | exact HZ.out | exact HZ5.out⟩⟩
      replace hb4 : Below w3.heap.size w3 w4 := ⟨hb4.os, hb4.tape, hb4.output, hb4.size, hb4.block⟩
      have HB4 := Lib.hid (below_next HB3.out hb4 HB3.out.size)
      have HK4 := Lib.hid (HK3.out.kept hb4)
      have HT24 := Lib.hid (HT2.out.below hb4)
      have HYE := Lib.hid hye
      have HSZ4 := Lib.hid hb4.size
      have HR4 := Lib.hid (show BF (From w3.heap.size) w4 A4 c4 ye.dig from hr4)
      have HSS := Lib.hid (show _ ∧ _ ∧ _ ∧ _ from ⟨kept_cell i0 hb4, kept_cell i1 hb4, kept_cell q1 hb4, kept_cell q2 hb4⟩)
      clear hb4 hye hr4 i0 i1 q1 q2
      go_wp2_with fail
      refine hK.out _ _ (HSS.out) (fun hHeld => ?_)
      clear hK K
      try simp only [Act.put, List.setIfInBounds_toArray, List.set_cons_zero, List.set_cons_succ]
      refine wpAnyH_ready (rs := [13]) (by kernel_rfl) (by simp) ?_
      refine AllReadyH.cons (o := ({ dst := some 28, op := Op.call { callee := Callee.value (Operand.func 116), args := #[Operand.tmp 27, Operand.func 63], argTypes := #[22, 96] }, type := 25, pos := "bytes.go:110", after := #[{ on := 12, ground := Ground.data }, { on := 9, ground := Ground.chain }], guard := none } : Oper)) rfl (fun K hK => ?_) AllReadyH.nil
      go_simp
      refine (readListL_any B2 f2.length d2 f2 _ HT24.out HLN2.out).mono ?_
      rintro e w5 ⟨hb5, ⟨yv, hyv, A5, c5, rfl, hr5⟩ | ⟨hyv, kk, rfl, hk0⟩⟩
      rotate_left
      · exact ⟨rfl, below_next HB4.out hb5 HB4.out.size, .inr ⟨by rw [HD.out, HR.out]; simp only [HVS.out, HYE.out, hyv], _, rfl, by first | decide | assumption | exact HZ.out | exact HZ5.out⟩⟩
      have HB5 := Lib.hid (below_next HB4.out hb5 HB4.out.size)
      have HK5 := Lib.hid (HK4.out.kept hb5)
      have HYV := Lib.hid hyv
      have HR45 := Lib.hid (HR4.out.below hb5)
      have HR5 := Lib.hid hr5
      skip
      obtain ⟨j0, j1, j2, j3⟩ := HSS.out
      have HSS5 := Lib.hid (show _ ∧ _ ∧ _ ∧ _ from ⟨kept_cell j0 hb5, kept_cell j1 hb5, kept_cell j2 hb5, kept_cell j3 hb5⟩)
      clear hb5 hyv hr5 j0 j1 j2 j3
      go_wp2_with fail
      refine hK.out _ _ (HSS5.out) (fun hHeld => ?_)
      clear hK K
      try simp only [Act.put, List.setIfInBounds_toArray, List.set_cons_zero, List.set_cons_succ]
      refine wpAnyH_take (i := 14) (oi := ({ dst := some 29, op := Op.build 62 #[(0, Operand.tmp 17), (1, Operand.tmp 20), (2, Operand.tmp 24), (3, Operand.tmp 28)], type := 62, pos := "bytes.go:110", after := #[{ on := 2, ground := Ground.data }, { on := 5, ground := Ground.data }, { on := 9, ground := Ground.data }, { on := 13, ground := Ground.data }], guard := none } : Oper)) (v := ?_) rfl (by kernel_rfl) (by kernel_rfl) (by kernel_rfl) (fun _ _ _ h => h) (Or.inl ⟨by rfl, ?_⟩) (by assumption) ?_
      rotate_left
      · intro w hSw; (try dsimp only at hSw); go_simp; first | done | with_reducible rfl
      try simp only [Act.put, List.setIfInBounds_toArray, List.set_cons_zero, List.set_cons_succ]
      obtain ⟨i0, i1, q1, q2⟩ := HSS5.out
      have k0 := HK5.out.at_ (i := 0) rfl
      have k1 := HK5.out.at_ (i := 1) rfl
      have k2 := HK5.out.at_ (i := 2) rfl
      have k3 := HK5.out.at_ (i := 3) rfl
      have k4 := HK5.out.at_ (i := 4) rfl
      have k5 := HK5.out.at_ (i := 5) rfl
      have k6 := HK5.out.at_ (i := 6) rfl
      have z0 := HK5.out.frozen 0
      have z1 := HK5.out.frozen 1
      have z2 := HK5.out.frozen 2
      have z3 := HK5.out.frozen 3
      have z4 := HK5.out.frozen 4
      have z5 := HK5.out.frozen 5
      have z6 := HK5.out.frozen 6
      refine wpAnyH_ready (rs := [15]) (by kernel_rfl) (by simp) ?_
      refine AllReadyH.cons (o := ({ dst := none, op := Op.store 62 (Operand.tmp 2) (Operand.tmp 29), type := 0, pos := "bytes.go:110", after := #[{ on := 14, ground := Ground.data }, { on := 13, ground := Ground.chain }, { on := 0, ground := Ground.phase }, { on := 1, ground := Ground.phase }, { on := 2, ground := Ground.phase }, { on := 3, ground := Ground.phase }, { on := 4, ground := Ground.phase }, { on := 5, ground := Ground.phase }, { on := 6, ground := Ground.phase }, { on := 7, ground := Ground.phase }, { on := 8, ground := Ground.phase }, { on := 9, ground := Ground.phase }, { on := 10, ground := Ground.phase }, { on := 11, ground := Ground.phase }, { on := 12, ground := Ground.phase }, { on := 13, ground := Ground.phase }, { on := 14, ground := Ground.phase }], guard := none } : Oper)) rfl (fun K hK => ?_) AllReadyH.nil
      go_simp
      refine hK.out _ _ (⟨far1 (far1 (far1 (far1 (far1 (far1 (far1 (i0) ni 0 _) ni 1 _) ni 2 _) ni 3 _) ni 4 _) ni 5 _) ni 6 _, far1 (far1 (far1 (far1 (far1 (far1 (far1 (i1) ni 0 _) ni 1 _) ni 2 _) ni 3 _) ni 4 _) ni 5 _) ni 6 _, far1 (far1 (far1 (far1 (far1 (far1 (far1 (q1) nf 0 _) nf 1 _) nf 2 _) nf 3 _) nf 4 _) nf 5 _) nf 6 _, far1 (far1 (far1 (far1 (far1 (far1 (far1 (q2) nf 0 _) nf 1 _) nf 2 _) nf 3 _) nf 4 _) nf 5 _) nf 6 _⟩) (fun hHeld => ?_)
      clear hK K
      try simp only [Act.put, List.setIfInBounds_toArray, List.set_cons_zero, List.set_cons_succ]
      refine wpAnyH_done (by kernel_rfl) ?_ _
      have kk := ((((((HK5.out.set 0 (.int .i64 x)).set 1 (.int .i64 y)).set 2 (.int .i64 ye.c)).set 3 (.int .i64 ye.s)).set 4 (.int .i64 ye.t)).set 5 (.slice A4 ye.dig.length c4)).set 6 (.slice A5 yv.length c5)
      have gr := grown_set (grown_set (grown_set (grown_set (grown_set (grown_set (grown_set (grown_refl w5 (some w.heap.size)) 0 (.int .i64 x)) 1 (.int .i64 y)) 2 (.int .i64 ye.c)) 3 (.int .i64 ye.s)) 4 (.int .i64 ye.t)) 5 (.slice A4 ye.dig.length c4)) 6 (.slice A5 yv.length c5)
      have hf := (HR45.out.set gr (fun b hb => by have := HLT3.out; unfold From at hb; omega)).from_ (B' := w.heap.size) (by have := HLT3.out; omega)
      have ht := HR5.out.keep (F' := From w.heap.size) (Kp.of_grown gr fun b hb e => by injection e with e; have := HLT3.out; have := HSZ4.out; unfold From at hb; omega) (fun b hb _ => by have := HLT3.out; have := HSZ4.out; unfold From at *; omega)
      have hb := HB5.out.grown gr HB5.out.size (fun g hg => by cases hg; omega)
      go_wp2_with fail
      refine bodyPost_ret_by (results_row1 rfl _ _ w.heap.size 62 _ _ rfl kk Try.underlying62 rfl info_proven1) rfl ?_
      exact ⟨hb, .inl ⟨⟨x, y, ye, yv⟩, by rw [HD.out, HR.out]; simp only [HVS.out, HYE.out, HYV.out], A4, c4, A5, c5, rfl, hf, ht⟩⟩

theorem readListP_any (A : Option Addr) (n c : Nat) (l : List UInt8) (w : World) (h : Sl w A n c l) (hn : n ≤ 4294967296) :
    Calls Try.prog 117 #[.slice A n c, .func (.func 118) #[] #[]] w (RdSP RPv (rdPvs l) w) := by
  obtain ⟨i0, hi, hz0, hz1, hz2⟩ := info_parts info_provenA
  have HS := Lib.hid h
  have HN := Lib.hid hn
  have HD := Lib.hid (show rdPvs l = match rdSplit l with | none => none | some fs => allX rdPv fs from rfl)
  clear h hn
  go_enter Try.func117, Try.ntmps117
  go_wp2_with fail
  refine (split_any A n c l _ HS.out.rd HS.out.1 HS.out.2.1 (by have := HN.out; omega)).mono ?_
  rintro e w1 ⟨hb1, ⟨hz, rfl⟩ | ⟨hz, A1, n1, c1, rfl, ho1⟩⟩
  · have HZ := Lib.hid (show ((splitN l).1 : Int) ≠ 0 by omega)
    have HR := Lib.hid (show rdSplit l = none by unfold rdSplit; rw [if_neg hz])
    have HB1 := Lib.hid hb1
    clear hz hb1
    go_wp2_with fail
    refine (mustR_no _ _ HZ.out _).mono ?_
    rintro e w2 ⟨rfl, rfl⟩
    exact ⟨rfl, HB1.out, .inr ⟨by rw [HD.out, HR.out], _, rfl, by first | decide | assumption | exact HZ.out | exact HZ5.out⟩⟩
  have HR := Lib.hid (show rdSplit l = some (splitN l).2 by unfold rdSplit; rw [if_pos hz])
  have HB1 := Lib.hid hb1
  have HF := Lib.hid (RdS.of_own ho1)
  have HSF := Lib.hid (split_fields hz)
  have hfn := split_len hz
  obtain rfl : (splitN l).2.length = n1 := ho1.1
  clear hz hb1 ho1
  generalize (splitN l).2 = fs at *
  go_wp2_with fail
  refine (mustR_yes _ _ _ _).mono ?_
  rintro e w2 ⟨rfl, rfl⟩
  go_wp2_with fail
  go_loopw [5, 14] (fun s i wr => ∃ (A' : Option Addr) (n' c' k : Nat) (acc : List Pv), k ≤ fs.length ∧ s = .slice A' n' c' ∧ i = .int .i64 k ∧ OwnS RPv 62 (From w.heap.size) w1.heap.size wr A' n' c' acc ∧ allX rdPv (fs.take k) = some acc ∧ Below w1.heap.size w1 wr) (fun _ i _ => fs.length - (intOf i).toNat)
  case atStart => exact ⟨none, 0, 0, 0, [], by omega, rfl, rfl, OwnS.nil_ _ _ _ _ _, rfl, Below.refl _ _⟩
  case round =>
    obtain ⟨A', n', c', k, acc, hk, rfl, rfl, ho, ha, hb⟩ := hrel
    have hal := allX_len ha
    have hol := ho.1
    rw [List.length_take] at hal
    obtain rfl : n' = k := by omega
    have HB := Lib.hid hb
    by_cases hlt : n' < fs.length
    · obtain ⟨f, hf⟩ : ∃ f, fs[n']? = some f := ⟨_, List.getElem?_eq_getElem hlt⟩
      obtain ⟨x, B, d, rfl, hxb, hc, hB⟩ := (HF.out.below hb).b1 hf
      have hmem : f ∈ fs := by obtain ⟨hh, rfl⟩ := List.getElem?_eq_some_iff.1 hf; exact List.getElem_mem hh
      have HSN := Lib.hid (show fs.take (n' + 1) = fs.take n' ++ [f] by obtain ⟨hh, rfl⟩ := List.getElem?_eq_some_iff.1 hf; exact List.take_succ_eq_append_getElem hh)
      have HM := Lib.hid hmem
      have HO := Lib.hid ho
      have HA := Lib.hid ha
      have HC := Lib.hid (readProven_any B f.length d f wr hB.sl (by have := HSF.out f hmem; omega))
      have y1 : (0 : Int) ≤ (n' : Int) := by omega
      have y2 : (n' : Int) < (fs.length : Int) := by omega
      clear hf hb hB ho ha hmem hal hol hxb
      go_wp2_with fail
      refine HC.out.mono ?_
      rintro e w3 ⟨hb3, ⟨y, hy, A3, c3, B3, d3, rfl, hr3, hr3b⟩ | ⟨hy, kk, rfl, hk0⟩⟩
      · have HB3 := Lib.hid (below_next HB.out hb3 HB.out.size)
        have HBW := Lib.hid (below_next HB1.out HB3.out HB1.out.size)
        have hsw := HB3.out.size
        have HBG := Lib.hid (fun g hg => HO.out.block g hg)
        have HBL := Lib.hid (fun g hg => HO.out.block_lt g hg)
        have HS3 := Lib.hid hb3.size
        have HWR := Lib.hid (show w.heap.size ≤ wr.heap.size from Nat.le_trans HB1.out.size HB.out.size)
        obtain ⟨hl0, css, hcl, hou, hin⟩ := HO.out.below hb3
        have HL0 := Lib.hid hl0
        have HCL := Lib.hid hcl
        have HIN := Lib.hid hin
        have HY := Lib.hid hy
        have HRY := Lib.hid (show RPv.rd (From wr.heap.size) w3 [.int .i64 y.seq, .int .i64 y.view, .int .i64 y.e.c, .int .i64 y.e.s, .int .i64 y.e.t, .slice A3 y.e.dig.length c3, .slice B3 y.votes.length d3] y from ⟨A3, c3, B3, d3, rfl, hr3, hr3b⟩)
        clear hb3 hl0 hcl hin hy hr3 hr3b hc
        go_wp2_with (at_builtin
                     refine wpList_append_own_at _ rfl _ _ 26 rfl w1.heap.size 62 i0 _ 7 88 Try.underlying26 hi hz0 hz1 hz2 rfl (by omega) (.slice A' n' c') n' css.flatten rfl (World.ownsRow.alloc hou _) ⟨w3.heap.size, 0, none⟩ 1 1 [.int .i64 y.seq, .int .i64 y.view, .int .i64 y.e.c, .int .i64 y.e.s, .int .i64 y.e.t, .slice A3 y.e.dig.length c3, .slice B3 y.votes.length d3] rfl rfl
                       (news_alloc w3 [.int .i64 y.seq, .int .i64 y.view, .int .i64 y.e.c, .int .i64 y.e.s, .int .i64 y.e.t, .slice A3 y.e.dig.length c3, .slice B3 y.votes.length d3] 62) (by simp [Value.oneCell']) (by simp only [maxLen]; omega) (by omega) (by simp; omega) ?_
                     intro v4 w4 hown4 hg4 hnil4 hrow4)
        obtain ⟨A4, c4, rfl⟩ := form_of hown4
        have hB4 := (Below.refl w3.heap.size w3).alloc (Nat.le_refl _) (.cells #[.int .i64 y.seq, .int .i64 y.view, .int .i64 y.e.c, .int .i64 y.e.s, .int .i64 y.e.t, .slice A3 y.e.dig.length c3, .slice B3 y.votes.length d3] 62)
        have HX := Lib.hid (show OwnS RPv 62 (From w.heap.size) w1.heap.size w4 A4 (n' + 1) c4 (acc ++ [y]) from
          OwnS.push (R := RPv) (G := From w.heap.size) (F := From wr.heap.size) (w := w3.alloc (.cells #[.int .i64 y.seq, .int .i64 y.view, .int .i64 y.e.c, .int .i64 y.e.s, .int .i64 y.e.t, .slice A3 y.e.dig.length c3, .slice B3 y.votes.length d3] 62)) HL0.out HCL.out (fun j y cs hy hc => RPv.below (HIN.out j y cs hy hc) hB4) (RPv.below HRY.out hB4)
            (fun b hb _ => ⟨Nat.le_trans HWR.out hb, fun e => by have := HBL.out b e.symm; unfold From at hb; omega⟩) hg4 hown4 hrow4)
        have HB4 := Lib.hid ((HB3.out.alloc HB3.out.size (.cells #[.int .i64 y.seq, .int .i64 y.view, .int .i64 y.e.c, .int .i64 y.e.s, .int .i64 y.e.t, .slice A3 y.e.dig.length c3, .slice B3 y.votes.length d3] 62)).grown hg4 (by have := HB3.out.size; simp; omega) (fun g hg => HBG.out g hg))
        clear hown4 hg4 hrow4 hB4 hou hnil4
        go_roundw
        case rel => exact ⟨A4, n' + 1, c4, n' + 1, acc ++ [y], by omega, rfl, by go_num, HX.out, by rw [HSN.out]; exact allX_snoc HA.out HY.out, HB4.out⟩
        case measure => simp [intOf]; omega
      · exact ⟨rfl, below_next HB1.out (below_next HB.out hb3 HB.out.size) HB1.out.size, .inr ⟨by rw [HD.out, HR.out]; exact allX_none HM.out hy, _, rfl, by first | decide | assumption | exact HZ.out | exact HZ5.out⟩⟩
    · have e : fs.take n' = fs := List.take_of_length_le (by omega)
      rw [e] at ha
      have HP := Lib.hid (show rdPvs l = some acc by rw [HD.out, HR.out]; exact ha)
      obtain rfl : acc.length = n' := hol
      have HX := Lib.hid (ho.rds (fun b hb => Nat.le_trans HB1.out.size hb))
      clear e ha hb ho hal
      go_wp2_with fail
      go_ret
      exact ⟨below_next HB1.out HB.out HB1.out.size, .inl ⟨acc, HP.out, A', c', rfl, HX.out⟩⟩
end Go.Proofs.Ytmgmmbgjmnklkaa
