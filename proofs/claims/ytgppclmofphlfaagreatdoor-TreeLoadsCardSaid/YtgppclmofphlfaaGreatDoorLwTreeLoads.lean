/-
  The law TreeLoads, walked. A walk; no statement.
-/
import Derived.Test.YtgppclmofphlfaaGreatDoorTreeBoth
import Derived.Test.YtgppclmofphlfaaGreatDoorLoadPlain
import Derived.Test.YtgppclmofphlfaaGreatDoorMTreeL
import Derived.BigQuiet
namespace Go.Proofs.YtgppclmofphlfaaGreatDoor
set_option maxRecDepth 100000
open Go.RowKit
set_option linter.unusedVariables false
set_option maxRecDepth 100000

theorem loads_p64 {xs : List Lf} (h : tLoads xs = true) {l : Lf} (hl : l ∈ xs) : l.path.length ≤ 64 := by
  rw [← takes_loads] at h
  obtain ⟨k, hk, e⟩ := List.getElem_of_mem hl
  have hx : xs[k]? = some l := by rw [List.getElem?_eq_getElem hk, e]
  unfold tTakes at h
  rw [Bool.and_eq_true, List.all_eq_true] at h
  have hs := h.2 k (List.mem_range.2 hk)
  unfold tStep at hs
  simp only [getD_of hx] at hs
  split at hs
  · rw [Bool.and_eq_true] at hs
    have h1 := hs.1
    unfold lfRooty at h1
    simp at h1
    rw [h1.1]; decide
  · rw [Bool.and_eq_true, Bool.and_eq_true] at hs
    exact may_le hs.2.2
set_option maxHeartbeats 12800000 in
theorem treeLoads_walk (w : World) (hE : Env w) (v : Value) (ops : List To) (hops : InTos w v ops) (v1 : Value) (xs : List Lf) (hlfs : InLfs w v1 xs) : Calls Tryz.prog 4 #[v, v1] w (Tr w) := by
  obtain ⟨LA, LC, rfl, hxs, hxw, hxb⟩ := hlfs
  have HXS := Lib.hid hxs
  have HXW := Lib.hid hxw
  have HXB := Lib.hid hxb
  clear hxs hxw hxb
  obtain ⟨A, c, rfl, hs, hbg⟩ := hops
  have HS := Lib.hid hs
  have HE := Lib.hid hE
  have HL := Lib.hid (alive_ok w hE)
  have HG := Lib.hid (fun X (hX : Below w.heap.size w X) => great_any A c ops X (hs.below hX) hbg)
  clear hs hbg hE
  go_enter Tryz.func4, Tryz.ntmps4
  go_wp2_with fail
  refine HL.out.mono ?_
  rintro e w1 ⟨rfl, hb1⟩
  have HB1 := Lib.hid hb1
  clear hb1 HL
  go_wp2_with fail
  refine (HG.out w1 HB1.out).mono ?_
  rintro e w2 ⟨b, q, rfl, hgr, rfl⟩
  have HB2 := Lib.hid (below_drewN HB1.out q)
  have HGR := Lib.hid hgr
  clear hgr HG HB1
  cases b with
  | true =>
    go_wp2_with fail
    go_ret
    exact ⟨rfl, HB2.out⟩
  | false =>
    by_cases hxl : (100 : Int) < (xs.length : Int)
    · go_wp2_with fail
      go_ret
      exact ⟨rfl, HB2.out⟩
    · have HXL := Lib.hid (show xs.length ≤ 100 by omega)
      have HBIG := Lib.hid (show ∀ o ∈ ops, o.data.length ≤ 140737488355328 from fun o ho => by have h1 := (HGR.out (by first | trivial | rfl)).1; have h2 := (toW_mem ho).2; omega)
      go_wp2_with fail
      go_loopw [5] (fun i wr => ∃ k : Nat, k ≤ xs.length ∧ i = .int .i64 k ∧ Below w.heap.size w wr ∧ ∀ j x, j < k → xs[j]? = some x → x.data.length + x.path.length ≤ 1000) (fun i _ => xs.length - (intOf i).toNat)
      case atStart => exact ⟨0, Nat.zero_le _, rfl, HB2.out, fun j x hj => absurd hj (Nat.not_lt_zero _)⟩
      case round =>
        obtain ⟨k, hk, rfl, hb, hle⟩ := hrel
        have HBR := Lib.hid hb
        have HLE := Lib.hid hle
        clear hb hle
        by_cases hlt : k < xs.length
        · obtain ⟨l, hl⟩ : ∃ l, xs[k]? = some l := ⟨_, List.getElem?_eq_getElem hlt⟩
          have hlb := HXB.out l (List.mem_of_getElem? hl)
          obtain ⟨x, B, d, rfl, hxb, c0, c1, -, -, -, -, -⟩ := (HXS.out.below HBR.out).lf6 hl
          have y1 : (0 : Int) ≤ (k : Int) := by omega
          have y2 : (k : Int) < (xs.length : Int) := by omega
          have y3 : xs.length ≤ 100 := HXL.out
          have z1 : l.data.length ≤ 140737488355328 := hlb.data
          have z2 : l.path.length ≤ 140737488355328 := hlb.path
          by_cases hbg : (1000 : Int) < (l.data.length : Int) + (l.path.length : Int)
          · clear hl hlb hxb
            go_upto_region 8 with fail
            go_quiet (fail)
            go_wp2_with fail
            go_ret
            exact ⟨rfl, below_drewN HBR.out nq⟩
          · have HNX := Lib.hid (show ∀ j x, j < k + 1 → xs[j]? = some x → x.data.length + x.path.length ≤ 1000 from fun j x hj hx => by
              rcases Nat.lt_or_ge j k with q | q
              · exact HLE.out j x q hx
              · obtain rfl : j = k := by omega
                rw [hl] at hx
                rw [← Option.some.inj hx]; omega)
            clear hl hlb hxb
            go_upto_region 8 with fail
            go_quiet (fail)
            go_wp2_with fail
            go_roundw
            case rel => exact ⟨k + 1, by omega, by go_num, below_drewN HBR.out nq, HNX.out⟩
            case measure => simp [intOf]; omega
        · obtain rfl : k = xs.length := by omega
          clear hk hlt
          go_wp2_with fail
          refine (new_any _).mono ?_
          intro e w3 h3
          obtain ⟨g, F0, rfl, t0, -, -⟩ := TOn.of_new HBR.out h3
          have T3 := Lib.hid t0
          clear h3 t0
          go_wp2_with fail
          refine (refNew_any _).mono ?_
          rintro e w4 ⟨hb4, A4, c4, rfl, hr4⟩
          have T4 := Lib.hid (T3.out.kept hb4)
          have HNF := Lib.hid (show ∀ k, F0 k → k < w3.heap.size from fun k hk => (T3.out.low k hk).2)
          obtain ⟨gm, hgm⟩ : ∃ gm, gm = w4.heap.size := ⟨_, rfl⟩
          have HGM := Lib.hid (show w.heap.size ≤ gm by rw [hgm]; exact T4.out.be.size)
          have TN0 := Lib.hid (show TOn F0 w g 0 [lfRoot] (w4.alloc (.cells #[.slice A4 1 c4] 30)) from T4.out.kept ((Below.refl _ w4).alloc (Nat.le_refl _) _))
          have RN0 := Lib.hid (show RefOn F0 gm [lfRoot] (w4.alloc (.cells #[.slice A4 1 c4] 30)) by
            rw [hgm]
            exact RefOn.new (t := [lfRoot]) (fun k hk => (T4.out.low k hk).2) hr4 (fun b hb _ hf => by
              have h1 := HNF.out b hf
              rcases hb with hb | hb
              · exact hb
              · omega))
          have HGW := Lib.hid hgm
          clear hb4 hr4 hgm T3 T4
          go_wp2_with fail
          rw [← HGW.out]
          go_loopw [8] (fun i wr => ∃ (k : Nat) (F : Nat → Prop) (t : List Lf), k ≤ ops.length ∧ i = .int .i64 k ∧ TOn F w g 0 t wr ∧ RefOn F gm t wr) (fun i _ => ops.length - (intOf i).toNat)
          case atStart => exact ⟨0, _, _, Nat.zero_le _, rfl, TN0.out, RN0.out⟩
          case round =>
            obtain ⟨k, F, t, hk, rfl, tn, rn⟩ := hrel
            have TN := Lib.hid tn
            have RN := Lib.hid rn
            clear tn rn TN0 RN0
            by_cases hlt : k < ops.length
            · obtain ⟨o, ho⟩ : ∃ o, ops[k]? = some o := ⟨_, List.getElem?_eq_getElem hlt⟩
              have HBO := Lib.hid (HBIG.out o (List.mem_of_getElem? ho))
              have HOP := Lib.hid (show (⟨o.path.toArray⟩ : ByteArray).size ≤ maxLen from by
                show o.path.length ≤ maxLen
                have h1 := (HGR.out (by first | trivial | rfl)).1; have h2 := (toW_mem (List.mem_of_getElem? ho)).1; simp only [maxLen]; omega)
              obtain ⟨x, C, rc, rfl, -, c0, c1, c2, -, c4, c5, c6, hB⟩ := HS.out.to7 ho
              have c0r := cell_kept c0 TN.out.be
              have HST := Lib.hid (fun X (hX : Below w.heap.size w X) => (⟨cell_kept c1 hX, cell_kept c2 hX, cell_kept c4 hX, cell_kept c5 hX, cell_kept c6 hX⟩ :
                X.cell? ⟨(x.add (k * 7)).block, (x.add (k * 7)).off + 1, none⟩ = some (.int .i64 o.own) ∧ X.cell? ⟨(x.add (k * 7)).block, (x.add (k * 7)).off + 2, none⟩ = some (.int .i64 o.born) ∧ X.cell? ⟨(x.add (k * 7)).block, (x.add (k * 7)).off + 4, none⟩ = some (.string ⟨o.path.toArray⟩) ∧ X.cell? ⟨(x.add (k * 7)).block, (x.add (k * 7)).off + 5, none⟩ = some (.slice C o.data.length rc) ∧ X.cell? ⟨(x.add (k * 7)).block, (x.add (k * 7)).off + 6, none⟩ = some (.bool o.numd)))
              have HCP := Lib.hid (fun X (hX : Below w.heap.size w X) => copyBytes_big C o.data.length rc o.data X (hB.below hX).rd HBO.out)
              have HDB := Lib.hid hB
              have TND := Lib.hid TN.out.drew
              have RND := Lib.hid (show RefOn F gm t wr.drew from RN.out.below (below_drew (Below.refl _ _)))
              have HB0 := Lib.hid TND.out.be
              have HWS := Lib.hid (show wr.heap.size = wr.drew.heap.size from rfl)
              have y1 : (0 : Int) ≤ (k : Int) := by omega
              have y2 : (k : Int) < (ops.length : Int) := by omega
              have yw1 : IntKind.i64.wrap ((k : Int) + 1) = (k : Int) + 1 := by have := HS.out.1; have := HS.out.2.1; unfold maxLen at this; simp only [IntKind.wrap, IntKind.bits, IntKind.signed]; simp; omega
              have yw2 : wrap64 ((k : Int) + 1) = (k : Int) + 1 := by have := HS.out.1; have := HS.out.2.1; unfold maxLen at this; unfold wrap64; omega
              clear c0 c1 c2 c4 c5 c6 hB ho
              by_cases hw1 : o.what = 1
              · rw [hw1] at c0r
                clear hw1
                go_wp2_with fail
                go_region_held (fun X => X.cell? ⟨(x.add (k * 7)).block, (x.add (k * 7)).off + 1, none⟩ = some (.int .i64 o.own) ∧ X.cell? ⟨(x.add (k * 7)).block, (x.add (k * 7)).off + 2, none⟩ = some (.int .i64 o.born) ∧ X.cell? ⟨(x.add (k * 7)).block, (x.add (k * 7)).off + 4, none⟩ = some (.string ⟨o.path.toArray⟩) ∧ X.cell? ⟨(x.add (k * 7)).block, (x.add (k * 7)).off + 5, none⟩ = some (.slice C o.data.length rc) ∧ X.cell? ⟨(x.add (k * 7)).block, (x.add (k * 7)).off + 6, none⟩ = some (.bool o.numd))
                  (first | with_reducible exact HST.out _ HB6.out | with_reducible exact HST.out _ HB5.out | with_reducible exact HST.out _ HB0.out)
                  (first
                    | (go_at_call 32
                       with_reducible refine (HCP.out _ HB0.out).mono ?_
                       rintro e w5 ⟨A5, n5, c5, rfl, ho5, hb5⟩
                       obtain rfl := ho5.len.symm
                       have T5 := Lib.hid (TND.out.kept hb5)
                       have R5 := Lib.hid (RND.out.below hb5)
                       have HB5 := Lib.hid T5.out.be
                       have HF5 := Lib.hid (BF.own ho5)
                       clear ho5 hb5)
                    | (go_at_call 15
                       refine (T5.out.make HE.out o.path A5 c5 o.data (From wr.drew.heap.size) o.own o.born o.numd HF5.out (fun k hk _ hf => Nat.lt_irrefl _ (Nat.lt_of_lt_of_le (TND.out.low k hf).2 hk))).mono ?_
                       rintro e w6 ⟨rfl, F6, t6, hF6, hch6⟩
                       have T6 := Lib.hid t6
                       have R6 := Lib.hid (R5.out.did hF6 hch6)
                       have HB6 := Lib.hid T6.out.be
                       clear t6 hF6 hch6))
                obtain ⟨W6, hW6⟩ : ∃ W6, W6 = w6.drew := ⟨_, rfl⟩
                have T7 := Lib.hid (show TOn F6 w g 0 (tMake o.path o.data o.own o.born o.numd t).1 W6 by rw [hW6]; exact T6.out.drew)
                have HNG := Lib.hid R6.out.1
                obtain ⟨RA, rrc, hrk, hrr⟩ := (show ∃ A c, Bk W6 gm 30 [.slice A t.length c] ∧ RdS RLf (fun b => ¬ F6 b ∧ b ≠ gm) W6 A c t by rw [hW6]; exact (R6.out.below (below_drew (Below.refl _ _))).2)
                have R7 := Lib.hid (show RefOn F6 gm t W6 by rw [hW6]; exact R6.out.below (below_drew (Below.refl _ _)))
                have HB7 := Lib.hid (show Below w.heap.size w w6.drew by rw [← hW6]; exact T7.out.be)
                have HRM := Lib.hid (show Calls Tryz.prog 16 #[.agg #[.slice RA t.length rrc], .string ⟨o.path.toArray⟩, .slice C o.data.length rc, .int .i64 o.own, .int .i64 o.born, .bool o.numd] w6.drew (FreshM (fun b => ¬ F6 b ∧ b ≠ gm) (tMake o.path o.data o.own o.born o.numd t) w6.drew) by
                  have := refMake_any ⟨o.path.toArray⟩ C rc o.data o.own o.born o.numd RA rrc t _ AllB W6 HOP.out hrr (HDB.out.below T7.out.be) (by have := TND.out.ok.len; omega) (fun l hl => by have := TND.out.ok.p64 l hl; simp only [maxLen]; omega)
                  rw [hW6] at this
                  exact this)
                have m6 : w6.drew.cell? ⟨gm, 0, none⟩ = some (.slice RA t.length rrc) := by rw [← hW6]; exact hrk.at_ rfl
                have HWE := Lib.hid hW6
                clear hrk hrr hW6
                go_upto_region 19 with fail
                refine wp_region_held_drew (S := fun X => X.cell? ⟨(x.add (k * 7)).block, (x.add (k * 7)).off + 1, none⟩ = some (.int .i64 o.own) ∧ X.cell? ⟨(x.add (k * 7)).block, (x.add (k * 7)).off + 2, none⟩ = some (.int .i64 o.born) ∧ X.cell? ⟨(x.add (k * 7)).block, (x.add (k * 7)).off + 4, none⟩ = some (.string ⟨o.path.toArray⟩) ∧ X.cell? ⟨(x.add (k * 7)).block, (x.add (k * 7)).off + 5, none⟩ = some (.slice C o.data.length rc) ∧ X.cell? ⟨(x.add (k * 7)).block, (x.add (k * 7)).off + 6, none⟩ = some (.bool o.numd)) (by kernel_rfl) (HST.out _ HB7.out) (fun hHeld => ?_)
                refine wpAnyH_take (i := 1) (oi := ({ dst := some 88, op := Op.move (Operand.tmp 0), type := 22, pos := "law.go:120", after := #[], guard := none } : Oper)) (v := ?_) rfl (by kernel_rfl) (by kernel_rfl) (by kernel_rfl) (fun _ _ _ h => h) (Or.inl ⟨by rfl, ?_⟩) (by assumption) ?_
                rotate_left
                · intro w hSw; (try dsimp only at hSw); go_simp; first | done | with_reducible rfl
                try simp only [Act.put, List.setIfInBounds_toArray, List.set_cons_zero, List.set_cons_succ]
                refine wpAnyH_take (i := 2) (oi := ({ dst := some 89, op := Op.move (Operand.tmp 8), type := 3, pos := "law.go:120", after := #[], guard := none } : Oper)) (v := ?_) rfl (by kernel_rfl) (by kernel_rfl) (by kernel_rfl) (fun _ _ _ h => h) (Or.inl ⟨by rfl, ?_⟩) (by assumption) ?_
                rotate_left
                · intro w hSw; (try dsimp only at hSw); go_simp; first | done | with_reducible rfl
                try simp only [Act.put, List.setIfInBounds_toArray, List.set_cons_zero, List.set_cons_succ]
                refine wpAnyH_take (i := 3) (oi := ({ dst := some 90, op := Op.indexAddr 22 (Operand.tmp 88) (Operand.tmp 89), type := 0, pos := "law.go:120", after := #[{ on := 1, ground := Ground.data }, { on := 2, ground := Ground.data }], guard := none } : Oper)) (v := ?_) rfl (by kernel_rfl) (by kernel_rfl) (by kernel_rfl) (fun _ _ _ h => h) (Or.inl ⟨by rfl, ?_⟩) (by assumption) ?_
                rotate_left
                · intro w hSw; (try dsimp only at hSw); go_simp; first | done | with_reducible rfl
                try simp only [Act.put, List.setIfInBounds_toArray, List.set_cons_zero, List.set_cons_succ]
                refine wpAnyH_take (i := 4) (oi := ({ dst := some 91, op := Op.fieldAddr 34 (Operand.tmp 90) 4, type := 0, pos := "law.go:120", after := #[{ on := 3, ground := Ground.data }], guard := none } : Oper)) (v := ?_) rfl (by kernel_rfl) (by kernel_rfl) (by kernel_rfl) (fun _ _ _ h => h) (Or.inl ⟨by rfl, ?_⟩) (by assumption) ?_
                rotate_left
                · intro w hSw; (try dsimp only at hSw); go_simp; first | done | with_reducible rfl
                try simp only [Act.put, List.setIfInBounds_toArray, List.set_cons_zero, List.set_cons_succ]
                refine wpAnyH_take (i := 5) (oi := ({ dst := some 92, op := Op.load 9 (Operand.tmp 91), type := 9, pos := "law.go:120", after := #[{ on := 4, ground := Ground.data }], guard := none } : Oper)) (v := ?_) rfl (by kernel_rfl) (by kernel_rfl) (by kernel_rfl) (fun _ _ _ h => h) (Or.inl ⟨by rfl, ?_⟩) (by assumption) ?_
                rotate_left
                · intro w hSw; (try dsimp only at hSw); go_simp; first | done | with_reducible rfl
                try simp only [Act.put, List.setIfInBounds_toArray, List.set_cons_zero, List.set_cons_succ]
                refine wpAnyH_take (i := 6) (oi := ({ dst := some 93, op := Op.move (Operand.tmp 0), type := 22, pos := "law.go:120", after := #[], guard := none } : Oper)) (v := ?_) rfl (by kernel_rfl) (by kernel_rfl) (by kernel_rfl) (fun _ _ _ h => h) (Or.inl ⟨by rfl, ?_⟩) (by assumption) ?_
                rotate_left
                · intro w hSw; (try dsimp only at hSw); go_simp; first | done | with_reducible rfl
                try simp only [Act.put, List.setIfInBounds_toArray, List.set_cons_zero, List.set_cons_succ]
                refine wpAnyH_take (i := 7) (oi := ({ dst := some 94, op := Op.move (Operand.tmp 8), type := 3, pos := "law.go:120", after := #[], guard := none } : Oper)) (v := ?_) rfl (by kernel_rfl) (by kernel_rfl) (by kernel_rfl) (fun _ _ _ h => h) (Or.inl ⟨by rfl, ?_⟩) (by assumption) ?_
                rotate_left
                · intro w hSw; (try dsimp only at hSw); go_simp; first | done | with_reducible rfl
                try simp only [Act.put, List.setIfInBounds_toArray, List.set_cons_zero, List.set_cons_succ]
                refine wpAnyH_take (i := 8) (oi := ({ dst := some 95, op := Op.indexAddr 22 (Operand.tmp 93) (Operand.tmp 94), type := 0, pos := "law.go:120", after := #[{ on := 6, ground := Ground.data }, { on := 7, ground := Ground.data }], guard := none } : Oper)) (v := ?_) rfl (by kernel_rfl) (by kernel_rfl) (by kernel_rfl) (fun _ _ _ h => h) (Or.inl ⟨by rfl, ?_⟩) (by assumption) ?_
                rotate_left
                · intro w hSw; (try dsimp only at hSw); go_simp; first | done | with_reducible rfl
                try simp only [Act.put, List.setIfInBounds_toArray, List.set_cons_zero, List.set_cons_succ]
                refine wpAnyH_take (i := 9) (oi := ({ dst := some 96, op := Op.fieldAddr 34 (Operand.tmp 95) 5, type := 0, pos := "law.go:120", after := #[{ on := 8, ground := Ground.data }], guard := none } : Oper)) (v := ?_) rfl (by kernel_rfl) (by kernel_rfl) (by kernel_rfl) (fun _ _ _ h => h) (Or.inl ⟨by rfl, ?_⟩) (by assumption) ?_
                rotate_left
                · intro w hSw; (try dsimp only at hSw); go_simp; first | done | with_reducible rfl
                try simp only [Act.put, List.setIfInBounds_toArray, List.set_cons_zero, List.set_cons_succ]
                refine wpAnyH_take (i := 10) (oi := ({ dst := some 97, op := Op.load 32 (Operand.tmp 96), type := 32, pos := "law.go:120", after := #[{ on := 9, ground := Ground.data }], guard := none } : Oper)) (v := ?_) rfl (by kernel_rfl) (by kernel_rfl) (by kernel_rfl) (fun _ _ _ h => h) (Or.inl ⟨by rfl, ?_⟩) (by assumption) ?_
                rotate_left
                · intro w hSw; (try dsimp only at hSw); go_simp; first | done | with_reducible rfl
                try simp only [Act.put, List.setIfInBounds_toArray, List.set_cons_zero, List.set_cons_succ]
                refine wpAnyH_take (i := 11) (oi := ({ dst := some 98, op := Op.move (Operand.tmp 0), type := 22, pos := "law.go:120", after := #[], guard := none } : Oper)) (v := ?_) rfl (by kernel_rfl) (by kernel_rfl) (by kernel_rfl) (fun _ _ _ h => h) (Or.inl ⟨by rfl, ?_⟩) (by assumption) ?_
                rotate_left
                · intro w hSw; (try dsimp only at hSw); go_simp; first | done | with_reducible rfl
                try simp only [Act.put, List.setIfInBounds_toArray, List.set_cons_zero, List.set_cons_succ]
                refine wpAnyH_take (i := 12) (oi := ({ dst := some 99, op := Op.move (Operand.tmp 8), type := 3, pos := "law.go:120", after := #[], guard := none } : Oper)) (v := ?_) rfl (by kernel_rfl) (by kernel_rfl) (by kernel_rfl) (fun _ _ _ h => h) (Or.inl ⟨by rfl, ?_⟩) (by assumption) ?_
                rotate_left
                · intro w hSw; (try dsimp only at hSw); go_simp; first | done | with_reducible rfl
                try simp only [Act.put, List.setIfInBounds_toArray, List.set_cons_zero, List.set_cons_succ]
                refine wpAnyH_take (i := 13) (oi := ({ dst := some 100, op := Op.indexAddr 22 (Operand.tmp 98) (Operand.tmp 99), type := 0, pos := "law.go:120", after := #[{ on := 11, ground := Ground.data }, { on := 12, ground := Ground.data }], guard := none } : Oper)) (v := ?_) rfl (by kernel_rfl) (by kernel_rfl) (by kernel_rfl) (fun _ _ _ h => h) (Or.inl ⟨by rfl, ?_⟩) (by assumption) ?_
                rotate_left
                · intro w hSw; (try dsimp only at hSw); go_simp; first | done | with_reducible rfl
                try simp only [Act.put, List.setIfInBounds_toArray, List.set_cons_zero, List.set_cons_succ]
                refine wpAnyH_take (i := 14) (oi := ({ dst := some 101, op := Op.fieldAddr 34 (Operand.tmp 100) 1, type := 0, pos := "law.go:120", after := #[{ on := 13, ground := Ground.data }], guard := none } : Oper)) (v := ?_) rfl (by kernel_rfl) (by kernel_rfl) (by kernel_rfl) (fun _ _ _ h => h) (Or.inl ⟨by rfl, ?_⟩) (by assumption) ?_
                rotate_left
                · intro w hSw; (try dsimp only at hSw); go_simp; first | done | with_reducible rfl
                try simp only [Act.put, List.setIfInBounds_toArray, List.set_cons_zero, List.set_cons_succ]
                refine wpAnyH_take (i := 15) (oi := ({ dst := some 102, op := Op.load 3 (Operand.tmp 101), type := 3, pos := "law.go:120", after := #[{ on := 14, ground := Ground.data }], guard := none } : Oper)) (v := ?_) rfl (by kernel_rfl) (by kernel_rfl) (by kernel_rfl) (fun _ _ _ h => h) (Or.inl ⟨by rfl, ?_⟩) (by assumption) ?_
                rotate_left
                · intro w hSw; (try dsimp only at hSw); go_simp; first | done | with_reducible rfl
                try simp only [Act.put, List.setIfInBounds_toArray, List.set_cons_zero, List.set_cons_succ]
                refine wpAnyH_take (i := 16) (oi := ({ dst := some 103, op := Op.move (Operand.tmp 0), type := 22, pos := "law.go:120", after := #[], guard := none } : Oper)) (v := ?_) rfl (by kernel_rfl) (by kernel_rfl) (by kernel_rfl) (fun _ _ _ h => h) (Or.inl ⟨by rfl, ?_⟩) (by assumption) ?_
                rotate_left
                · intro w hSw; (try dsimp only at hSw); go_simp; first | done | with_reducible rfl
                try simp only [Act.put, List.setIfInBounds_toArray, List.set_cons_zero, List.set_cons_succ]
                refine wpAnyH_take (i := 17) (oi := ({ dst := some 104, op := Op.move (Operand.tmp 8), type := 3, pos := "law.go:120", after := #[], guard := none } : Oper)) (v := ?_) rfl (by kernel_rfl) (by kernel_rfl) (by kernel_rfl) (fun _ _ _ h => h) (Or.inl ⟨by rfl, ?_⟩) (by assumption) ?_
                rotate_left
                · intro w hSw; (try dsimp only at hSw); go_simp; first | done | with_reducible rfl
                try simp only [Act.put, List.setIfInBounds_toArray, List.set_cons_zero, List.set_cons_succ]
                refine wpAnyH_take (i := 18) (oi := ({ dst := some 105, op := Op.indexAddr 22 (Operand.tmp 103) (Operand.tmp 104), type := 0, pos := "law.go:120", after := #[{ on := 16, ground := Ground.data }, { on := 17, ground := Ground.data }], guard := none } : Oper)) (v := ?_) rfl (by kernel_rfl) (by kernel_rfl) (by kernel_rfl) (fun _ _ _ h => h) (Or.inl ⟨by rfl, ?_⟩) (by assumption) ?_
                rotate_left
                · intro w hSw; (try dsimp only at hSw); go_simp; first | done | with_reducible rfl
                try simp only [Act.put, List.setIfInBounds_toArray, List.set_cons_zero, List.set_cons_succ]
                refine wpAnyH_take (i := 19) (oi := ({ dst := some 106, op := Op.fieldAddr 34 (Operand.tmp 105) 2, type := 0, pos := "law.go:120", after := #[{ on := 18, ground := Ground.data }], guard := none } : Oper)) (v := ?_) rfl (by kernel_rfl) (by kernel_rfl) (by kernel_rfl) (fun _ _ _ h => h) (Or.inl ⟨by rfl, ?_⟩) (by assumption) ?_
                rotate_left
                · intro w hSw; (try dsimp only at hSw); go_simp; first | done | with_reducible rfl
                try simp only [Act.put, List.setIfInBounds_toArray, List.set_cons_zero, List.set_cons_succ]
                refine wpAnyH_take (i := 20) (oi := ({ dst := some 107, op := Op.load 3 (Operand.tmp 106), type := 3, pos := "law.go:120", after := #[{ on := 19, ground := Ground.data }], guard := none } : Oper)) (v := ?_) rfl (by kernel_rfl) (by kernel_rfl) (by kernel_rfl) (fun _ _ _ h => h) (Or.inl ⟨by rfl, ?_⟩) (by assumption) ?_
                rotate_left
                · intro w hSw; (try dsimp only at hSw); go_simp; first | done | with_reducible rfl
                try simp only [Act.put, List.setIfInBounds_toArray, List.set_cons_zero, List.set_cons_succ]
                refine wpAnyH_take (i := 21) (oi := ({ dst := some 108, op := Op.move (Operand.tmp 0), type := 22, pos := "law.go:120", after := #[], guard := none } : Oper)) (v := ?_) rfl (by kernel_rfl) (by kernel_rfl) (by kernel_rfl) (fun _ _ _ h => h) (Or.inl ⟨by rfl, ?_⟩) (by assumption) ?_
                rotate_left
                · intro w hSw; (try dsimp only at hSw); go_simp; first | done | with_reducible rfl
                try simp only [Act.put, List.setIfInBounds_toArray, List.set_cons_zero, List.set_cons_succ]
                refine wpAnyH_take (i := 22) (oi := ({ dst := some 109, op := Op.move (Operand.tmp 8), type := 3, pos := "law.go:120", after := #[], guard := none } : Oper)) (v := ?_) rfl (by kernel_rfl) (by kernel_rfl) (by kernel_rfl) (fun _ _ _ h => h) (Or.inl ⟨by rfl, ?_⟩) (by assumption) ?_
                rotate_left
                · intro w hSw; (try dsimp only at hSw); go_simp; first | done | with_reducible rfl
                try simp only [Act.put, List.setIfInBounds_toArray, List.set_cons_zero, List.set_cons_succ]
                refine wpAnyH_take (i := 23) (oi := ({ dst := some 110, op := Op.indexAddr 22 (Operand.tmp 108) (Operand.tmp 109), type := 0, pos := "law.go:120", after := #[{ on := 21, ground := Ground.data }, { on := 22, ground := Ground.data }], guard := none } : Oper)) (v := ?_) rfl (by kernel_rfl) (by kernel_rfl) (by kernel_rfl) (fun _ _ _ h => h) (Or.inl ⟨by rfl, ?_⟩) (by assumption) ?_
                rotate_left
                · intro w hSw; (try dsimp only at hSw); go_simp; first | done | with_reducible rfl
                try simp only [Act.put, List.setIfInBounds_toArray, List.set_cons_zero, List.set_cons_succ]
                refine wpAnyH_take (i := 24) (oi := ({ dst := some 111, op := Op.fieldAddr 34 (Operand.tmp 110) 6, type := 0, pos := "law.go:120", after := #[{ on := 23, ground := Ground.data }], guard := none } : Oper)) (v := ?_) rfl (by kernel_rfl) (by kernel_rfl) (by kernel_rfl) (fun _ _ _ h => h) (Or.inl ⟨by rfl, ?_⟩) (by assumption) ?_
                rotate_left
                · intro w hSw; (try dsimp only at hSw); go_simp; first | done | with_reducible rfl
                try simp only [Act.put, List.setIfInBounds_toArray, List.set_cons_zero, List.set_cons_succ]
                refine wpAnyH_take (i := 25) (oi := ({ dst := some 112, op := Op.load 4 (Operand.tmp 111), type := 4, pos := "law.go:120", after := #[{ on := 24, ground := Ground.data }], guard := none } : Oper)) (v := ?_) rfl (by kernel_rfl) (by kernel_rfl) (by kernel_rfl) (fun _ _ _ h => h) (Or.inl ⟨by rfl, ?_⟩) (by assumption) ?_
                rotate_left
                · intro w hSw; (try dsimp only at hSw); go_simp; first | done | with_reducible rfl
                try simp only [Act.put, List.setIfInBounds_toArray, List.set_cons_zero, List.set_cons_succ]
                refine wpAnyH_ready (rs := [0]) (by kernel_rfl) (by simp) ?_
                refine AllReadyH.cons (o := ({ dst := some 87, op := Op.load 30 (Operand.tmp 7), type := 30, pos := "law.go:120", after := #[], guard := none } : Oper)) rfl (fun K hK => ?_) AllReadyH.nil
                go_simp
                refine hK.out _ _ (HST.out _ HB7.out) (fun hHeld => ?_)
                clear hK K
                try simp only [Act.put, List.setIfInBounds_toArray, List.set_cons_zero, List.set_cons_succ]
                refine wpAnyH_ready (rs := [26]) (by kernel_rfl) (by simp) ?_
                refine AllReadyH.cons (o := ({ dst := some 113, op := Op.call { callee := Callee.value (Operand.func 16), args := #[Operand.tmp 87, Operand.tmp 92, Operand.tmp 97, Operand.tmp 102, Operand.tmp 107, Operand.tmp 112], argTypes := #[30, 9, 32, 3, 3, 4] }, type := 39, pos := "law.go:120", after := #[{ on := 0, ground := Ground.data }, { on := 5, ground := Ground.data }, { on := 10, ground := Ground.data }, { on := 15, ground := Ground.data }, { on := 20, ground := Ground.data }, { on := 25, ground := Ground.data }], guard := none } : Oper)) rfl (fun K hK => ?_) AllReadyH.nil
                go_simp
                refine HRM.out.mono ?_
                rintro e w8 ⟨hb8, A8, c8, rfl, hr8⟩
                have HBR8 := Lib.hid (show Below W6.heap.size W6 w8 by rw [HWE.out]; exact hb8)
                have HR8 := Lib.hid hr8
                have HB8 := Lib.hid (HB7.out.trans (hb8.mono HB7.out.size))
                have HB9 := Lib.hid (fun v => HB8.out.grown (grown_set (grown_refl w8 (some gm)) 0 v) HB8.out.size (fun g hg => by injection hg with hg; rw [← hg]; exact HGM.out))
                have m8 : w8.cell? ⟨gm, 0, none⟩ = some (.slice RA t.length rrc) := cell_kept m6 hb8
                have z8 : w8.frozen? ⟨gm, 0, none⟩ = false := by obtain ⟨_, _, _, hk8, _⟩ := R7.out.below HBR8.out; exact hk8.frozen 0
                clear hb8 hr8 m6
                go_wp2_with fail
                refine hK.out _ _ (HST.out _ HB8.out) (fun hHeld => ?_)
                clear hK K
                try simp only [Act.put, List.setIfInBounds_toArray, List.set_cons_zero, List.set_cons_succ]
                refine wpAnyH_take (i := 27) (oi := ({ dst := some 86, op := Op.move (Operand.tmp 113), type := 39, pos := "law.go:120", after := #[{ on := 26, ground := Ground.data }], guard := none } : Oper)) (v := ?_) rfl (by kernel_rfl) (by kernel_rfl) (by kernel_rfl) (fun _ _ _ h => h) (Or.inl ⟨by rfl, ?_⟩) (by assumption) ?_
                rotate_left
                · intro w hSw; (try dsimp only at hSw); go_simp; first | done | with_reducible rfl
                try simp only [Act.put, List.setIfInBounds_toArray, List.set_cons_zero, List.set_cons_succ]
                refine wpAnyH_take (i := 28) (oi := ({ dst := some 114, op := Op.extract (Operand.tmp 86) 0, type := 30, pos := "law.go:120", after := #[{ on := 27, ground := Ground.data }], guard := none } : Oper)) (v := ?_) rfl (by kernel_rfl) (by kernel_rfl) (by kernel_rfl) (fun _ _ _ h => h) (Or.inl ⟨by rfl, ?_⟩) (by assumption) ?_
                rotate_left
                · intro w hSw; (try dsimp only at hSw); go_simp; first | done | with_reducible rfl
                try simp only [Act.put, List.setIfInBounds_toArray, List.set_cons_zero, List.set_cons_succ]
                refine wpAnyH_take (i := 29) (oi := ({ dst := some 115, op := Op.extract (Operand.tmp 86) 1, type := 9, pos := "law.go:120", after := #[{ on := 27, ground := Ground.data }, { on := 31, ground := Ground.gcOnly Departure.lateStores }], guard := none } : Oper)) (v := ?_) rfl (by kernel_rfl) (by kernel_rfl) (by kernel_rfl) (fun _ _ _ h => h) (Or.inl ⟨by rfl, ?_⟩) (by assumption) ?_
                rotate_left
                · intro w hSw; (try dsimp only at hSw); go_simp; first | done | with_reducible rfl
                try simp only [Act.put, List.setIfInBounds_toArray, List.set_cons_zero, List.set_cons_succ]
                refine wpAnyH_take (i := 30) (oi := ({ dst := some 116, op := Op.extract (Operand.tmp 86) 2, type := 36, pos := "law.go:120", after := #[{ on := 27, ground := Ground.data }, { on := 31, ground := Ground.gcOnly Departure.lateStores }], guard := none } : Oper)) (v := ?_) rfl (by kernel_rfl) (by kernel_rfl) (by kernel_rfl) (fun _ _ _ h => h) (Or.inl ⟨by rfl, ?_⟩) (by assumption) ?_
                rotate_left
                · intro w hSw; (try dsimp only at hSw); go_simp; first | done | with_reducible rfl
                try simp only [Act.put, List.setIfInBounds_toArray, List.set_cons_zero, List.set_cons_succ]
                refine wpAnyH_ready (rs := [31]) (by kernel_rfl) (by simp) ?_
                refine AllReadyH.cons (o := ({ dst := none, op := Op.store 30 (Operand.tmp 7) (Operand.tmp 114), type := 0, pos := "law.go:120", after := #[{ on := 28, ground := Ground.data }, { on := 26, ground := Ground.chain }, { on := 0, ground := Ground.phase }, { on := 1, ground := Ground.phase }, { on := 2, ground := Ground.phase }, { on := 3, ground := Ground.phase }, { on := 4, ground := Ground.phase }, { on := 5, ground := Ground.phase }, { on := 6, ground := Ground.phase }, { on := 7, ground := Ground.phase }, { on := 8, ground := Ground.phase }, { on := 9, ground := Ground.phase }, { on := 10, ground := Ground.phase }, { on := 11, ground := Ground.phase }, { on := 12, ground := Ground.phase }, { on := 13, ground := Ground.phase }, { on := 14, ground := Ground.phase }, { on := 15, ground := Ground.phase }, { on := 16, ground := Ground.phase }, { on := 17, ground := Ground.phase }, { on := 18, ground := Ground.phase }, { on := 19, ground := Ground.phase }, { on := 20, ground := Ground.phase }, { on := 21, ground := Ground.phase }, { on := 22, ground := Ground.phase }, { on := 23, ground := Ground.phase }, { on := 24, ground := Ground.phase }, { on := 25, ground := Ground.phase }, { on := 26, ground := Ground.phase }, { on := 27, ground := Ground.phase }, { on := 28, ground := Ground.phase }, { on := 29, ground := Ground.textOnly Departure.lateStores }, { on := 30, ground := Ground.textOnly Departure.lateStores }], guard := none } : Oper)) rfl (fun K hK => ?_) AllReadyH.nil
                go_simp
                refine hK.out _ _ (HST.out _ (HB9.out _)) (fun hHeld => ?_)
                clear hK K
                try simp only [Act.put, List.setIfInBounds_toArray, List.set_cons_zero, List.set_cons_succ]
                refine wpAnyH_done (by kernel_rfl) ?_ _
                go_wp2_with fail
                go_roundw
                case rel => exact ⟨k + 1, F6, _, by omega, by go_num, (T7.out.kept HBR8.out).beside HNG.out HGM.out _, R7.out.put (fun k hk => (T7.out.low k hk).2) HBR8.out (by rw [HWE.out]; exact HR8.out)⟩
                case measure => simp [intOf]; omega
              · have b1 : (o.what == 1) = false := by simpa using hw1
                go_wp2_with fail
                go_roundw
                case rel => exact ⟨k + 1, F, t, by omega, by go_num, TN.out, RN.out⟩
                case measure => simp [intOf]; omega
            · obtain rfl : k = ops.length := by omega
              clear hk hlt
              have HOK := Lib.hid TN.out.ok
              have HNL := Lib.hid (show ∀ k, F k → k < wr.heap.size from fun k hk => (TN.out.low k hk).2)
              have HLF := Lib.hid (show lfsBig xs from ⟨HXW.out, fun l hl => (HXB.out l hl).data⟩)
              have HSM := Lib.hid (show ∀ l ∈ xs, l.data.length + l.path.length ≤ 1000 from fun l hl => by
                obtain ⟨j, hj, e⟩ := List.getElem_of_mem hl
                exact HLE.out j l hj (by rw [List.getElem?_eq_getElem hj, e]))
              have HCL := Lib.hid (copyLeaves_any LA LC xs AllB wr (HXS.out.below TN.out.be) HLF.out)
              go_wp2_with fail
              refine HCL.out.mono ?_
              rintro e w7 ⟨A7, c7, rfl, hr7, hb7⟩
              have T7 := Lib.hid (TN.out.kept hb7)
              have R7 := Lib.hid (RN.out.below hb7)
              have HR7 := Lib.hid hr7.in_
              have HR70 := Lib.hid hr7
              have HS7 := Lib.hid hb7.size
              have HTK := Lib.hid (takes_loads xs)
              have HLD := Lib.hid (load_any g t F A7 c7 xs (From wr.heap.size) w7 (T7.out.env HE.out) T7.out.tree hr7)
              rw [HTK.out] at HLD
              have HLB := Lib.hid (show ∀ tr tv, tr = (if tLoads xs = true then xs else t) → tv = tLoads xs → tr.length ≤ 900 ∧ (∀ l ∈ tr, l.path.length ≤ 64) ∧ ∀ l ∈ tr, l.data.length ≤ 1000 from fun tr tv e1 _ => by
                rw [e1]
                by_cases hl : tLoads xs = true
                · rw [if_pos hl]
                  refine ⟨by have := HXL.out; omega, fun l hl2 => loads_p64 hl hl2, fun l hl2 => by have := HSM.out l hl2; omega⟩
                · rw [if_neg hl]
                  exact ⟨by have := HOK.out.len; omega, HOK.out.p64, HOK.out.d1000⟩)
              obtain ⟨tr, htr⟩ : ∃ r, r = (if tLoads xs = true then xs else t) := ⟨_, rfl⟩
              obtain ⟨tv, htv⟩ : ∃ v, v = tLoads xs := ⟨_, rfl⟩
              rw [← htr, ← htv] at HLD
              replace HLB := Lib.hid (HLB.out tr tv htr htv)
              have HTR := Lib.hid htr
              have HTV := Lib.hid htv
              clear htr htv hr7 hb7 HCL
              go_wp2_with fail
              refine HLD.out.mono ?_
              rintro e w8 ⟨rfl, F8, ht8, hF8, hch8⟩
              have HT8 := Lib.hid ht8
              have HB8 := Lib.hid (show Below w.heap.size w w8 from T7.out.be.trans (hch8.below (fun k hk => (T7.out.low k hk).1) T7.out.be.size))
              have HR8 := Lib.hid (HR7.out.chg hch8 (Gap.of HNL.out))
              have HRF := Lib.hid (R7.out.did hF8 hch8)
              clear ht8 hF8 hch8 HLD
              obtain ⟨hng, RA, rc, hrk, hrr⟩ := HRF.out
              have HRR := Lib.hid hrr
              have r8 : w8.cell? ⟨gm, 0, none⟩ = some (.slice RA t.length rc) := hrk.at_ rfl
              have HRL := Lib.hid (refLoad_any RA rc t _ LA LC xs AllB w8 hrr (HXS.out.below HB8.out) HLF.out (fun l hl => by have := HSM.out l hl; simp only [maxLen]; omega))
              rw [← HTR.out, ← HTV.out] at HRL
              clear hng hrk hrr HRF R7
              go_wp2_with fail
              refine HRL.out.mono ?_
              rintro e w9 ⟨hb9, A9, c9, rfl, hr9⟩
              have HB9 := Lib.hid (HB8.out.trans (hb9.mono HB8.out.size))
              obtain ⟨W9, hW9⟩ : ∃ W9, W9 = w9.alloc (.cells #[.slice A9 tr.length c9] 30) := ⟨_, rfl⟩
              have HB99 := Lib.hid (show Below w9.heap.size w9 W9 by rw [hW9]; exact (Below.refl _ w9).alloc (Nat.le_refl _) _)
              have m9 : W9.cell? ⟨w9.heap.size, 0, none⟩ = some (.slice A9 tr.length c9) := by rw [hW9]; exact (Bk.new w9 30 [.slice A9 tr.length c9]).at_ rfl
              have HW9 := Lib.hid hW9
              have HSA := Lib.hid (show Calls _ _ _ _ (Tells (.bool true) W9) by
                have := same_any g tr F8 W9 ((HT8.out.below hb9).below HB99.out) HLB.out.1 HLB.out.2.1 HLB.out.2.2 A9 c9 tr _ (hr9.below HB99.out)
                rw [decide_eq_true rfl] at this
                exact this)
              have HRX := Lib.hid ((HR8.out.below hb9).below HB99.out)
              have b1 : (tv == tv) = true := by simp
              clear hW9 hb9 hr9 r8 HRL HR8
              go_wp2_with fail
              rw [← HW9.out]
              refine HSA.out.mono ?_
              rintro e w10 ⟨rfl, hb10⟩
              have HRX2 := Lib.hid (HRX.out.below hb10)
              have HB10 := Lib.hid (HB9.out.trans ((HB99.out.trans (hb10.mono HB99.out.size)).mono HB9.out.size))
              have HSB := Lib.hid (show Calls _ _ _ _ (Tells (.bool true) w10) by
                have := sameLeaves_any A7 LA c7 LC xs xs _ AllB w10 HRX2.out (HXS.out.below HB10.out)
                rw [decide_eq_true rfl] at this
                exact this)
              clear hb10 m9 HRX
              go_wp2_with fail
              refine HSB.out.mono ?_
              rintro e w11 ⟨rfl, hb11⟩
              have HB11 := Lib.hid (HB10.out.trans (hb11.mono HB10.out.size))
              clear hb11
              go_wp2_with fail
              go_ret
              exact ⟨rfl, HB11.out⟩

end Go.Proofs.YtgppclmofphlfaaGreatDoor
