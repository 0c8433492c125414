/-
  SessionOnce: a walk over the calls' contracts; no statement.
-/
import Derived.Test.YtfbdmemjojjgnaaSessTwo
import Derived.Test.YtfbdmemjojjgnaaSessRef4
import Derived.Test.YtfbdmemjojjgnaaStoreCell
import Derived.Deep.CutRange
import Derived.Deep.RegionHeld3
namespace Go.Proofs.Ytfbdmemjojjgnaa
set_option maxRecDepth 100000
open Go.RowKit
set_option linter.unusedVariables false
set_option maxRecDepth 100000

set_option maxHeartbeats 25600000 in
theorem sessionOnce_walk (HC0 : BookCalls) (w : World) (v0 : Value) (ops : List So) (h0 : InSos w v0 ops) :
    Calls Try.prog 5 #[v0] w (Tr w) := by
  obtain ⟨SA, sc, rfl, hso, hbig⟩ := h0
  have HAL := Lib.hid (aliveS_ok HC0 w)
  have HGR := Lib.hid (fun W (hW : Below w.heap.size w W) => greatS_any SA sc ops W (hso.below hW) hbig)
  have HC := Lib.hid HC0
  have HSO := Lib.hid hso
  have HBG := Lib.hid hbig
  obtain ⟨n, hn⟩ : ∃ n, n = ops.length := ⟨_, rfl⟩
  have HNX := Lib.hid hn
  have hn63 : n ≤ 9223372036854775807 := by have := hso.1; have := hso.2.1; simp only [maxLen] at *; omega
  rw [← hn] at HGR
  rw [← hn]
  clear hso hn hbig HC0
  go_enter Try.func5, Try.ntmps5
  go_wp2_with fail
  refine (HAL.out).mono ?_
  rintro e w1 ⟨rfl, hb1⟩
  have HB1 := Lib.hid hb1
  clear hb1 HAL
  go_wp2_with fail
  refine (HGR.out w1 HB1.out).mono ?_
  rintro e w2 ⟨bg, rfl, -, rfl⟩
  clear HGR
  cases bg with
  | true =>
    go_wp2_with fail
    go_ret
    exact ⟨rfl, HB1.out⟩
  | false =>
  have HNW := Lib.hid (HC.out.new_ w2)
  go_wp2_with fail
  refine (HNW.out).mono ?_
  intro e w3 h3
  obtain ⟨g, G3, rfl, t3, -, -⟩ := SOn.of_new HB1.out h3
  have T3 := Lib.hid t3
  have HNW := Lib.hid (HC.out.new_ w3)
  clear h3 t3
  go_wp2_with fail
  refine (HNW.out).mono ?_
  intro e w4 h4
  obtain ⟨h, H4, rfl, t4, f4, b4⟩ := SOn.of_new T3.out.be h4
  have T4 := Lib.hid (TwoS.new T3.out t4 f4 b4)
  clear h4 t4 f4 b4 HNW
  go_wp2_with fail
  go_loopw [5] (fun i wr => ∃ (k : Nat) (G : Nat → Prop) (T : List Se), k ≤ n ∧ i = .int .i64 k ∧ TwoS w g G T h H4 [] wr) (fun i _ => n - (intOf i).toNat)
  case atStart => exact ⟨0, G3, [], by omega, rfl, T4.out⟩
  case round =>
    obtain ⟨k, G, T, hk, rfl, htt⟩ := hrel
    by_cases hlt : k < n
    · have hkx : k < ops.length := by have := HNX.out; omega
      have hx : ops[k]? = some ops[k] := List.getElem?_eq_getElem hkx
      obtain ⟨a, C, f, rfl, hal, c0, c1, c2, c3, c4, -⟩ := HSO.out.so5 hx
      have hwf := (HBG.out _ (List.getElem_mem hkx)).client
      generalize ops[k] = o at *
      obtain ⟨what, x, cs⟩ := o
      have HWF := Lib.hid (show (Lit.int .i64 x.client).wf = true from hwf)
      have c0 : wr.cell? (a.add (k * 5)) = some (.int .i64 what) := cell_kept c0 htt.one.be
      have c1 : wr.cell? ⟨(a.add (k * 5)).block, (a.add (k * 5)).off + 1, none⟩ = some (.int .i64 x.client) := cell_kept c1 htt.one.be
      have c2 : wr.cell? ⟨(a.add (k * 5)).block, (a.add (k * 5)).off + 2, none⟩ = some (.int .i64 x.span) := cell_kept c2 htt.one.be
      have c3 : wr.cell? ⟨(a.add (k * 5)).block, (a.add (k * 5)).off + 3, none⟩ = some (.int .i64 x.seen) := cell_kept c3 htt.one.be
      have c4 : wr.cell? ⟨(a.add (k * 5)).block, (a.add (k * 5)).off + 4, none⟩ = some (.slice C cs.length f) := cell_kept c4 htt.one.be
      have hba := (Below.refl wr.heap.size wr).alloc (Nat.le_refl _) (.cells #[.int .i64 what, .int .i64 x.client, .int .i64 x.span, .int .i64 x.seen, .slice C cs.length f] 39)
      have HTA := Lib.hid (htt.kept hba)
      have HLT := Lib.hid hlt
      have y1 : (0 : Int) ≤ (k : Int) := by omega
      have y2 : (k : Int) < (n : Int) := by omega
      clear htt hx hkx hlt hk hal hwf hba
      by_cases hw1 : what = 1
      · have q1 : (what == 1) = true := by simpa using hw1
        clear hw1
        go_wp2_with fail
        refine (HTA.out.one.open_ HC.out x).mono ?_
        intro e w5 h5
        obtain ⟨G5, rfl, t5⟩ := HTA.out.did1 h5
        have T5 := Lib.hid t5
        clear h5 t5
        go_wp2_with fail
        go_roundw
        case rel => exact ⟨k + 1, G5, _, HLT.out, by go_num, T5.out⟩
        case measure => have := HLT.out; simp [intOf]; omega
      have q1 : (what == 1) = false := by simpa using hw1
      clear hw1
      by_cases hw2 : what = 2
      · have q2 : (what == 2) = true := by simpa using hw2
        clear hw2
        go_wp2_with fail
        refine (HTA.out.one.touch_ HC.out x.client x.seen HWF.out).mono ?_
        intro e w5 h5
        obtain ⟨G5, rfl, t5⟩ := HTA.out.did1 h5
        have T5 := Lib.hid t5
        clear h5 t5
        go_wp2_with fail
        go_roundw
        case rel => exact ⟨k + 1, G5, _, HLT.out, by go_num, T5.out⟩
        case measure => have := HLT.out; simp [intOf]; omega
      have q2 : (what == 2) = false := by simpa using hw2
      clear hw2
      by_cases hw3 : what = 3
      · have q3 : (what == 3) = true := by simpa using hw3
        clear hw3
        go_wp2_with fail
        refine (HTA.out.one.expire_ HC.out x.seen).mono ?_
        intro e w5 h5
        obtain ⟨A5, c5, G5, rfl, t5⟩ := HTA.out.gone1 h5
        have T5 := Lib.hid t5
        clear h5 t5
        go_wp2_with fail
        go_roundw
        case rel => exact ⟨k + 1, G5, _, HLT.out, by go_num, T5.out⟩
        case measure => have := HLT.out; simp [intOf]; omega
      have q3 : (what == 3) = false := by simpa using hw3
      clear hw3
      go_wp2_with fail
      go_roundw
      case rel => exact ⟨k + 1, G, T, HLT.out, by go_num, HTA.out⟩
      case measure => have := HLT.out; simp [intOf]; omega
    · have HTT := Lib.hid htt
      have HAQ := Lib.hid (htt.one.all_ HC.out)
      clear htt hk
      go_wp2_with fail
      refine HAQ.out.mono ?_
      rintro e w5 ⟨A1, c1, rfl, ho5, hb5⟩
      have T5 := Lib.hid (HTT.out.kept hb5)
      have AS5 := Lib.hid (AsideE.of_all ho5 HTT.out.two)
      have HRW := Lib.hid (ho5.rds (F := AllB) fun _ _ => trivial)
      have HOK := Lib.hid HTT.out.one.ok
      obtain ⟨m, hm⟩ : ∃ m, m = T.length := ⟨_, rfl⟩
      have HMX := Lib.hid hm
      have hm8 : m ≤ 8 := by have := HOK.out.len; omega
      rw [← hm]
      clear ho5 hb5 hm HAQ
      go_wp2_with fail
      go_loopw [8] (fun i wz => ∃ (i0 : Nat), i0 ≤ m ∧ i = .int .i64 i0 ∧ Below w5.heap.size w5 wz) (fun i _ => m - (intOf i).toNat)
      case atStart => exact ⟨0, by omega, rfl, Below.refl _ _⟩
      case round =>
        rename World => wz
        obtain ⟨i, hi, rfl, hb⟩ := hrel
        by_cases hlt2 : i < m
        · have hix : i < T.length := by have := HMX.out; omega
          have hy : T[i]? = some T[i] := List.getElem?_eq_getElem hix
          have hmem : T[i] ∈ T := List.getElem_mem hix
          obtain ⟨a, rfl, hal, -, -, -⟩ := (HRW.out.below hb).se3 hy
          have HXI := Lib.hid hy
          have hright := HOK.out.2 _ hmem
          have hlive := live_of hmem
          generalize T[i] = x at *
          have HR1 := Lib.hid (fun X (hX : Below w5.heap.size w5 X) => show RowE a i x X by
            obtain ⟨a', e, _, q0, q1, q2⟩ := (HRW.out.below hX).se3 HXI.out
            obtain rfl := Option.some.inj e
            exact ⟨q0, q1, q2⟩)
          have HRG := Lib.hid (fun W => show Calls Try.prog 27 #[.agg #[.int .i64 x.client, .int .i64 x.span, .int .i64 x.seen]] W (Ans (.bool true) W) from by
            have h := refRightE_any x W
            rwa [hright] at h)
          have HLV := Lib.hid (fun W (hW : Below w5.heap.size w5 W) => show Calls Try.prog 25 #[.pointer (some ⟨g, 0, none⟩), .int .i64 x.client] W (Ans (.bool true) W) from by
            have h := (T5.out.one.kept hW).live_ HC.out x.client (seRight_wf hright)
            rwa [hlive] at h)
          have HB := Lib.hid hb
          have HLT := Lib.hid hlt2
          have y1 : (0 : Int) ≤ (i : Int) := by omega
          have y2 : (i : Int) < (m : Int) := by omega
          by_cases hi0 : i = 0
          · have hgt : decide ((0 : Int) < (i : Int)) = false := by simp [hi0]
            have hgn : decide (0 < i) = false := by simp [hi0]
            have HST := Lib.hid HR1.out
            clear hb hlt2 hy hix hal hmem hright hlive hi hi0
            go_wp2_with fail
            refine wp_region_held_drew (S := fun X => RowE a i x X) (by kernel_rfl) (HST.out _ (below_drewN HB.out 1)) (fun hHeld => ?_)
            refine wpAnyH_take (i := 0) (oi := ({ dst := some 65, op := Op.move (Operand.tmp 7), type := 23, pos := "law.go:144", after := #[], guard := none } : Oper)) (v := ?_) rfl (by kernel_rfl) (by kernel_rfl) (by kernel_rfl) (fun _ _ _ h => h) (Or.inl ⟨by rfl, ?_⟩) (by assumption) ?_
            rotate_left
            · rintro w ⟨s0, s1, s2⟩; (try dsimp only); go_simp; first | done | with_reducible rfl
            try simp only [Act.put, List.setIfInBounds_toArray, List.set_cons_zero, List.set_cons_succ]
            refine wpAnyH_take (i := 1) (oi := ({ dst := some 66, op := Op.move (Operand.tmp 8), type := 3, pos := "law.go:144", after := #[], guard := none } : Oper)) (v := ?_) rfl (by kernel_rfl) (by kernel_rfl) (by kernel_rfl) (fun _ _ _ h => h) (Or.inl ⟨by rfl, ?_⟩) (by assumption) ?_
            rotate_left
            · rintro w ⟨s0, s1, s2⟩; (try dsimp only); go_simp; first | done | with_reducible rfl
            try simp only [Act.put, List.setIfInBounds_toArray, List.set_cons_zero, List.set_cons_succ]
            refine wpAnyH_take (i := 2) (oi := ({ dst := some 67, op := Op.indexAddr 23 (Operand.tmp 65) (Operand.tmp 66), type := 0, pos := "law.go:144", after := #[{ on := 0, ground := Ground.data }, { on := 1, ground := Ground.data }], guard := none } : Oper)) (v := ?_) rfl (by kernel_rfl) (by kernel_rfl) (by kernel_rfl) (fun _ _ _ h => h) (Or.inl ⟨by rfl, ?_⟩) (by assumption) ?_
            rotate_left
            · rintro w ⟨s0, s1, s2⟩; (try dsimp only); go_simp; first | done | with_reducible rfl
            try simp only [Act.put, List.setIfInBounds_toArray, List.set_cons_zero, List.set_cons_succ]
            refine wpAnyH_take (i := 3) (oi := ({ dst := some 68, op := Op.load 36 (Operand.tmp 67), type := 36, pos := "law.go:144", after := #[{ on := 2, ground := Ground.data }], guard := none } : Oper)) (v := ?_) rfl (by kernel_rfl) (by kernel_rfl) (by kernel_rfl) (fun _ _ _ h => h) (Or.inl ⟨by rfl, ?_⟩) (by assumption) ?_
            rotate_left
            · rintro w ⟨s0, s1, s2⟩; (try dsimp only); go_simp; first | done | with_reducible rfl
            try simp only [Act.put, List.setIfInBounds_toArray, List.set_cons_zero, List.set_cons_succ]
            refine wpAnyH_ready (rs := [4]) (by kernel_rfl) (by simp) ?_
            refine AllReadyH.cons (o := ({ dst := some 69, op := Op.call { callee := Callee.value (Operand.func 27), args := #[Operand.tmp 68], argTypes := #[36] }, type := 4, pos := "law.go:144", after := #[{ on := 3, ground := Ground.data }], guard := none } : Oper)) rfl (fun K hK => ?_) AllReadyH.nil
            go_simp
            refine (HRG.out _).mono ?_
            rintro e w6 ⟨rfl, hb6⟩
            have HB6 := Lib.hid (HB.out.trans ((below_undrawn (n := 1) hb6).mono HB.out.size))
            clear hb6
            go_wp2_with fail
            refine hK.out _ _ (HST.out _ HB6.out) (fun hHeld => ?_)
            clear hK K
            try simp only [Act.put, List.setIfInBounds_toArray, List.set_cons_zero, List.set_cons_succ]
            refine wpAnyH_take (i := 5) (oi := ({ dst := some 70, op := Op.unOp UnOp.not 4 (Operand.tmp 69), type := 4, pos := "law.go:144", after := #[{ on := 4, ground := Ground.data }], guard := none } : Oper)) (v := ?_) rfl (by kernel_rfl) (by kernel_rfl) (by kernel_rfl) (fun _ _ _ h => h) (Or.inl ⟨by rfl, ?_⟩) (by assumption) ?_
            rotate_left
            · rintro w ⟨s0, s1, s2⟩; (try dsimp only); go_simp; first | done | with_reducible rfl
            try simp only [Act.put, List.setIfInBounds_toArray, List.set_cons_zero, List.set_cons_succ]
            refine wpAnyH_take (i := 6) (oi := ({ dst := some 71, op := Op.move (Operand.tmp 70), type := 4, pos := "law.go:144", after := #[{ on := 5, ground := Ground.data }, { on := 4, ground := Ground.chain }], guard := none } : Oper)) (v := ?_) rfl (by kernel_rfl) (by kernel_rfl) (by kernel_rfl) (fun _ _ _ h => h) (Or.inl ⟨by rfl, ?_⟩) (by assumption) ?_
            rotate_left
            · rintro w ⟨s0, s1, s2⟩; (try dsimp only); go_simp; first | done | with_reducible rfl
            try simp only [Act.put, List.setIfInBounds_toArray, List.set_cons_zero, List.set_cons_succ]
            refine wpAnyH_take (i := 7) (oi := ({ dst := some 72, op := Op.move (Operand.tmp 8), type := 3, pos := "law.go:144", after := #[{ on := 6, ground := Ground.guard }], guard := some (6, false) } : Oper)) (v := ?_) rfl (by kernel_rfl) (by kernel_rfl) (by kernel_rfl) (fun _ _ _ h => h) (Or.inl ⟨by rfl, ?_⟩) (by assumption) ?_
            rotate_left
            · rintro w ⟨s0, s1, s2⟩; (try dsimp only); go_simp; first | done | with_reducible rfl
            try simp only [Act.put, List.setIfInBounds_toArray, List.set_cons_zero, List.set_cons_succ]
            refine wpAnyH_take (i := 8) (oi := ({ dst := some 73, op := Op.binOp BinOp.gtr 3 (Operand.tmp 72) (Operand.const (Value.int IntKind.i64 0)) 3, type := 4, pos := "law.go:144", after := #[{ on := 7, ground := Ground.data }, { on := 6, ground := Ground.guard }], guard := some (6, false) } : Oper)) (v := ?_) rfl (by kernel_rfl) (by kernel_rfl) (by kernel_rfl) (fun _ _ _ h => h) (Or.inl ⟨by rfl, ?_⟩) (by assumption) ?_
            rotate_left
            · rintro w ⟨s0, s1, s2⟩; (try dsimp only); go_simp; first | done | with_reducible rfl
            try simp only [Act.put, List.setIfInBounds_toArray, List.set_cons_zero, List.set_cons_succ]
            refine wpAnyH_take (i := 9) (oi := ({ dst := some 74, op := Op.move (Operand.tmp 73), type := 4, pos := "law.go:144", after := #[{ on := 8, ground := Ground.data }, { on := 6, ground := Ground.chain }, { on := 6, ground := Ground.guard }], guard := some (6, false) } : Oper)) (v := ?_) rfl (by kernel_rfl) (by kernel_rfl) (by kernel_rfl) (fun _ _ _ h => h) (Or.inl ⟨by rfl, ?_⟩) (by assumption) ?_
            rotate_left
            · rintro w ⟨s0, s1, s2⟩; (try dsimp only); go_simp; first | done | with_reducible rfl
            try simp only [Act.put, List.setIfInBounds_toArray, List.set_cons_zero, List.set_cons_succ]
            refine wpAnyH_take (i := 10) (oi := ({ dst := some 75, op := Op.move (Operand.tmp 7), type := 23, pos := "law.go:144", after := #[{ on := 9, ground := Ground.guard }], guard := some (9, true) } : Oper)) (v := undef) rfl (by kernel_rfl) (by kernel_rfl) (by kernel_rfl) (fun _ _ _ h => h) (Or.inr ⟨by rfl, rfl⟩) (by assumption) ?_
            try simp only [Act.put, List.setIfInBounds_toArray, List.set_cons_zero, List.set_cons_succ]
            refine wpAnyH_take (i := 11) (oi := ({ dst := some 76, op := Op.move (Operand.tmp 8), type := 3, pos := "law.go:144", after := #[{ on := 9, ground := Ground.guard }], guard := some (9, true) } : Oper)) (v := undef) rfl (by kernel_rfl) (by kernel_rfl) (by kernel_rfl) (fun _ _ _ h => h) (Or.inr ⟨by rfl, rfl⟩) (by assumption) ?_
            try simp only [Act.put, List.setIfInBounds_toArray, List.set_cons_zero, List.set_cons_succ]
            refine wpAnyH_take (i := 12) (oi := ({ dst := some 77, op := Op.binOp BinOp.sub 3 (Operand.tmp 76) (Operand.const (Value.int IntKind.i64 1)) 3, type := 3, pos := "law.go:144", after := #[{ on := 11, ground := Ground.data }, { on := 9, ground := Ground.guard }], guard := some (9, true) } : Oper)) (v := undef) rfl (by kernel_rfl) (by kernel_rfl) (by kernel_rfl) (fun _ _ _ h => h) (Or.inr ⟨by rfl, rfl⟩) (by assumption) ?_
            try simp only [Act.put, List.setIfInBounds_toArray, List.set_cons_zero, List.set_cons_succ]
            refine wpAnyH_take (i := 13) (oi := ({ dst := some 78, op := Op.indexAddr 23 (Operand.tmp 75) (Operand.tmp 77), type := 0, pos := "law.go:144", after := #[{ on := 10, ground := Ground.data }, { on := 12, ground := Ground.data }, { on := 9, ground := Ground.guard }], guard := some (9, true) } : Oper)) (v := undef) rfl (by kernel_rfl) (by kernel_rfl) (by kernel_rfl) (fun _ _ _ h => h) (Or.inr ⟨by rfl, rfl⟩) (by assumption) ?_
            try simp only [Act.put, List.setIfInBounds_toArray, List.set_cons_zero, List.set_cons_succ]
            refine wpAnyH_take (i := 14) (oi := ({ dst := some 79, op := Op.fieldAddr 36 (Operand.tmp 78) 0, type := 0, pos := "law.go:144", after := #[{ on := 13, ground := Ground.data }, { on := 9, ground := Ground.guard }], guard := some (9, true) } : Oper)) (v := undef) rfl (by kernel_rfl) (by kernel_rfl) (by kernel_rfl) (fun _ _ _ h => h) (Or.inr ⟨by rfl, rfl⟩) (by assumption) ?_
            try simp only [Act.put, List.setIfInBounds_toArray, List.set_cons_zero, List.set_cons_succ]
            refine wpAnyH_take (i := 15) (oi := ({ dst := some 80, op := Op.load 3 (Operand.tmp 79), type := 3, pos := "law.go:144", after := #[{ on := 14, ground := Ground.data }, { on := 9, ground := Ground.guard }], guard := some (9, true) } : Oper)) (v := undef) rfl (by kernel_rfl) (by kernel_rfl) (by kernel_rfl) (fun _ _ _ h => h) (Or.inr ⟨by rfl, rfl⟩) (by assumption) ?_
            try simp only [Act.put, List.setIfInBounds_toArray, List.set_cons_zero, List.set_cons_succ]
            refine wpAnyH_take (i := 16) (oi := ({ dst := some 81, op := Op.move (Operand.tmp 7), type := 23, pos := "law.go:144", after := #[{ on := 9, ground := Ground.guard }], guard := some (9, true) } : Oper)) (v := undef) rfl (by kernel_rfl) (by kernel_rfl) (by kernel_rfl) (fun _ _ _ h => h) (Or.inr ⟨by rfl, rfl⟩) (by assumption) ?_
            try simp only [Act.put, List.setIfInBounds_toArray, List.set_cons_zero, List.set_cons_succ]
            refine wpAnyH_take (i := 17) (oi := ({ dst := some 82, op := Op.move (Operand.tmp 8), type := 3, pos := "law.go:144", after := #[{ on := 9, ground := Ground.guard }], guard := some (9, true) } : Oper)) (v := undef) rfl (by kernel_rfl) (by kernel_rfl) (by kernel_rfl) (fun _ _ _ h => h) (Or.inr ⟨by rfl, rfl⟩) (by assumption) ?_
            try simp only [Act.put, List.setIfInBounds_toArray, List.set_cons_zero, List.set_cons_succ]
            refine wpAnyH_take (i := 18) (oi := ({ dst := some 83, op := Op.indexAddr 23 (Operand.tmp 81) (Operand.tmp 82), type := 0, pos := "law.go:144", after := #[{ on := 16, ground := Ground.data }, { on := 17, ground := Ground.data }, { on := 9, ground := Ground.guard }], guard := some (9, true) } : Oper)) (v := undef) rfl (by kernel_rfl) (by kernel_rfl) (by kernel_rfl) (fun _ _ _ h => h) (Or.inr ⟨by rfl, rfl⟩) (by assumption) ?_
            try simp only [Act.put, List.setIfInBounds_toArray, List.set_cons_zero, List.set_cons_succ]
            refine wpAnyH_take (i := 19) (oi := ({ dst := some 84, op := Op.fieldAddr 36 (Operand.tmp 83) 0, type := 0, pos := "law.go:144", after := #[{ on := 18, ground := Ground.data }, { on := 9, ground := Ground.guard }], guard := some (9, true) } : Oper)) (v := undef) rfl (by kernel_rfl) (by kernel_rfl) (by kernel_rfl) (fun _ _ _ h => h) (Or.inr ⟨by rfl, rfl⟩) (by assumption) ?_
            try simp only [Act.put, List.setIfInBounds_toArray, List.set_cons_zero, List.set_cons_succ]
            refine wpAnyH_take (i := 20) (oi := ({ dst := some 85, op := Op.load 3 (Operand.tmp 84), type := 3, pos := "law.go:144", after := #[{ on := 19, ground := Ground.data }, { on := 9, ground := Ground.guard }], guard := some (9, true) } : Oper)) (v := undef) rfl (by kernel_rfl) (by kernel_rfl) (by kernel_rfl) (fun _ _ _ h => h) (Or.inr ⟨by rfl, rfl⟩) (by assumption) ?_
            try simp only [Act.put, List.setIfInBounds_toArray, List.set_cons_zero, List.set_cons_succ]
            refine wpAnyH_take (i := 21) (oi := ({ dst := some 86, op := Op.binOp BinOp.geq 3 (Operand.tmp 80) (Operand.tmp 85) 3, type := 4, pos := "law.go:144", after := #[{ on := 15, ground := Ground.data }, { on := 20, ground := Ground.data }, { on := 9, ground := Ground.guard }], guard := some (9, true) } : Oper)) (v := undef) rfl (by kernel_rfl) (by kernel_rfl) (by kernel_rfl) (fun _ _ _ h => h) (Or.inr ⟨by rfl, rfl⟩) (by assumption) ?_
            try simp only [Act.put, List.setIfInBounds_toArray, List.set_cons_zero, List.set_cons_succ]
            refine wpAnyH_take (i := 22) (oi := ({ dst := some 87, op := Op.pick (Operand.tmp 74) (Operand.tmp 86) (Operand.const (Value.bool false)), type := 4, pos := "law.go:144", after := #[{ on := 9, ground := Ground.data }, { on := 21, ground := Ground.data }, { on := 6, ground := Ground.guard }], guard := some (6, false) } : Oper)) (v := ?_) rfl (by kernel_rfl) (by kernel_rfl) (by kernel_rfl) (fun _ _ _ h => h) (Or.inl ⟨by rfl, ?_⟩) (by assumption) ?_
            rotate_left
            · rintro w ⟨s0, s1, s2⟩; (try dsimp only); go_simp; first | done | with_reducible rfl
            try simp only [Act.put, List.setIfInBounds_toArray, List.set_cons_zero, List.set_cons_succ]
            refine wpAnyH_take (i := 23) (oi := ({ dst := some 88, op := Op.pick (Operand.tmp 71) (Operand.const (Value.bool true)) (Operand.tmp 87), type := 4, pos := "law.go:144", after := #[{ on := 6, ground := Ground.data }, { on := 22, ground := Ground.data }], guard := none } : Oper)) (v := ?_) rfl (by kernel_rfl) (by kernel_rfl) (by kernel_rfl) (fun _ _ _ h => h) (Or.inl ⟨by rfl, ?_⟩) (by assumption) ?_
            rotate_left
            · rintro w ⟨s0, s1, s2⟩; (try dsimp only); go_simp; first | done | with_reducible rfl
            try simp only [Act.put, List.setIfInBounds_toArray, List.set_cons_zero, List.set_cons_succ]
            refine wpAnyH_take (i := 24) (oi := ({ dst := some 89, op := Op.move (Operand.tmp 88), type := 4, pos := "law.go:144", after := #[{ on := 23, ground := Ground.data }, { on := 9, ground := Ground.chain }], guard := none } : Oper)) (v := ?_) rfl (by kernel_rfl) (by kernel_rfl) (by kernel_rfl) (fun _ _ _ h => h) (Or.inl ⟨by rfl, ?_⟩) (by assumption) ?_
            rotate_left
            · rintro w ⟨s0, s1, s2⟩; (try dsimp only); go_simp; first | done | with_reducible rfl
            try simp only [Act.put, List.setIfInBounds_toArray, List.set_cons_zero, List.set_cons_succ]
            refine wpAnyH_take (i := 25) (oi := ({ dst := some 90, op := Op.move (Operand.tmp 3), type := 26, pos := "law.go:144", after := #[{ on := 24, ground := Ground.guard }], guard := some (24, false) } : Oper)) (v := ?_) rfl (by kernel_rfl) (by kernel_rfl) (by kernel_rfl) (fun _ _ _ h => h) (Or.inl ⟨by rfl, ?_⟩) (by assumption) ?_
            rotate_left
            · rintro w ⟨s0, s1, s2⟩; (try dsimp only); go_simp; first | done | with_reducible rfl
            try simp only [Act.put, List.setIfInBounds_toArray, List.set_cons_zero, List.set_cons_succ]
            refine wpAnyH_take (i := 26) (oi := ({ dst := some 91, op := Op.move (Operand.tmp 7), type := 23, pos := "law.go:144", after := #[{ on := 24, ground := Ground.guard }], guard := some (24, false) } : Oper)) (v := ?_) rfl (by kernel_rfl) (by kernel_rfl) (by kernel_rfl) (fun _ _ _ h => h) (Or.inl ⟨by rfl, ?_⟩) (by assumption) ?_
            rotate_left
            · rintro w ⟨s0, s1, s2⟩; (try dsimp only); go_simp; first | done | with_reducible rfl
            try simp only [Act.put, List.setIfInBounds_toArray, List.set_cons_zero, List.set_cons_succ]
            refine wpAnyH_take (i := 27) (oi := ({ dst := some 92, op := Op.move (Operand.tmp 8), type := 3, pos := "law.go:144", after := #[{ on := 24, ground := Ground.guard }], guard := some (24, false) } : Oper)) (v := ?_) rfl (by kernel_rfl) (by kernel_rfl) (by kernel_rfl) (fun _ _ _ h => h) (Or.inl ⟨by rfl, ?_⟩) (by assumption) ?_
            rotate_left
            · rintro w ⟨s0, s1, s2⟩; (try dsimp only); go_simp; first | done | with_reducible rfl
            try simp only [Act.put, List.setIfInBounds_toArray, List.set_cons_zero, List.set_cons_succ]
            refine wpAnyH_take (i := 28) (oi := ({ dst := some 93, op := Op.indexAddr 23 (Operand.tmp 91) (Operand.tmp 92), type := 0, pos := "law.go:144", after := #[{ on := 26, ground := Ground.data }, { on := 27, ground := Ground.data }, { on := 24, ground := Ground.guard }], guard := some (24, false) } : Oper)) (v := ?_) rfl (by kernel_rfl) (by kernel_rfl) (by kernel_rfl) (fun _ _ _ h => h) (Or.inl ⟨by rfl, ?_⟩) (by assumption) ?_
            rotate_left
            · rintro w ⟨s0, s1, s2⟩; (try dsimp only); go_simp; first | done | with_reducible rfl
            try simp only [Act.put, List.setIfInBounds_toArray, List.set_cons_zero, List.set_cons_succ]
            refine wpAnyH_take (i := 29) (oi := ({ dst := some 94, op := Op.fieldAddr 36 (Operand.tmp 93) 0, type := 0, pos := "law.go:144", after := #[{ on := 28, ground := Ground.data }, { on := 24, ground := Ground.guard }], guard := some (24, false) } : Oper)) (v := ?_) rfl (by kernel_rfl) (by kernel_rfl) (by kernel_rfl) (fun _ _ _ h => h) (Or.inl ⟨by rfl, ?_⟩) (by assumption) ?_
            rotate_left
            · rintro w ⟨s0, s1, s2⟩; (try dsimp only); go_simp; first | done | with_reducible rfl
            try simp only [Act.put, List.setIfInBounds_toArray, List.set_cons_zero, List.set_cons_succ]
            refine wpAnyH_take (i := 30) (oi := ({ dst := some 95, op := Op.load 3 (Operand.tmp 94), type := 3, pos := "law.go:144", after := #[{ on := 29, ground := Ground.data }, { on := 24, ground := Ground.guard }], guard := some (24, false) } : Oper)) (v := ?_) rfl (by kernel_rfl) (by kernel_rfl) (by kernel_rfl) (fun _ _ _ h => h) (Or.inl ⟨by rfl, ?_⟩) (by assumption) ?_
            rotate_left
            · rintro w ⟨s0, s1, s2⟩; (try dsimp only); go_simp; first | done | with_reducible rfl
            try simp only [Act.put, List.setIfInBounds_toArray, List.set_cons_zero, List.set_cons_succ]
            refine wpAnyH_ready (rs := [31]) (by kernel_rfl) (by simp) ?_
            refine AllReadyH.cons (o := ({ dst := some 96, op := Op.call { callee := Callee.value (Operand.func 25), args := #[Operand.tmp 90, Operand.tmp 95], argTypes := #[26, 3] }, type := 4, pos := "law.go:144", after := #[{ on := 25, ground := Ground.data }, { on := 30, ground := Ground.data }, { on := 24, ground := Ground.chain }, { on := 24, ground := Ground.guard }], guard := some (24, false) } : Oper)) rfl (fun K hK => ?_) AllReadyH.nil
            go_simp
            refine (HLV.out _ HB6.out).mono ?_
            rintro e w7 ⟨rfl, hb7⟩
            have HB7 := Lib.hid (HB6.out.trans (hb7.mono HB6.out.size))
            clear hb7
            go_wp2_with fail
            refine hK.out _ _ (HST.out _ HB7.out) (fun hHeld => ?_)
            clear hK K
            try simp only [Act.put, List.setIfInBounds_toArray, List.set_cons_zero, List.set_cons_succ]
            refine wpAnyH_take (i := 32) (oi := ({ dst := some 97, op := Op.unOp UnOp.not 4 (Operand.tmp 96), type := 4, pos := "law.go:144", after := #[{ on := 31, ground := Ground.data }, { on := 24, ground := Ground.guard }], guard := some (24, false) } : Oper)) (v := ?_) rfl (by kernel_rfl) (by kernel_rfl) (by kernel_rfl) (fun _ _ _ h => h) (Or.inl ⟨by rfl, ?_⟩) (by assumption) ?_
            rotate_left
            · rintro w ⟨s0, s1, s2⟩; (try dsimp only); go_simp; first | done | with_reducible rfl
            try simp only [Act.put, List.setIfInBounds_toArray, List.set_cons_zero, List.set_cons_succ]
            refine wpAnyH_take (i := 33) (oi := ({ dst := some 98, op := Op.pick (Operand.tmp 89) (Operand.const (Value.bool true)) (Operand.tmp 97), type := 4, pos := "law.go:144", after := #[{ on := 24, ground := Ground.data }, { on := 32, ground := Ground.data }], guard := none } : Oper)) (v := ?_) rfl (by kernel_rfl) (by kernel_rfl) (by kernel_rfl) (fun _ _ _ h => h) (Or.inl ⟨by rfl, ?_⟩) (by assumption) ?_
            rotate_left
            · rintro w ⟨s0, s1, s2⟩; (try dsimp only); go_simp; first | done | with_reducible rfl
            try simp only [Act.put, List.setIfInBounds_toArray, List.set_cons_zero, List.set_cons_succ]
            refine wpAnyH_done (by kernel_rfl) ?_ _
            go_wp2_with fail
            go_roundw
            case rel => exact ⟨i + 1, HLT.out, by go_num, HB7.out⟩
            case measure => have := HLT.out; simp [intOf]; omega
          · obtain ⟨j, hj⟩ : ∃ j, i = j + 1 := ⟨i - 1, by omega⟩
            have hjx : j < T.length := by omega
            have hz : T[j]? = some T[j] := List.getElem?_eq_getElem hjx
            have hgt : decide ((0 : Int) < (i : Int)) = true := decide_eq_true (by omega)
            have hgn : decide (0 < i) = true := decide_eq_true (by omega)
            have y5 : 0 < i := by omega
            have hkj : IntKind.i64.wrap ((i : Int) - 1) = (j : Int) := by rw [IntKind.wrap_i64]; omega
            have y3 : (0 : Int) ≤ (j : Int) := by omega
            have y4 : (j : Int) < (m : Int) := by omega
            have hlt3 : seLt T[j] x := by
              obtain ⟨h1, e1⟩ := List.getElem?_eq_some_iff.1 HXI.out
              have := List.pairwise_iff_getElem.1 HOK.out.1 j i hjx h1 (by omega)
              rwa [e1] at this
            generalize T[j] = y at *
            have HST := Lib.hid (fun X (hX : Below w5.heap.size w5 X) => show RowE a i x X ∧ RowE a j y X from ⟨HR1.out X hX, by
              obtain ⟨a', e, _, q0, q1, q2⟩ := (HRW.out.below hX).se3 hz
              obtain rfl := Option.some.inj e
              exact ⟨q0, q1, q2⟩⟩)
            have hge : decide (y.client ≥ x.client) = false := decide_eq_false (by unfold seLt at hlt3; omega)
            clear hb hlt2 hy hix hal hmem hright hlive hi hi0 hj hjx hz hlt3
            go_wp2_with fail
            refine wp_region_held_drew (S := fun X => RowE a i x X ∧ RowE a j y X) (by kernel_rfl) (HST.out _ (below_drewN HB.out 1)) (fun hHeld => ?_)
            refine wpAnyH_take (i := 0) (oi := ({ dst := some 65, op := Op.move (Operand.tmp 7), type := 23, pos := "law.go:144", after := #[], guard := none } : Oper)) (v := ?_) rfl (by kernel_rfl) (by kernel_rfl) (by kernel_rfl) (fun _ _ _ h => h) (Or.inl ⟨by rfl, ?_⟩) (by assumption) ?_
            rotate_left
            · rintro w ⟨⟨s0, s1, s2⟩, s3, s4, s5⟩; (try dsimp only); go_simp; first | done | with_reducible rfl
            try simp only [Act.put, List.setIfInBounds_toArray, List.set_cons_zero, List.set_cons_succ]
            refine wpAnyH_take (i := 1) (oi := ({ dst := some 66, op := Op.move (Operand.tmp 8), type := 3, pos := "law.go:144", after := #[], guard := none } : Oper)) (v := ?_) rfl (by kernel_rfl) (by kernel_rfl) (by kernel_rfl) (fun _ _ _ h => h) (Or.inl ⟨by rfl, ?_⟩) (by assumption) ?_
            rotate_left
            · rintro w ⟨⟨s0, s1, s2⟩, s3, s4, s5⟩; (try dsimp only); go_simp; first | done | with_reducible rfl
            try simp only [Act.put, List.setIfInBounds_toArray, List.set_cons_zero, List.set_cons_succ]
            refine wpAnyH_take (i := 2) (oi := ({ dst := some 67, op := Op.indexAddr 23 (Operand.tmp 65) (Operand.tmp 66), type := 0, pos := "law.go:144", after := #[{ on := 0, ground := Ground.data }, { on := 1, ground := Ground.data }], guard := none } : Oper)) (v := ?_) rfl (by kernel_rfl) (by kernel_rfl) (by kernel_rfl) (fun _ _ _ h => h) (Or.inl ⟨by rfl, ?_⟩) (by assumption) ?_
            rotate_left
            · rintro w ⟨⟨s0, s1, s2⟩, s3, s4, s5⟩; (try dsimp only); go_simp; first | done | with_reducible rfl
            try simp only [Act.put, List.setIfInBounds_toArray, List.set_cons_zero, List.set_cons_succ]
            refine wpAnyH_take (i := 3) (oi := ({ dst := some 68, op := Op.load 36 (Operand.tmp 67), type := 36, pos := "law.go:144", after := #[{ on := 2, ground := Ground.data }], guard := none } : Oper)) (v := ?_) rfl (by kernel_rfl) (by kernel_rfl) (by kernel_rfl) (fun _ _ _ h => h) (Or.inl ⟨by rfl, ?_⟩) (by assumption) ?_
            rotate_left
            · rintro w ⟨⟨s0, s1, s2⟩, s3, s4, s5⟩; (try dsimp only); go_simp; first | done | with_reducible rfl
            try simp only [Act.put, List.setIfInBounds_toArray, List.set_cons_zero, List.set_cons_succ]
            refine wpAnyH_ready (rs := [4]) (by kernel_rfl) (by simp) ?_
            refine AllReadyH.cons (o := ({ dst := some 69, op := Op.call { callee := Callee.value (Operand.func 27), args := #[Operand.tmp 68], argTypes := #[36] }, type := 4, pos := "law.go:144", after := #[{ on := 3, ground := Ground.data }], guard := none } : Oper)) rfl (fun K hK => ?_) AllReadyH.nil
            go_simp
            refine (HRG.out _).mono ?_
            rintro e w6 ⟨rfl, hb6⟩
            have HB6 := Lib.hid (HB.out.trans ((below_undrawn (n := 1) hb6).mono HB.out.size))
            clear hb6
            go_wp2_with fail
            refine hK.out _ _ (HST.out _ HB6.out) (fun hHeld => ?_)
            clear hK K
            try simp only [Act.put, List.setIfInBounds_toArray, List.set_cons_zero, List.set_cons_succ]
            refine wpAnyH_take (i := 5) (oi := ({ dst := some 70, op := Op.unOp UnOp.not 4 (Operand.tmp 69), type := 4, pos := "law.go:144", after := #[{ on := 4, ground := Ground.data }], guard := none } : Oper)) (v := ?_) rfl (by kernel_rfl) (by kernel_rfl) (by kernel_rfl) (fun _ _ _ h => h) (Or.inl ⟨by rfl, ?_⟩) (by assumption) ?_
            rotate_left
            · rintro w ⟨⟨s0, s1, s2⟩, s3, s4, s5⟩; (try dsimp only); go_simp; first | done | with_reducible rfl
            try simp only [Act.put, List.setIfInBounds_toArray, List.set_cons_zero, List.set_cons_succ]
            refine wpAnyH_take (i := 6) (oi := ({ dst := some 71, op := Op.move (Operand.tmp 70), type := 4, pos := "law.go:144", after := #[{ on := 5, ground := Ground.data }, { on := 4, ground := Ground.chain }], guard := none } : Oper)) (v := ?_) rfl (by kernel_rfl) (by kernel_rfl) (by kernel_rfl) (fun _ _ _ h => h) (Or.inl ⟨by rfl, ?_⟩) (by assumption) ?_
            rotate_left
            · rintro w ⟨⟨s0, s1, s2⟩, s3, s4, s5⟩; (try dsimp only); go_simp; first | done | with_reducible rfl
            try simp only [Act.put, List.setIfInBounds_toArray, List.set_cons_zero, List.set_cons_succ]
            refine wpAnyH_take (i := 7) (oi := ({ dst := some 72, op := Op.move (Operand.tmp 8), type := 3, pos := "law.go:144", after := #[{ on := 6, ground := Ground.guard }], guard := some (6, false) } : Oper)) (v := ?_) rfl (by kernel_rfl) (by kernel_rfl) (by kernel_rfl) (fun _ _ _ h => h) (Or.inl ⟨by rfl, ?_⟩) (by assumption) ?_
            rotate_left
            · rintro w ⟨⟨s0, s1, s2⟩, s3, s4, s5⟩; (try dsimp only); go_simp; first | done | with_reducible rfl
            try simp only [Act.put, List.setIfInBounds_toArray, List.set_cons_zero, List.set_cons_succ]
            refine wpAnyH_take (i := 8) (oi := ({ dst := some 73, op := Op.binOp BinOp.gtr 3 (Operand.tmp 72) (Operand.const (Value.int IntKind.i64 0)) 3, type := 4, pos := "law.go:144", after := #[{ on := 7, ground := Ground.data }, { on := 6, ground := Ground.guard }], guard := some (6, false) } : Oper)) (v := ?_) rfl (by kernel_rfl) (by kernel_rfl) (by kernel_rfl) (fun _ _ _ h => h) (Or.inl ⟨by rfl, ?_⟩) (by assumption) ?_
            rotate_left
            · rintro w ⟨⟨s0, s1, s2⟩, s3, s4, s5⟩; (try dsimp only); go_simp; first | done | with_reducible rfl
            try simp only [Act.put, List.setIfInBounds_toArray, List.set_cons_zero, List.set_cons_succ]
            refine wpAnyH_take (i := 9) (oi := ({ dst := some 74, op := Op.move (Operand.tmp 73), type := 4, pos := "law.go:144", after := #[{ on := 8, ground := Ground.data }, { on := 6, ground := Ground.chain }, { on := 6, ground := Ground.guard }], guard := some (6, false) } : Oper)) (v := ?_) rfl (by kernel_rfl) (by kernel_rfl) (by kernel_rfl) (fun _ _ _ h => h) (Or.inl ⟨by rfl, ?_⟩) (by assumption) ?_
            rotate_left
            · rintro w ⟨⟨s0, s1, s2⟩, s3, s4, s5⟩; (try dsimp only); go_simp; first | done | with_reducible rfl
            try simp only [Act.put, List.setIfInBounds_toArray, List.set_cons_zero, List.set_cons_succ]
            refine wpAnyH_take (i := 10) (oi := ({ dst := some 75, op := Op.move (Operand.tmp 7), type := 23, pos := "law.go:144", after := #[{ on := 9, ground := Ground.guard }], guard := some (9, true) } : Oper)) (v := ?_) rfl (by kernel_rfl) (by kernel_rfl) (by kernel_rfl) (fun _ _ _ h => h) (Or.inl ⟨by rfl, ?_⟩) (by assumption) ?_
            rotate_left
            · rintro w ⟨⟨s0, s1, s2⟩, s3, s4, s5⟩; (try dsimp only); go_simp; first | done | with_reducible rfl
            try simp only [Act.put, List.setIfInBounds_toArray, List.set_cons_zero, List.set_cons_succ]
            refine wpAnyH_take (i := 11) (oi := ({ dst := some 76, op := Op.move (Operand.tmp 8), type := 3, pos := "law.go:144", after := #[{ on := 9, ground := Ground.guard }], guard := some (9, true) } : Oper)) (v := ?_) rfl (by kernel_rfl) (by kernel_rfl) (by kernel_rfl) (fun _ _ _ h => h) (Or.inl ⟨by rfl, ?_⟩) (by assumption) ?_
            rotate_left
            · rintro w ⟨⟨s0, s1, s2⟩, s3, s4, s5⟩; (try dsimp only); go_simp; first | done | with_reducible rfl
            try simp only [Act.put, List.setIfInBounds_toArray, List.set_cons_zero, List.set_cons_succ]
            refine wpAnyH_take (i := 12) (oi := ({ dst := some 77, op := Op.binOp BinOp.sub 3 (Operand.tmp 76) (Operand.const (Value.int IntKind.i64 1)) 3, type := 3, pos := "law.go:144", after := #[{ on := 11, ground := Ground.data }, { on := 9, ground := Ground.guard }], guard := some (9, true) } : Oper)) (v := ?_) rfl (by kernel_rfl) (by kernel_rfl) (by kernel_rfl) (fun _ _ _ h => h) (Or.inl ⟨by rfl, ?_⟩) (by assumption) ?_
            rotate_left
            · rintro w ⟨⟨s0, s1, s2⟩, s3, s4, s5⟩; (try dsimp only); go_simp; first | done | with_reducible rfl
            try simp only [Act.put, List.setIfInBounds_toArray, List.set_cons_zero, List.set_cons_succ]
            refine wpAnyH_take (i := 13) (oi := ({ dst := some 78, op := Op.indexAddr 23 (Operand.tmp 75) (Operand.tmp 77), type := 0, pos := "law.go:144", after := #[{ on := 10, ground := Ground.data }, { on := 12, ground := Ground.data }, { on := 9, ground := Ground.guard }], guard := some (9, true) } : Oper)) (v := ?_) rfl (by kernel_rfl) (by kernel_rfl) (by kernel_rfl) (fun _ _ _ h => h) (Or.inl ⟨by rfl, ?_⟩) (by assumption) ?_
            rotate_left
            · rintro w ⟨⟨s0, s1, s2⟩, s3, s4, s5⟩; (try dsimp only); go_simp; first | done | with_reducible rfl
            try simp only [Act.put, List.setIfInBounds_toArray, List.set_cons_zero, List.set_cons_succ]
            refine wpAnyH_take (i := 14) (oi := ({ dst := some 79, op := Op.fieldAddr 36 (Operand.tmp 78) 0, type := 0, pos := "law.go:144", after := #[{ on := 13, ground := Ground.data }, { on := 9, ground := Ground.guard }], guard := some (9, true) } : Oper)) (v := ?_) rfl (by kernel_rfl) (by kernel_rfl) (by kernel_rfl) (fun _ _ _ h => h) (Or.inl ⟨by rfl, ?_⟩) (by assumption) ?_
            rotate_left
            · rintro w ⟨⟨s0, s1, s2⟩, s3, s4, s5⟩; (try dsimp only); go_simp; first | done | with_reducible rfl
            try simp only [Act.put, List.setIfInBounds_toArray, List.set_cons_zero, List.set_cons_succ]
            refine wpAnyH_take (i := 15) (oi := ({ dst := some 80, op := Op.load 3 (Operand.tmp 79), type := 3, pos := "law.go:144", after := #[{ on := 14, ground := Ground.data }, { on := 9, ground := Ground.guard }], guard := some (9, true) } : Oper)) (v := ?_) rfl (by kernel_rfl) (by kernel_rfl) (by kernel_rfl) (fun _ _ _ h => h) (Or.inl ⟨by rfl, ?_⟩) (by assumption) ?_
            rotate_left
            · rintro w ⟨⟨s0, s1, s2⟩, s3, s4, s5⟩; (try dsimp only); go_simp; first | done | with_reducible rfl
            try simp only [Act.put, List.setIfInBounds_toArray, List.set_cons_zero, List.set_cons_succ]
            refine wpAnyH_take (i := 16) (oi := ({ dst := some 81, op := Op.move (Operand.tmp 7), type := 23, pos := "law.go:144", after := #[{ on := 9, ground := Ground.guard }], guard := some (9, true) } : Oper)) (v := ?_) rfl (by kernel_rfl) (by kernel_rfl) (by kernel_rfl) (fun _ _ _ h => h) (Or.inl ⟨by rfl, ?_⟩) (by assumption) ?_
            rotate_left
            · rintro w ⟨⟨s0, s1, s2⟩, s3, s4, s5⟩; (try dsimp only); go_simp; first | done | with_reducible rfl
            try simp only [Act.put, List.setIfInBounds_toArray, List.set_cons_zero, List.set_cons_succ]
            refine wpAnyH_take (i := 17) (oi := ({ dst := some 82, op := Op.move (Operand.tmp 8), type := 3, pos := "law.go:144", after := #[{ on := 9, ground := Ground.guard }], guard := some (9, true) } : Oper)) (v := ?_) rfl (by kernel_rfl) (by kernel_rfl) (by kernel_rfl) (fun _ _ _ h => h) (Or.inl ⟨by rfl, ?_⟩) (by assumption) ?_
            rotate_left
            · rintro w ⟨⟨s0, s1, s2⟩, s3, s4, s5⟩; (try dsimp only); go_simp; first | done | with_reducible rfl
            try simp only [Act.put, List.setIfInBounds_toArray, List.set_cons_zero, List.set_cons_succ]
            refine wpAnyH_take (i := 18) (oi := ({ dst := some 83, op := Op.indexAddr 23 (Operand.tmp 81) (Operand.tmp 82), type := 0, pos := "law.go:144", after := #[{ on := 16, ground := Ground.data }, { on := 17, ground := Ground.data }, { on := 9, ground := Ground.guard }], guard := some (9, true) } : Oper)) (v := ?_) rfl (by kernel_rfl) (by kernel_rfl) (by kernel_rfl) (fun _ _ _ h => h) (Or.inl ⟨by rfl, ?_⟩) (by assumption) ?_
            rotate_left
            · rintro w ⟨⟨s0, s1, s2⟩, s3, s4, s5⟩; (try dsimp only); go_simp; first | done | with_reducible rfl
            try simp only [Act.put, List.setIfInBounds_toArray, List.set_cons_zero, List.set_cons_succ]
            refine wpAnyH_take (i := 19) (oi := ({ dst := some 84, op := Op.fieldAddr 36 (Operand.tmp 83) 0, type := 0, pos := "law.go:144", after := #[{ on := 18, ground := Ground.data }, { on := 9, ground := Ground.guard }], guard := some (9, true) } : Oper)) (v := ?_) rfl (by kernel_rfl) (by kernel_rfl) (by kernel_rfl) (fun _ _ _ h => h) (Or.inl ⟨by rfl, ?_⟩) (by assumption) ?_
            rotate_left
            · rintro w ⟨⟨s0, s1, s2⟩, s3, s4, s5⟩; (try dsimp only); go_simp; first | done | with_reducible rfl
            try simp only [Act.put, List.setIfInBounds_toArray, List.set_cons_zero, List.set_cons_succ]
            refine wpAnyH_take (i := 20) (oi := ({ dst := some 85, op := Op.load 3 (Operand.tmp 84), type := 3, pos := "law.go:144", after := #[{ on := 19, ground := Ground.data }, { on := 9, ground := Ground.guard }], guard := some (9, true) } : Oper)) (v := ?_) rfl (by kernel_rfl) (by kernel_rfl) (by kernel_rfl) (fun _ _ _ h => h) (Or.inl ⟨by rfl, ?_⟩) (by assumption) ?_
            rotate_left
            · rintro w ⟨⟨s0, s1, s2⟩, s3, s4, s5⟩; (try dsimp only); go_simp; first | done | with_reducible rfl
            try simp only [Act.put, List.setIfInBounds_toArray, List.set_cons_zero, List.set_cons_succ]
            refine wpAnyH_take (i := 21) (oi := ({ dst := some 86, op := Op.binOp BinOp.geq 3 (Operand.tmp 80) (Operand.tmp 85) 3, type := 4, pos := "law.go:144", after := #[{ on := 15, ground := Ground.data }, { on := 20, ground := Ground.data }, { on := 9, ground := Ground.guard }], guard := some (9, true) } : Oper)) (v := ?_) rfl (by kernel_rfl) (by kernel_rfl) (by kernel_rfl) (fun _ _ _ h => h) (Or.inl ⟨by rfl, ?_⟩) (by assumption) ?_
            rotate_left
            · rintro w ⟨⟨s0, s1, s2⟩, s3, s4, s5⟩; (try dsimp only); go_simp; first | done | with_reducible rfl
            try simp only [Act.put, List.setIfInBounds_toArray, List.set_cons_zero, List.set_cons_succ]
            refine wpAnyH_take (i := 22) (oi := ({ dst := some 87, op := Op.pick (Operand.tmp 74) (Operand.tmp 86) (Operand.const (Value.bool false)), type := 4, pos := "law.go:144", after := #[{ on := 9, ground := Ground.data }, { on := 21, ground := Ground.data }, { on := 6, ground := Ground.guard }], guard := some (6, false) } : Oper)) (v := ?_) rfl (by kernel_rfl) (by kernel_rfl) (by kernel_rfl) (fun _ _ _ h => h) (Or.inl ⟨by rfl, ?_⟩) (by assumption) ?_
            rotate_left
            · rintro w ⟨⟨s0, s1, s2⟩, s3, s4, s5⟩; (try dsimp only); go_simp; first | done | with_reducible rfl
            try simp only [Act.put, List.setIfInBounds_toArray, List.set_cons_zero, List.set_cons_succ]
            refine wpAnyH_take (i := 23) (oi := ({ dst := some 88, op := Op.pick (Operand.tmp 71) (Operand.const (Value.bool true)) (Operand.tmp 87), type := 4, pos := "law.go:144", after := #[{ on := 6, ground := Ground.data }, { on := 22, ground := Ground.data }], guard := none } : Oper)) (v := ?_) rfl (by kernel_rfl) (by kernel_rfl) (by kernel_rfl) (fun _ _ _ h => h) (Or.inl ⟨by rfl, ?_⟩) (by assumption) ?_
            rotate_left
            · rintro w ⟨⟨s0, s1, s2⟩, s3, s4, s5⟩; (try dsimp only); go_simp; first | done | with_reducible rfl
            try simp only [Act.put, List.setIfInBounds_toArray, List.set_cons_zero, List.set_cons_succ]
            refine wpAnyH_take (i := 24) (oi := ({ dst := some 89, op := Op.move (Operand.tmp 88), type := 4, pos := "law.go:144", after := #[{ on := 23, ground := Ground.data }, { on := 9, ground := Ground.chain }], guard := none } : Oper)) (v := ?_) rfl (by kernel_rfl) (by kernel_rfl) (by kernel_rfl) (fun _ _ _ h => h) (Or.inl ⟨by rfl, ?_⟩) (by assumption) ?_
            rotate_left
            · rintro w ⟨⟨s0, s1, s2⟩, s3, s4, s5⟩; (try dsimp only); go_simp; first | done | with_reducible rfl
            try simp only [Act.put, List.setIfInBounds_toArray, List.set_cons_zero, List.set_cons_succ]
            refine wpAnyH_take (i := 25) (oi := ({ dst := some 90, op := Op.move (Operand.tmp 3), type := 26, pos := "law.go:144", after := #[{ on := 24, ground := Ground.guard }], guard := some (24, false) } : Oper)) (v := ?_) rfl (by kernel_rfl) (by kernel_rfl) (by kernel_rfl) (fun _ _ _ h => h) (Or.inl ⟨by rfl, ?_⟩) (by assumption) ?_
            rotate_left
            · rintro w ⟨⟨s0, s1, s2⟩, s3, s4, s5⟩; (try dsimp only); go_simp; first | done | with_reducible rfl
            try simp only [Act.put, List.setIfInBounds_toArray, List.set_cons_zero, List.set_cons_succ]
            refine wpAnyH_take (i := 26) (oi := ({ dst := some 91, op := Op.move (Operand.tmp 7), type := 23, pos := "law.go:144", after := #[{ on := 24, ground := Ground.guard }], guard := some (24, false) } : Oper)) (v := ?_) rfl (by kernel_rfl) (by kernel_rfl) (by kernel_rfl) (fun _ _ _ h => h) (Or.inl ⟨by rfl, ?_⟩) (by assumption) ?_
            rotate_left
            · rintro w ⟨⟨s0, s1, s2⟩, s3, s4, s5⟩; (try dsimp only); go_simp; first | done | with_reducible rfl
            try simp only [Act.put, List.setIfInBounds_toArray, List.set_cons_zero, List.set_cons_succ]
            refine wpAnyH_take (i := 27) (oi := ({ dst := some 92, op := Op.move (Operand.tmp 8), type := 3, pos := "law.go:144", after := #[{ on := 24, ground := Ground.guard }], guard := some (24, false) } : Oper)) (v := ?_) rfl (by kernel_rfl) (by kernel_rfl) (by kernel_rfl) (fun _ _ _ h => h) (Or.inl ⟨by rfl, ?_⟩) (by assumption) ?_
            rotate_left
            · rintro w ⟨⟨s0, s1, s2⟩, s3, s4, s5⟩; (try dsimp only); go_simp; first | done | with_reducible rfl
            try simp only [Act.put, List.setIfInBounds_toArray, List.set_cons_zero, List.set_cons_succ]
            refine wpAnyH_take (i := 28) (oi := ({ dst := some 93, op := Op.indexAddr 23 (Operand.tmp 91) (Operand.tmp 92), type := 0, pos := "law.go:144", after := #[{ on := 26, ground := Ground.data }, { on := 27, ground := Ground.data }, { on := 24, ground := Ground.guard }], guard := some (24, false) } : Oper)) (v := ?_) rfl (by kernel_rfl) (by kernel_rfl) (by kernel_rfl) (fun _ _ _ h => h) (Or.inl ⟨by rfl, ?_⟩) (by assumption) ?_
            rotate_left
            · rintro w ⟨⟨s0, s1, s2⟩, s3, s4, s5⟩; (try dsimp only); go_simp; first | done | with_reducible rfl
            try simp only [Act.put, List.setIfInBounds_toArray, List.set_cons_zero, List.set_cons_succ]
            refine wpAnyH_take (i := 29) (oi := ({ dst := some 94, op := Op.fieldAddr 36 (Operand.tmp 93) 0, type := 0, pos := "law.go:144", after := #[{ on := 28, ground := Ground.data }, { on := 24, ground := Ground.guard }], guard := some (24, false) } : Oper)) (v := ?_) rfl (by kernel_rfl) (by kernel_rfl) (by kernel_rfl) (fun _ _ _ h => h) (Or.inl ⟨by rfl, ?_⟩) (by assumption) ?_
            rotate_left
            · rintro w ⟨⟨s0, s1, s2⟩, s3, s4, s5⟩; (try dsimp only); go_simp; first | done | with_reducible rfl
            try simp only [Act.put, List.setIfInBounds_toArray, List.set_cons_zero, List.set_cons_succ]
            refine wpAnyH_take (i := 30) (oi := ({ dst := some 95, op := Op.load 3 (Operand.tmp 94), type := 3, pos := "law.go:144", after := #[{ on := 29, ground := Ground.data }, { on := 24, ground := Ground.guard }], guard := some (24, false) } : Oper)) (v := ?_) rfl (by kernel_rfl) (by kernel_rfl) (by kernel_rfl) (fun _ _ _ h => h) (Or.inl ⟨by rfl, ?_⟩) (by assumption) ?_
            rotate_left
            · rintro w ⟨⟨s0, s1, s2⟩, s3, s4, s5⟩; (try dsimp only); go_simp; first | done | with_reducible rfl
            try simp only [Act.put, List.setIfInBounds_toArray, List.set_cons_zero, List.set_cons_succ]
            refine wpAnyH_ready (rs := [31]) (by kernel_rfl) (by simp) ?_
            refine AllReadyH.cons (o := ({ dst := some 96, op := Op.call { callee := Callee.value (Operand.func 25), args := #[Operand.tmp 90, Operand.tmp 95], argTypes := #[26, 3] }, type := 4, pos := "law.go:144", after := #[{ on := 25, ground := Ground.data }, { on := 30, ground := Ground.data }, { on := 24, ground := Ground.chain }, { on := 24, ground := Ground.guard }], guard := some (24, false) } : Oper)) rfl (fun K hK => ?_) AllReadyH.nil
            go_simp
            refine (HLV.out _ HB6.out).mono ?_
            rintro e w7 ⟨rfl, hb7⟩
            have HB7 := Lib.hid (HB6.out.trans (hb7.mono HB6.out.size))
            clear hb7
            go_wp2_with fail
            refine hK.out _ _ (HST.out _ HB7.out) (fun hHeld => ?_)
            clear hK K
            try simp only [Act.put, List.setIfInBounds_toArray, List.set_cons_zero, List.set_cons_succ]
            refine wpAnyH_take (i := 32) (oi := ({ dst := some 97, op := Op.unOp UnOp.not 4 (Operand.tmp 96), type := 4, pos := "law.go:144", after := #[{ on := 31, ground := Ground.data }, { on := 24, ground := Ground.guard }], guard := some (24, false) } : Oper)) (v := ?_) rfl (by kernel_rfl) (by kernel_rfl) (by kernel_rfl) (fun _ _ _ h => h) (Or.inl ⟨by rfl, ?_⟩) (by assumption) ?_
            rotate_left
            · rintro w ⟨⟨s0, s1, s2⟩, s3, s4, s5⟩; (try dsimp only); go_simp; first | done | with_reducible rfl
            try simp only [Act.put, List.setIfInBounds_toArray, List.set_cons_zero, List.set_cons_succ]
            refine wpAnyH_take (i := 33) (oi := ({ dst := some 98, op := Op.pick (Operand.tmp 89) (Operand.const (Value.bool true)) (Operand.tmp 97), type := 4, pos := "law.go:144", after := #[{ on := 24, ground := Ground.data }, { on := 32, ground := Ground.data }], guard := none } : Oper)) (v := ?_) rfl (by kernel_rfl) (by kernel_rfl) (by kernel_rfl) (fun _ _ _ h => h) (Or.inl ⟨by rfl, ?_⟩) (by assumption) ?_
            rotate_left
            · rintro w ⟨⟨s0, s1, s2⟩, s3, s4, s5⟩; (try dsimp only); go_simp; first | done | with_reducible rfl
            try simp only [Act.put, List.setIfInBounds_toArray, List.set_cons_zero, List.set_cons_succ]
            refine wpAnyH_done (by kernel_rfl) ?_ _
            go_wp2_with fail
            go_roundw
            case rel => exact ⟨i + 1, HLT.out, by go_num, HB7.out⟩
            case measure => have := HLT.out; simp [intOf]; omega
        · have TZ := Lib.hid (T5.out.kept hb)
          have ASZ := Lib.hid (AS5.out.kept hb)
          have HLD := Lib.hid (show Calls Try.prog 12 #[.pointer (some ⟨h, 0, none⟩), .slice A1 m c1] wz (MvS H4 w h T (.bool true) wz) from by
            have q := TZ.out.two.load_ HC.out A1 c1 T AllB ASZ.out.rds (by have := HOK.out.len; omega)
            have e1 : seTakes T = true := decide_eq_true HOK.out
            have e2 : seLoaded T [] = T := by unfold seLoaded; rw [if_pos e1]
            rw [e1, e2, ← HMX.out] at q
            exact q)
          clear hb hi
          go_wp2_with fail
          refine HLD.out.mono ?_
          rintro e w6 ⟨rfl, H6, t6, f6, cg6⟩
          have T6 := Lib.hid t6
          have AS6 := Lib.hid (ASZ.out.did cg6 f6)
          have HAQ := Lib.hid (t6.all_ HC.out)
          clear t6 f6 cg6 HLD
          go_wp2_with fail
          refine HAQ.out.mono ?_
          rintro e w7 ⟨A7, c7, rfl, ho7, hb7⟩
          have HB7 := Lib.hid (T6.out.be.trans (hb7.mono T6.out.be.size))
          have HSM := Lib.hid (show Calls Try.prog 13 #[.slice A7 T.length c7, .slice A1 m c1] w7 (Ans (.bool true) w7) from by
            have q := sameE_any A7 A1 c7 c1 w7 AllB AllB T T (ho7.rds fun _ _ => trivial) ((AS6.out.kept hb7).rds) (by have := HOK.out.len; omega)
            rw [decide_eq_true rfl] at q
            rw [HMX.out]
            exact q)
          clear ho7 hb7 HAQ
          go_wp2_with fail
          refine HSM.out.mono ?_
          rintro e w8 ⟨rfl, hb8⟩
          have HB8 := Lib.hid (HB7.out.trans (hb8.mono HB7.out.size))
          have y8 : (m : Int) ≤ 8 := by omega
          clear hb8
          go_wp2_with fail
          go_ret
          exact ⟨rfl, HB8.out⟩
end Go.Proofs.Ytfbdmemjojjgnaa
