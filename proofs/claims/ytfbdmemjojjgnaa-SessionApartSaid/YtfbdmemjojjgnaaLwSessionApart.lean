/-
  SessionApart: a walk over the calls' contracts; no statement.
-/
import Derived.Test.YtfbdmemjojjgnaaSessTwo
import Derived.Test.YtfbdmemjojjgnaaSessOnly
import Derived.Test.YtfbdmemjojjgnaaSessRef4
import Derived.Test.YtfbdmemjojjgnaaSessSame
import Derived.Test.YtfbdmemjojjgnaaStoreCell
import Derived.Deep.CutRange
import Derived.Deep.RegionHeld3
namespace Go.Proofs.Ytfbdmemjojjgnaa
set_option maxRecDepth 100000
open Go.RowKit
set_option linter.unusedVariables false
set_option maxRecDepth 100000

/-- a session at the front of a row -/
def FirstE (g : Nat) (y : Se) (W : World) : Prop := W.cell? ⟨g, 0, none⟩ = some (.int .i64 y.client) ∧ W.cell? ⟨g, 1, none⟩ = some (.int .i64 y.span) ∧ W.cell? ⟨g, 2, none⟩ = some (.int .i64 y.seen)
set_option maxHeartbeats 25600000 in
theorem sessionApart_walk (HC0 : BookCalls) (w : World) (v0 : Value) (ops : List So) (h0 : InSos w v0 ops) (cl : Int) (hcw : (Lit.int .i64 cl).wf = true) :
    Calls Try.prog 6 #[v0, .int .i64 cl] w (Tr w) := by
  obtain ⟨SA, sc, rfl, hso, hbig⟩ := h0
  have HAL := Lib.hid (aliveS_ok HC0 w)
  have HGR := Lib.hid (fun W (hW : Below w.heap.size w W) => greatS_any SA sc ops W (hso.below hW) hbig)
  have HC := Lib.hid HC0
  have HSO := Lib.hid hso
  have HBG := Lib.hid hbig
  have HCW := Lib.hid hcw
  obtain ⟨n, hn⟩ : ∃ n, n = ops.length := ⟨_, rfl⟩
  have HNX := Lib.hid hn
  have hn63 : n ≤ 9223372036854775807 := by have := hso.1; have := hso.2.1; simp only [maxLen] at *; omega
  rw [← hn] at HGR
  rw [← hn]
  clear hso hn hbig HC0 hcw
  go_enter Try.func6, Try.ntmps6
  go_wp2_with fail
  refine (HAL.out).mono ?_
  rintro e w1 ⟨rfl, hb1⟩
  have HB1 := Lib.hid hb1
  clear hb1 HAL
  go_wp2_with fail
  refine (HGR.out w1 HB1.out).mono ?_
  rintro e w2 ⟨bg, rfl, -, rfl⟩
  clear HGR
  cases bg with
  | true =>
    go_wp2_with fail
    go_ret
    exact ⟨rfl, HB1.out⟩
  | false =>
  have HNW := Lib.hid (HC.out.new_ w2)
  go_wp2_with fail
  refine (HNW.out).mono ?_
  intro e w3 h3
  obtain ⟨g, G3, rfl, t3, -, -⟩ := SOn.of_new HB1.out h3
  have T3 := Lib.hid t3
  have HNW := Lib.hid (HC.out.new_ w3)
  clear h3 t3
  go_wp2_with fail
  refine (HNW.out).mono ?_
  intro e w4 h4
  obtain ⟨h, H4, rfl, t4, f4, b4⟩ := SOn.of_new T3.out.be h4
  have T4 := Lib.hid (TwoS.new T3.out t4 f4 b4)
  clear h4 t4 f4 b4 HNW
  go_wp2_with fail
  go_loopw [7] (fun i wr => ∃ (k : Nat) (G H : Nat → Prop) (T : List Se), k ≤ n ∧ i = .int .i64 k ∧ TwoS w g G T h H (seOnly cl T) wr) (fun i _ => n - (intOf i).toNat)
  case atStart => exact ⟨0, G3, H4, [], by omega, rfl, T4.out⟩
  case round =>
    obtain ⟨k, G, H, T, hk, rfl, htt⟩ := hrel
    by_cases hlt : k < n
    · have hkx : k < ops.length := by have := HNX.out; omega
      have hx : ops[k]? = some ops[k] := List.getElem?_eq_getElem hkx
      obtain ⟨a, C, f, rfl, hal, c0, c1, c2, c3, c4, -⟩ := HSO.out.so5 hx
      have hwf := (HBG.out _ (List.getElem_mem hkx)).client
      generalize ops[k] = o at *
      obtain ⟨what, x, cs⟩ := o
      have HWF := Lib.hid (show (Lit.int .i64 x.client).wf = true from hwf)
      have c0 : wr.cell? (a.add (k * 5)) = some (.int .i64 what) := cell_kept c0 htt.one.be
      have c1 : wr.cell? ⟨(a.add (k * 5)).block, (a.add (k * 5)).off + 1, none⟩ = some (.int .i64 x.client) := cell_kept c1 htt.one.be
      have c2 : wr.cell? ⟨(a.add (k * 5)).block, (a.add (k * 5)).off + 2, none⟩ = some (.int .i64 x.span) := cell_kept c2 htt.one.be
      have c3 : wr.cell? ⟨(a.add (k * 5)).block, (a.add (k * 5)).off + 3, none⟩ = some (.int .i64 x.seen) := cell_kept c3 htt.one.be
      have c4 : wr.cell? ⟨(a.add (k * 5)).block, (a.add (k * 5)).off + 4, none⟩ = some (.slice C cs.length f) := cell_kept c4 htt.one.be
      have hba := (Below.refl wr.heap.size wr).alloc (Nat.le_refl _) (.cells #[.int .i64 what, .int .i64 x.client, .int .i64 x.span, .int .i64 x.seen, .slice C cs.length f] 39)
      have HTA := Lib.hid (htt.kept hba)
      have HKB := Lib.hid (Bk.new wr 39 [.int .i64 what, .int .i64 x.client, .int .i64 x.span, .int .i64 x.seen, .slice C cs.length f])
      have HNB := Lib.hid (show ¬ G wr.heap.size ∧ ¬ H wr.heap.size from ⟨fun q => by have := (htt.one.low _ q).2; omega, fun q => by have := (htt.two.low _ q).2; omega⟩)
      have HLT := Lib.hid hlt
      have y1 : (0 : Int) ≤ (k : Int) := by omega
      have y2 : (k : Int) < (n : Int) := by omega
      obtain ⟨wa, hwa⟩ : ∃ wa, wa = wr.alloc (.cells #[.int .i64 what, .int .i64 x.client, .int .i64 x.span, .int .i64 x.seen, .slice C cs.length f] 39) := ⟨_, rfl⟩
      obtain ⟨bo, hbo⟩ : ∃ bo, bo = wr.heap.size := ⟨_, rfl⟩
      have HKB := Lib.hid (show Bk wa bo 39 [.int .i64 what, .int .i64 x.client, .int .i64 x.span, .int .i64 x.seen, .slice C cs.length f] from by rw [hwa, hbo]; exact HKB.out)
      rw [← hwa] at HTA
      rw [← hbo] at HNB
      clear htt hx hkx hlt hk hal hwf hba
      go_upto_region 13 with fail
      rw [← hwa, ← hbo]
      clear hwa hbo c0 c1 c2 c3 c4
      obtain ⟨d0, d1, d2, d3⟩ : wa.cell? ⟨bo, 0, none⟩ = some (.int .i64 what) ∧ wa.cell? ⟨bo, 1, none⟩ = some (.int .i64 x.client) ∧ wa.cell? ⟨bo, 2, none⟩ = some (.int .i64 x.span) ∧ wa.cell? ⟨bo, 3, none⟩ = some (.int .i64 x.seen) :=
        ⟨HKB.out.at_ rfl, HKB.out.at_ rfl, HKB.out.at_ rfl, HKB.out.at_ rfl⟩
      by_cases hw1 : what = 1
      · have q1 : (what == 1) = true := by simpa using hw1
        clear hw1
        go_wp2_with fail
        refine (HTA.out.one.open_ HC.out x).mono ?_
        rintro e w5 ⟨rfl, G5, t5, f5, cg5⟩
        have T5 := Lib.hid (HTA.out.did t5 f5 cg5)
        have HK5 := Lib.hid (cg5.bk HKB.out HNB.out.1)
        clear t5 f5 cg5 d0 d1 d2 d3
        obtain ⟨d1, d2, d3⟩ : w5.cell? ⟨bo, 1, none⟩ = some (.int .i64 x.client) ∧ w5.cell? ⟨bo, 2, none⟩ = some (.int .i64 x.span) ∧ w5.cell? ⟨bo, 3, none⟩ = some (.int .i64 x.seen) := ⟨HK5.out.at_ rfl, HK5.out.at_ rfl, HK5.out.at_ rfl⟩
        by_cases hcl : x.client = cl
        · have qc : (x.client == cl) = true := by simpa using hcl
          have HEQ := Lib.hid (only_open_eq (t := T) hcl)
          clear hcl
          go_wp2_with fail
          refine (T5.out.two.open_ HC.out x).mono ?_
          intro e w6 h6
          obtain ⟨H6, rfl, t6⟩ := T5.out.did2 h6
          have T6 := Lib.hid t6
          clear h6 t6
          go_wp2_with fail
          go_roundw
          case rel => exact ⟨k + 1, G5, H6, _, HLT.out, by go_num, by rw [HEQ.out]; exact T6.out⟩
          case measure => have := HLT.out; simp [intOf]; omega
        · have qc : (x.client == cl) = false := by simpa using hcl
          have HEQ := Lib.hid (only_open_ne (t := T) hcl)
          clear hcl
          go_wp2_with fail
          go_roundw
          case rel => exact ⟨k + 1, G5, H, _, HLT.out, by go_num, by rw [HEQ.out]; exact T5.out⟩
          case measure => have := HLT.out; simp [intOf]; omega
      have q1 : (what == 1) = false := by simpa using hw1
      clear hw1
      by_cases hw2 : what = 2
      · have q2 : (what == 2) = true := by simpa using hw2
        clear hw2
        go_wp2_with fail
        refine (HTA.out.one.touch_ HC.out x.client x.seen HWF.out).mono ?_
        rintro e w5 ⟨rfl, G5, t5, f5, cg5⟩
        have T5 := Lib.hid (HTA.out.did t5 f5 cg5)
        have HK5 := Lib.hid (cg5.bk HKB.out HNB.out.1)
        clear t5 f5 cg5 d0 d1 d2 d3
        obtain ⟨d1, d2, d3⟩ : w5.cell? ⟨bo, 1, none⟩ = some (.int .i64 x.client) ∧ w5.cell? ⟨bo, 2, none⟩ = some (.int .i64 x.span) ∧ w5.cell? ⟨bo, 3, none⟩ = some (.int .i64 x.seen) := ⟨HK5.out.at_ rfl, HK5.out.at_ rfl, HK5.out.at_ rfl⟩
        by_cases hcl : x.client = cl
        · have qc : (x.client == cl) = true := by simpa using hcl
          have HEQ := Lib.hid (show seOnly cl (seTouch x.client x.seen T).1 = (seTouch x.client x.seen (seOnly cl T)).1 by rw [hcl]; exact only_touch_eq)
          clear hcl
          go_wp2_with fail
          refine (T5.out.two.touch_ HC.out x.client x.seen HWF.out).mono ?_
          intro e w6 h6
          obtain ⟨H6, rfl, t6⟩ := T5.out.did2 h6
          have T6 := Lib.hid t6
          clear h6 t6
          go_wp2_with fail
          go_roundw
          case rel => exact ⟨k + 1, G5, H6, _, HLT.out, by go_num, by rw [HEQ.out]; exact T6.out⟩
          case measure => have := HLT.out; simp [intOf]; omega
        · have qc : (x.client == cl) = false := by simpa using hcl
          have HEQ := Lib.hid (only_touch_ne (t := T) (now := x.seen) hcl)
          clear hcl
          go_wp2_with fail
          go_roundw
          case rel => exact ⟨k + 1, G5, H, _, HLT.out, by go_num, by rw [HEQ.out]; exact T5.out⟩
          case measure => have := HLT.out; simp [intOf]; omega
      have q2 : (what == 2) = false := by simpa using hw2
      clear hw2
      by_cases hw3 : what = 3
      · have q3 : (what == 3) = true := by simpa using hw3
        clear hw3
        go_wp2_with fail
        refine (HTA.out.one.expire_ HC.out x.seen).mono ?_
        rintro e w5 ⟨A5, c5, G5, rfl, -, -, t5, f5, cg5⟩
        have T5 := Lib.hid (HTA.out.did t5 f5 cg5)
        have HK5 := Lib.hid (cg5.bk HKB.out HNB.out.1)
        clear t5 f5 cg5 d0 d1 d2 d3
        have d3 : w5.cell? ⟨bo, 3, none⟩ = some (.int .i64 x.seen) := HK5.out.at_ rfl
        go_wp2_with fail
        refine (T5.out.two.expire_ HC.out x.seen).mono ?_
        intro e w6 h6
        obtain ⟨A6, c6, H6, rfl, t6⟩ := T5.out.gone2 h6
        have T6 := Lib.hid t6
        clear h6 t6
        go_wp2_with fail
        go_roundw
        case rel => exact ⟨k + 1, G5, H6, _, HLT.out, by go_num, by rw [only_left]; exact T6.out⟩
        case measure => have := HLT.out; simp [intOf]; omega
      have q3 : (what == 3) = false := by simpa using hw3
      clear hw3
      go_wp2_with fail
      go_roundw
      case rel => exact ⟨k + 1, G, H, T, HLT.out, by go_num, HTA.out⟩
      case measure => have := HLT.out; simp [intOf]; omega
    · have HTT := Lib.hid htt
      obtain ⟨lb, hlb⟩ : ∃ lb, lb = seLive cl T := ⟨_, rfl⟩
      have HLB := Lib.hid hlb
      have HL1 := Lib.hid (fun W (hW : Below wr.heap.size wr W) => show Calls Try.prog 25 #[.pointer (some ⟨g, 0, none⟩), .int .i64 cl] W (Ans (.bool lb) W) from by rw [hlb]; exact (htt.one.kept hW).live_ HC.out cl HCW.out)
      have HL2 := Lib.hid (fun W (hW : Below wr.heap.size wr W) => show Calls Try.prog 25 #[.pointer (some ⟨h, 0, none⟩), .int .i64 cl] W (Ans (.bool lb) W) from by
        have q := (htt.two.kept hW).live_ HC.out cl HCW.out
        rw [only_live] at q
        rw [hlb]
        exact q)
      have qq : (lb != lb) = false := by simp
      have HOK := Lib.hid htt.one.ok
      clear htt hk hlb
      go_wp2_with fail
      refine (HL1.out _ (Below.refl _ _)).mono ?_
      rintro e w5 ⟨rfl, hb5⟩
      have HB5 := Lib.hid hb5
      clear hb5
      go_wp2_with fail
      refine (HL2.out _ HB5.out).mono ?_
      rintro e w6 ⟨rfl, hb6⟩
      have HB6 := Lib.hid (HB5.out.trans (hb6.mono HB5.out.size))
      have T6 := Lib.hid (HTT.out.kept HB6.out)
      have HAQ := Lib.hid (T6.out.one.all_ HC.out)
      clear hb6
      go_wp2_with fail
      refine HAQ.out.mono ?_
      rintro e w7 ⟨A1, c1, rfl, ho7, hb7⟩
      have T7 := Lib.hid (T6.out.kept hb7)
      have HR7 := Lib.hid (ho7.rds (F := AllB) fun _ _ => trivial)
      obtain ⟨m, hm⟩ : ∃ m, m = T.length := ⟨_, rfl⟩
      have HMX := Lib.hid hm
      have hm8 : m ≤ 8 := by have := HOK.out.len; omega
      rw [← hm]
      have HAQ := Lib.hid (T7.out.two.all_ HC.out)
      clear ho7 hb7 hm
      go_wp2_with fail
      refine HAQ.out.mono ?_
      rintro e w8 ⟨A2, c2, rfl, ho8, hb8⟩
      have T8 := Lib.hid (T7.out.kept hb8)
      have HR8 := Lib.hid (HR7.out.below hb8)
      have HO8 := Lib.hid ho8
      obtain ⟨p, hp⟩ : ∃ p, p = (seOnly cl T).length := ⟨_, rfl⟩
      have HPX := Lib.hid hp
      rw [← hp]
      clear ho8 hb8 hp HAQ
      go_wp2_with fail
      go_loopw [11] (fun i wz => ∃ (i0 : Nat), i0 ≤ m ∧ i = .int .i64 i0 ∧ Below w8.heap.size w8 wz) (fun i _ => m - (intOf i).toNat)
      case atStart => exact ⟨0, by omega, rfl, Below.refl _ _⟩
      case round =>
        rename World => wz
        obtain ⟨i, hi, rfl, hb⟩ := hrel
        by_cases hlt2 : i < m
        · have hix : i < T.length := by have := HMX.out; omega
          have hy : T[i]? = some T[i] := List.getElem?_eq_getElem hix
          have hmem : T[i] ∈ T := List.getElem_mem hix
          obtain ⟨a, rfl, hal, -, -, -⟩ := (HR8.out.below hb).se3 hy
          have HXI := Lib.hid hy
          have HME := Lib.hid hmem
          generalize T[i] = x at *
          have HR1 := Lib.hid (fun X (hX : Below w8.heap.size w8 X) => show RowE a i x X by
            obtain ⟨a', e, _, q0, q1, q2⟩ := (HR8.out.below hX).se3 HXI.out
            obtain rfl := Option.some.inj e
            exact ⟨q0, q1, q2⟩)
          have HB := Lib.hid hb
          have HLT := Lib.hid hlt2
          have y1 : (0 : Int) ≤ (i : Int) := by omega
          have y2 : (i : Int) < (m : Int) := by omega
          by_cases hcl : x.client = cl
          · have qc : (x.client == cl) = true := by simpa using hcl
            have hone : seOnly cl T = [x] := by rw [← hcl]; exact only_one HOK.out.1 HME.out
            have hp1 : p = 1 := by rw [HPX.out, hone]; rfl
            have hoo := HO8.out
            rw [hone] at hoo
            obtain ⟨g2, rfl, hg2, -, -, -⟩ := OwnE.at_ hoo (k := 0) (x := x) rfl
            have hpi : ((p : Int) != 1) = false := by rw [hp1]; rfl
            have hpn : (p != 1) = false := by rw [hp1]; rfl
            have hpq : decide (0 < p) = true := by rw [hp1]; rfl
            have hpz : decide ((0 : Int) < (p : Int)) = true := by rw [hp1]; rfl
            have hp0 : 0 < p := by omega
            have HST := Lib.hid (fun X (hX : Below w8.heap.size w8 X) => show FirstE g2 x X ∧ RowE a i x X from ⟨by
              obtain ⟨g', e, _, q0, q1, q2⟩ := OwnE.at_ (hoo.below hX) (k := 0) (x := x) rfl
              obtain rfl : g2 = g' := by injection e with e; injection e
              exact ⟨by simpa using q0, by simpa using q1, by simpa using q2⟩, HR1.out X hX⟩)
            have hne := fun W => neq_se x x true (by simp) W
            clear hb hlt2 hy hix hal hmem hi hcl hone hp1 hoo hg2
            go_wp2_with fail
            refine wp_region_held_drew (S := fun X => FirstE g2 x X ∧ RowE a i x X) (by kernel_rfl) (HST.out _ (below_drewN HB.out 1)) (fun hHeld => ?_)
            refine wpAnyH_take (i := 0) (oi := ({ dst := some 106, op := Op.move (Operand.tmp 9), type := 23, pos := "law.go:188", after := #[], guard := none } : Oper)) (v := ?_) rfl (by kernel_rfl) (by kernel_rfl) (by kernel_rfl) (fun _ _ _ h => h) (Or.inl ⟨by rfl, ?_⟩) (by assumption) ?_
            rotate_left
            · rintro w ⟨⟨f0, f1, f2⟩, s0, s1, s2⟩; (try dsimp only); go_simp; first | done | with_reducible rfl
            try simp only [Act.put, List.setIfInBounds_toArray, List.set_cons_zero, List.set_cons_succ]
            refine wpAnyH_take (i := 1) (oi := ({ dst := some 107, op := Op.move (Operand.tmp 11), type := 3, pos := "law.go:188", after := #[], guard := none } : Oper)) (v := ?_) rfl (by kernel_rfl) (by kernel_rfl) (by kernel_rfl) (fun _ _ _ h => h) (Or.inl ⟨by rfl, ?_⟩) (by assumption) ?_
            rotate_left
            · rintro w ⟨⟨f0, f1, f2⟩, s0, s1, s2⟩; (try dsimp only); go_simp; first | done | with_reducible rfl
            try simp only [Act.put, List.setIfInBounds_toArray, List.set_cons_zero, List.set_cons_succ]
            refine wpAnyH_take (i := 2) (oi := ({ dst := some 108, op := Op.indexAddr 23 (Operand.tmp 106) (Operand.tmp 107), type := 0, pos := "law.go:188", after := #[{ on := 0, ground := Ground.data }, { on := 1, ground := Ground.data }], guard := none } : Oper)) (v := ?_) rfl (by kernel_rfl) (by kernel_rfl) (by kernel_rfl) (fun _ _ _ h => h) (Or.inl ⟨by rfl, ?_⟩) (by assumption) ?_
            rotate_left
            · rintro w ⟨⟨f0, f1, f2⟩, s0, s1, s2⟩; (try dsimp only); go_simp; first | done | with_reducible rfl
            try simp only [Act.put, List.setIfInBounds_toArray, List.set_cons_zero, List.set_cons_succ]
            refine wpAnyH_take (i := 3) (oi := ({ dst := some 109, op := Op.fieldAddr 36 (Operand.tmp 108) 0, type := 0, pos := "law.go:188", after := #[{ on := 2, ground := Ground.data }], guard := none } : Oper)) (v := ?_) rfl (by kernel_rfl) (by kernel_rfl) (by kernel_rfl) (fun _ _ _ h => h) (Or.inl ⟨by rfl, ?_⟩) (by assumption) ?_
            rotate_left
            · rintro w ⟨⟨f0, f1, f2⟩, s0, s1, s2⟩; (try dsimp only); go_simp; first | done | with_reducible rfl
            try simp only [Act.put, List.setIfInBounds_toArray, List.set_cons_zero, List.set_cons_succ]
            refine wpAnyH_take (i := 4) (oi := ({ dst := some 110, op := Op.load 3 (Operand.tmp 109), type := 3, pos := "law.go:188", after := #[{ on := 3, ground := Ground.data }], guard := none } : Oper)) (v := ?_) rfl (by kernel_rfl) (by kernel_rfl) (by kernel_rfl) (fun _ _ _ h => h) (Or.inl ⟨by rfl, ?_⟩) (by assumption) ?_
            rotate_left
            · rintro w ⟨⟨f0, f1, f2⟩, s0, s1, s2⟩; (try dsimp only); go_simp; first | done | with_reducible rfl
            try simp only [Act.put, List.setIfInBounds_toArray, List.set_cons_zero, List.set_cons_succ]
            refine wpAnyH_take (i := 5) (oi := ({ dst := some 111, op := Op.move (Operand.tmp 1), type := 3, pos := "law.go:188", after := #[], guard := none } : Oper)) (v := ?_) rfl (by kernel_rfl) (by kernel_rfl) (by kernel_rfl) (fun _ _ _ h => h) (Or.inl ⟨by rfl, ?_⟩) (by assumption) ?_
            rotate_left
            · rintro w ⟨⟨f0, f1, f2⟩, s0, s1, s2⟩; (try dsimp only); go_simp; first | done | with_reducible rfl
            try simp only [Act.put, List.setIfInBounds_toArray, List.set_cons_zero, List.set_cons_succ]
            refine wpAnyH_take (i := 6) (oi := ({ dst := some 112, op := Op.binOp BinOp.eql 3 (Operand.tmp 110) (Operand.tmp 111) 3, type := 4, pos := "law.go:188", after := #[{ on := 4, ground := Ground.data }, { on := 5, ground := Ground.data }], guard := none } : Oper)) (v := ?_) rfl (by kernel_rfl) (by kernel_rfl) (by kernel_rfl) (fun _ _ _ h => h) (Or.inl ⟨by rfl, ?_⟩) (by assumption) ?_
            rotate_left
            · rintro w ⟨⟨f0, f1, f2⟩, s0, s1, s2⟩; (try dsimp only); go_simp; first | done | with_reducible rfl
            try simp only [Act.put, List.setIfInBounds_toArray, List.set_cons_zero, List.set_cons_succ]
            refine wpAnyH_take (i := 7) (oi := ({ dst := some 113, op := Op.move (Operand.tmp 112), type := 4, pos := "law.go:188", after := #[{ on := 6, ground := Ground.data }], guard := none } : Oper)) (v := ?_) rfl (by kernel_rfl) (by kernel_rfl) (by kernel_rfl) (fun _ _ _ h => h) (Or.inl ⟨by rfl, ?_⟩) (by assumption) ?_
            rotate_left
            · rintro w ⟨⟨f0, f1, f2⟩, s0, s1, s2⟩; (try dsimp only); go_simp; first | done | with_reducible rfl
            try simp only [Act.put, List.setIfInBounds_toArray, List.set_cons_zero, List.set_cons_succ]
            refine wpAnyH_take (i := 8) (oi := ({ dst := some 114, op := Op.move (Operand.tmp 10), type := 23, pos := "law.go:188", after := #[{ on := 7, ground := Ground.guard }], guard := some (7, true) } : Oper)) (v := ?_) rfl (by kernel_rfl) (by kernel_rfl) (by kernel_rfl) (fun _ _ _ h => h) (Or.inl ⟨by rfl, ?_⟩) (by assumption) ?_
            rotate_left
            · rintro w ⟨⟨f0, f1, f2⟩, s0, s1, s2⟩; (try dsimp only); go_simp; first | done | with_reducible rfl
            try simp only [Act.put, List.setIfInBounds_toArray, List.set_cons_zero, List.set_cons_succ]
            refine wpAnyH_take (i := 9) (oi := ({ dst := some 115, op := Op.call { callee := Callee.builtin Builtin.len, args := #[Operand.tmp 114], argTypes := #[23] }, type := 3, pos := "law.go:188", after := #[{ on := 8, ground := Ground.data }, { on := 7, ground := Ground.guard }], guard := some (7, true) } : Oper)) (v := ?_) rfl (by kernel_rfl) (by kernel_rfl) (by kernel_rfl) (fun _ _ _ h => h) (Or.inl ⟨by rfl, ?_⟩) (by assumption) ?_
            rotate_left
            · rintro w ⟨⟨f0, f1, f2⟩, s0, s1, s2⟩; (try dsimp only); go_simp; first | done | with_reducible rfl
            try simp only [Act.put, List.setIfInBounds_toArray, List.set_cons_zero, List.set_cons_succ]
            refine wpAnyH_take (i := 10) (oi := ({ dst := some 116, op := Op.binOp BinOp.neq 3 (Operand.tmp 115) (Operand.const (Value.int IntKind.i64 1)) 3, type := 4, pos := "law.go:188", after := #[{ on := 9, ground := Ground.data }, { on := 7, ground := Ground.guard }], guard := some (7, true) } : Oper)) (v := ?_) rfl (by kernel_rfl) (by kernel_rfl) (by kernel_rfl) (fun _ _ _ h => h) (Or.inl ⟨by rfl, ?_⟩) (by assumption) ?_
            rotate_left
            · rintro w ⟨⟨f0, f1, f2⟩, s0, s1, s2⟩; (try dsimp only); go_simp; first | done | with_reducible rfl
            try simp only [Act.put, List.setIfInBounds_toArray, List.set_cons_zero, List.set_cons_succ]
            refine wpAnyH_take (i := 11) (oi := ({ dst := some 117, op := Op.move (Operand.tmp 116), type := 4, pos := "law.go:188", after := #[{ on := 10, ground := Ground.data }, { on := 7, ground := Ground.chain }, { on := 7, ground := Ground.guard }], guard := some (7, true) } : Oper)) (v := ?_) rfl (by kernel_rfl) (by kernel_rfl) (by kernel_rfl) (fun _ _ _ h => h) (Or.inl ⟨by rfl, ?_⟩) (by assumption) ?_
            rotate_left
            · rintro w ⟨⟨f0, f1, f2⟩, s0, s1, s2⟩; (try dsimp only); go_simp; first | done | with_reducible rfl
            try simp only [Act.put, List.setIfInBounds_toArray, List.set_cons_zero, List.set_cons_succ]
            refine wpAnyH_take (i := 12) (oi := ({ dst := some 118, op := Op.move (Operand.tmp 10), type := 23, pos := "law.go:188", after := #[{ on := 11, ground := Ground.guard }], guard := some (11, false) } : Oper)) (v := ?_) rfl (by kernel_rfl) (by kernel_rfl) (by kernel_rfl) (fun _ _ _ h => h) (Or.inl ⟨by rfl, ?_⟩) (by assumption) ?_
            rotate_left
            · rintro w ⟨⟨f0, f1, f2⟩, s0, s1, s2⟩; (try dsimp only); go_simp; first | done | with_reducible rfl
            try simp only [Act.put, List.setIfInBounds_toArray, List.set_cons_zero, List.set_cons_succ]
            refine wpAnyH_take (i := 13) (oi := ({ dst := some 119, op := Op.indexAddr 23 (Operand.tmp 118) (Operand.const (Value.int IntKind.i64 0)), type := 0, pos := "law.go:188", after := #[{ on := 12, ground := Ground.data }, { on := 11, ground := Ground.guard }], guard := some (11, false) } : Oper)) (v := ?_) rfl (by kernel_rfl) (by kernel_rfl) (by kernel_rfl) (fun _ _ _ h => h) (Or.inl ⟨by rfl, ?_⟩) (by assumption) ?_
            rotate_left
            · rintro w ⟨⟨f0, f1, f2⟩, s0, s1, s2⟩; (try dsimp only); go_simp; first | done | with_reducible rfl
            try simp only [Act.put, List.setIfInBounds_toArray, List.set_cons_zero, List.set_cons_succ]
            refine wpAnyH_take (i := 14) (oi := ({ dst := some 120, op := Op.load 36 (Operand.tmp 119), type := 36, pos := "law.go:188", after := #[{ on := 13, ground := Ground.data }, { on := 11, ground := Ground.guard }], guard := some (11, false) } : Oper)) (v := ?_) rfl (by kernel_rfl) (by kernel_rfl) (by kernel_rfl) (fun _ _ _ h => h) (Or.inl ⟨by rfl, ?_⟩) (by assumption) ?_
            rotate_left
            · rintro w ⟨⟨f0, f1, f2⟩, s0, s1, s2⟩; (try dsimp only); go_simp; first | done | with_reducible rfl
            try simp only [Act.put, List.setIfInBounds_toArray, List.set_cons_zero, List.set_cons_succ]
            refine wpAnyH_take (i := 15) (oi := ({ dst := some 121, op := Op.move (Operand.tmp 9), type := 23, pos := "law.go:188", after := #[{ on := 11, ground := Ground.guard }], guard := some (11, false) } : Oper)) (v := ?_) rfl (by kernel_rfl) (by kernel_rfl) (by kernel_rfl) (fun _ _ _ h => h) (Or.inl ⟨by rfl, ?_⟩) (by assumption) ?_
            rotate_left
            · rintro w ⟨⟨f0, f1, f2⟩, s0, s1, s2⟩; (try dsimp only); go_simp; first | done | with_reducible rfl
            try simp only [Act.put, List.setIfInBounds_toArray, List.set_cons_zero, List.set_cons_succ]
            refine wpAnyH_take (i := 16) (oi := ({ dst := some 122, op := Op.move (Operand.tmp 11), type := 3, pos := "law.go:188", after := #[{ on := 11, ground := Ground.guard }], guard := some (11, false) } : Oper)) (v := ?_) rfl (by kernel_rfl) (by kernel_rfl) (by kernel_rfl) (fun _ _ _ h => h) (Or.inl ⟨by rfl, ?_⟩) (by assumption) ?_
            rotate_left
            · rintro w ⟨⟨f0, f1, f2⟩, s0, s1, s2⟩; (try dsimp only); go_simp; first | done | with_reducible rfl
            try simp only [Act.put, List.setIfInBounds_toArray, List.set_cons_zero, List.set_cons_succ]
            refine wpAnyH_take (i := 17) (oi := ({ dst := some 123, op := Op.indexAddr 23 (Operand.tmp 121) (Operand.tmp 122), type := 0, pos := "law.go:188", after := #[{ on := 15, ground := Ground.data }, { on := 16, ground := Ground.data }, { on := 11, ground := Ground.guard }], guard := some (11, false) } : Oper)) (v := ?_) rfl (by kernel_rfl) (by kernel_rfl) (by kernel_rfl) (fun _ _ _ h => h) (Or.inl ⟨by rfl, ?_⟩) (by assumption) ?_
            rotate_left
            · rintro w ⟨⟨f0, f1, f2⟩, s0, s1, s2⟩; (try dsimp only); go_simp; first | done | with_reducible rfl
            try simp only [Act.put, List.setIfInBounds_toArray, List.set_cons_zero, List.set_cons_succ]
            refine wpAnyH_take (i := 18) (oi := ({ dst := some 124, op := Op.load 36 (Operand.tmp 123), type := 36, pos := "law.go:188", after := #[{ on := 17, ground := Ground.data }, { on := 11, ground := Ground.guard }], guard := some (11, false) } : Oper)) (v := ?_) rfl (by kernel_rfl) (by kernel_rfl) (by kernel_rfl) (fun _ _ _ h => h) (Or.inl ⟨by rfl, ?_⟩) (by assumption) ?_
            rotate_left
            · rintro w ⟨⟨f0, f1, f2⟩, s0, s1, s2⟩; (try dsimp only); go_simp; first | done | with_reducible rfl
            try simp only [Act.put, List.setIfInBounds_toArray, List.set_cons_zero, List.set_cons_succ]
            refine wpAnyH_take (i := 19) (oi := ({ dst := some 125, op := Op.binOp BinOp.neq 36 (Operand.tmp 120) (Operand.tmp 124) 36, type := 4, pos := "law.go:188", after := #[{ on := 14, ground := Ground.data }, { on := 18, ground := Ground.data }, { on := 11, ground := Ground.guard }], guard := some (11, false) } : Oper)) (v := ?_) rfl (by kernel_rfl) (by kernel_rfl) (by kernel_rfl) (fun _ _ _ h => h) (Or.inl ⟨by rfl, ?_⟩) (by assumption) ?_
            rotate_left
            · rintro w ⟨⟨f0, f1, f2⟩, s0, s1, s2⟩; (try dsimp only); go_simp; first | done | with_reducible rfl
            try simp only [Act.put, List.setIfInBounds_toArray, List.set_cons_zero, List.set_cons_succ]
            refine wpAnyH_take (i := 20) (oi := ({ dst := some 126, op := Op.pick (Operand.tmp 117) (Operand.const (Value.bool true)) (Operand.tmp 125), type := 4, pos := "law.go:188", after := #[{ on := 11, ground := Ground.data }, { on := 19, ground := Ground.data }, { on := 7, ground := Ground.guard }], guard := some (7, true) } : Oper)) (v := ?_) rfl (by kernel_rfl) (by kernel_rfl) (by kernel_rfl) (fun _ _ _ h => h) (Or.inl ⟨by rfl, ?_⟩) (by assumption) ?_
            rotate_left
            · rintro w ⟨⟨f0, f1, f2⟩, s0, s1, s2⟩; (try dsimp only); go_simp; first | done | with_reducible rfl
            try simp only [Act.put, List.setIfInBounds_toArray, List.set_cons_zero, List.set_cons_succ]
            refine wpAnyH_take (i := 21) (oi := ({ dst := some 127, op := Op.pick (Operand.tmp 113) (Operand.tmp 126) (Operand.const (Value.bool false)), type := 4, pos := "law.go:188", after := #[{ on := 7, ground := Ground.data }, { on := 20, ground := Ground.data }], guard := none } : Oper)) (v := ?_) rfl (by kernel_rfl) (by kernel_rfl) (by kernel_rfl) (fun _ _ _ h => h) (Or.inl ⟨by rfl, ?_⟩) (by assumption) ?_
            rotate_left
            · rintro w ⟨⟨f0, f1, f2⟩, s0, s1, s2⟩; (try dsimp only); go_simp; first | done | with_reducible rfl
            try simp only [Act.put, List.setIfInBounds_toArray, List.set_cons_zero, List.set_cons_succ]
            refine wpAnyH_done (by kernel_rfl) ?_ _
            go_wp2_with fail
            go_roundw
            case rel => exact ⟨i + 1, HLT.out, by go_num, below_drewN HB.out 1⟩
            case measure => have := HLT.out; simp [intOf]; omega
          · have qc : (x.client == cl) = false := by simpa using hcl
            have HST := Lib.hid HR1.out
            clear hb hlt2 hy hix hal hmem hi hcl
            go_wp2_with fail
            refine wp_region_held_drew (S := fun X => RowE a i x X) (by kernel_rfl) (HST.out _ (below_drewN HB.out 1)) (fun hHeld => ?_)
            refine wpAnyH_take (i := 0) (oi := ({ dst := some 106, op := Op.move (Operand.tmp 9), type := 23, pos := "law.go:188", after := #[], guard := none } : Oper)) (v := ?_) rfl (by kernel_rfl) (by kernel_rfl) (by kernel_rfl) (fun _ _ _ h => h) (Or.inl ⟨by rfl, ?_⟩) (by assumption) ?_
            rotate_left
            · rintro w ⟨s0, s1, s2⟩; (try dsimp only); go_simp; first | done | with_reducible rfl
            try simp only [Act.put, List.setIfInBounds_toArray, List.set_cons_zero, List.set_cons_succ]
            refine wpAnyH_take (i := 1) (oi := ({ dst := some 107, op := Op.move (Operand.tmp 11), type := 3, pos := "law.go:188", after := #[], guard := none } : Oper)) (v := ?_) rfl (by kernel_rfl) (by kernel_rfl) (by kernel_rfl) (fun _ _ _ h => h) (Or.inl ⟨by rfl, ?_⟩) (by assumption) ?_
            rotate_left
            · rintro w ⟨s0, s1, s2⟩; (try dsimp only); go_simp; first | done | with_reducible rfl
            try simp only [Act.put, List.setIfInBounds_toArray, List.set_cons_zero, List.set_cons_succ]
            refine wpAnyH_take (i := 2) (oi := ({ dst := some 108, op := Op.indexAddr 23 (Operand.tmp 106) (Operand.tmp 107), type := 0, pos := "law.go:188", after := #[{ on := 0, ground := Ground.data }, { on := 1, ground := Ground.data }], guard := none } : Oper)) (v := ?_) rfl (by kernel_rfl) (by kernel_rfl) (by kernel_rfl) (fun _ _ _ h => h) (Or.inl ⟨by rfl, ?_⟩) (by assumption) ?_
            rotate_left
            · rintro w ⟨s0, s1, s2⟩; (try dsimp only); go_simp; first | done | with_reducible rfl
            try simp only [Act.put, List.setIfInBounds_toArray, List.set_cons_zero, List.set_cons_succ]
            refine wpAnyH_take (i := 3) (oi := ({ dst := some 109, op := Op.fieldAddr 36 (Operand.tmp 108) 0, type := 0, pos := "law.go:188", after := #[{ on := 2, ground := Ground.data }], guard := none } : Oper)) (v := ?_) rfl (by kernel_rfl) (by kernel_rfl) (by kernel_rfl) (fun _ _ _ h => h) (Or.inl ⟨by rfl, ?_⟩) (by assumption) ?_
            rotate_left
            · rintro w ⟨s0, s1, s2⟩; (try dsimp only); go_simp; first | done | with_reducible rfl
            try simp only [Act.put, List.setIfInBounds_toArray, List.set_cons_zero, List.set_cons_succ]
            refine wpAnyH_take (i := 4) (oi := ({ dst := some 110, op := Op.load 3 (Operand.tmp 109), type := 3, pos := "law.go:188", after := #[{ on := 3, ground := Ground.data }], guard := none } : Oper)) (v := ?_) rfl (by kernel_rfl) (by kernel_rfl) (by kernel_rfl) (fun _ _ _ h => h) (Or.inl ⟨by rfl, ?_⟩) (by assumption) ?_
            rotate_left
            · rintro w ⟨s0, s1, s2⟩; (try dsimp only); go_simp; first | done | with_reducible rfl
            try simp only [Act.put, List.setIfInBounds_toArray, List.set_cons_zero, List.set_cons_succ]
            refine wpAnyH_take (i := 5) (oi := ({ dst := some 111, op := Op.move (Operand.tmp 1), type := 3, pos := "law.go:188", after := #[], guard := none } : Oper)) (v := ?_) rfl (by kernel_rfl) (by kernel_rfl) (by kernel_rfl) (fun _ _ _ h => h) (Or.inl ⟨by rfl, ?_⟩) (by assumption) ?_
            rotate_left
            · rintro w ⟨s0, s1, s2⟩; (try dsimp only); go_simp; first | done | with_reducible rfl
            try simp only [Act.put, List.setIfInBounds_toArray, List.set_cons_zero, List.set_cons_succ]
            refine wpAnyH_take (i := 6) (oi := ({ dst := some 112, op := Op.binOp BinOp.eql 3 (Operand.tmp 110) (Operand.tmp 111) 3, type := 4, pos := "law.go:188", after := #[{ on := 4, ground := Ground.data }, { on := 5, ground := Ground.data }], guard := none } : Oper)) (v := ?_) rfl (by kernel_rfl) (by kernel_rfl) (by kernel_rfl) (fun _ _ _ h => h) (Or.inl ⟨by rfl, ?_⟩) (by assumption) ?_
            rotate_left
            · rintro w ⟨s0, s1, s2⟩; (try dsimp only); go_simp; first | done | with_reducible rfl
            try simp only [Act.put, List.setIfInBounds_toArray, List.set_cons_zero, List.set_cons_succ]
            refine wpAnyH_take (i := 7) (oi := ({ dst := some 113, op := Op.move (Operand.tmp 112), type := 4, pos := "law.go:188", after := #[{ on := 6, ground := Ground.data }], guard := none } : Oper)) (v := ?_) rfl (by kernel_rfl) (by kernel_rfl) (by kernel_rfl) (fun _ _ _ h => h) (Or.inl ⟨by rfl, ?_⟩) (by assumption) ?_
            rotate_left
            · rintro w ⟨s0, s1, s2⟩; (try dsimp only); go_simp; first | done | with_reducible rfl
            try simp only [Act.put, List.setIfInBounds_toArray, List.set_cons_zero, List.set_cons_succ]
            refine wpAnyH_take (i := 8) (oi := ({ dst := some 114, op := Op.move (Operand.tmp 10), type := 23, pos := "law.go:188", after := #[{ on := 7, ground := Ground.guard }], guard := some (7, true) } : Oper)) (v := undef) rfl (by kernel_rfl) (by kernel_rfl) (by kernel_rfl) (fun _ _ _ h => h) (Or.inr ⟨by rfl, rfl⟩) (by assumption) ?_
            try simp only [Act.put, List.setIfInBounds_toArray, List.set_cons_zero, List.set_cons_succ]
            refine wpAnyH_take (i := 9) (oi := ({ dst := some 115, op := Op.call { callee := Callee.builtin Builtin.len, args := #[Operand.tmp 114], argTypes := #[23] }, type := 3, pos := "law.go:188", after := #[{ on := 8, ground := Ground.data }, { on := 7, ground := Ground.guard }], guard := some (7, true) } : Oper)) (v := undef) rfl (by kernel_rfl) (by kernel_rfl) (by kernel_rfl) (fun _ _ _ h => h) (Or.inr ⟨by rfl, rfl⟩) (by assumption) ?_
            try simp only [Act.put, List.setIfInBounds_toArray, List.set_cons_zero, List.set_cons_succ]
            refine wpAnyH_take (i := 10) (oi := ({ dst := some 116, op := Op.binOp BinOp.neq 3 (Operand.tmp 115) (Operand.const (Value.int IntKind.i64 1)) 3, type := 4, pos := "law.go:188", after := #[{ on := 9, ground := Ground.data }, { on := 7, ground := Ground.guard }], guard := some (7, true) } : Oper)) (v := undef) rfl (by kernel_rfl) (by kernel_rfl) (by kernel_rfl) (fun _ _ _ h => h) (Or.inr ⟨by rfl, rfl⟩) (by assumption) ?_
            try simp only [Act.put, List.setIfInBounds_toArray, List.set_cons_zero, List.set_cons_succ]
            refine wpAnyH_take (i := 11) (oi := ({ dst := some 117, op := Op.move (Operand.tmp 116), type := 4, pos := "law.go:188", after := #[{ on := 10, ground := Ground.data }, { on := 7, ground := Ground.chain }, { on := 7, ground := Ground.guard }], guard := some (7, true) } : Oper)) (v := undef) rfl (by kernel_rfl) (by kernel_rfl) (by kernel_rfl) (fun _ _ _ h => h) (Or.inr ⟨by rfl, rfl⟩) (by assumption) ?_
            try simp only [Act.put, List.setIfInBounds_toArray, List.set_cons_zero, List.set_cons_succ]
            refine wpAnyH_take (i := 12) (oi := ({ dst := some 118, op := Op.move (Operand.tmp 10), type := 23, pos := "law.go:188", after := #[{ on := 11, ground := Ground.guard }], guard := some (11, false) } : Oper)) (v := undef) rfl (by kernel_rfl) (by kernel_rfl) (by kernel_rfl) (fun _ _ _ h => h) (Or.inr ⟨by rfl, rfl⟩) (by assumption) ?_
            try simp only [Act.put, List.setIfInBounds_toArray, List.set_cons_zero, List.set_cons_succ]
            refine wpAnyH_take (i := 13) (oi := ({ dst := some 119, op := Op.indexAddr 23 (Operand.tmp 118) (Operand.const (Value.int IntKind.i64 0)), type := 0, pos := "law.go:188", after := #[{ on := 12, ground := Ground.data }, { on := 11, ground := Ground.guard }], guard := some (11, false) } : Oper)) (v := undef) rfl (by kernel_rfl) (by kernel_rfl) (by kernel_rfl) (fun _ _ _ h => h) (Or.inr ⟨by rfl, rfl⟩) (by assumption) ?_
            try simp only [Act.put, List.setIfInBounds_toArray, List.set_cons_zero, List.set_cons_succ]
            refine wpAnyH_take (i := 14) (oi := ({ dst := some 120, op := Op.load 36 (Operand.tmp 119), type := 36, pos := "law.go:188", after := #[{ on := 13, ground := Ground.data }, { on := 11, ground := Ground.guard }], guard := some (11, false) } : Oper)) (v := undef) rfl (by kernel_rfl) (by kernel_rfl) (by kernel_rfl) (fun _ _ _ h => h) (Or.inr ⟨by rfl, rfl⟩) (by assumption) ?_
            try simp only [Act.put, List.setIfInBounds_toArray, List.set_cons_zero, List.set_cons_succ]
            refine wpAnyH_take (i := 15) (oi := ({ dst := some 121, op := Op.move (Operand.tmp 9), type := 23, pos := "law.go:188", after := #[{ on := 11, ground := Ground.guard }], guard := some (11, false) } : Oper)) (v := undef) rfl (by kernel_rfl) (by kernel_rfl) (by kernel_rfl) (fun _ _ _ h => h) (Or.inr ⟨by rfl, rfl⟩) (by assumption) ?_
            try simp only [Act.put, List.setIfInBounds_toArray, List.set_cons_zero, List.set_cons_succ]
            refine wpAnyH_take (i := 16) (oi := ({ dst := some 122, op := Op.move (Operand.tmp 11), type := 3, pos := "law.go:188", after := #[{ on := 11, ground := Ground.guard }], guard := some (11, false) } : Oper)) (v := undef) rfl (by kernel_rfl) (by kernel_rfl) (by kernel_rfl) (fun _ _ _ h => h) (Or.inr ⟨by rfl, rfl⟩) (by assumption) ?_
            try simp only [Act.put, List.setIfInBounds_toArray, List.set_cons_zero, List.set_cons_succ]
            refine wpAnyH_take (i := 17) (oi := ({ dst := some 123, op := Op.indexAddr 23 (Operand.tmp 121) (Operand.tmp 122), type := 0, pos := "law.go:188", after := #[{ on := 15, ground := Ground.data }, { on := 16, ground := Ground.data }, { on := 11, ground := Ground.guard }], guard := some (11, false) } : Oper)) (v := undef) rfl (by kernel_rfl) (by kernel_rfl) (by kernel_rfl) (fun _ _ _ h => h) (Or.inr ⟨by rfl, rfl⟩) (by assumption) ?_
            try simp only [Act.put, List.setIfInBounds_toArray, List.set_cons_zero, List.set_cons_succ]
            refine wpAnyH_take (i := 18) (oi := ({ dst := some 124, op := Op.load 36 (Operand.tmp 123), type := 36, pos := "law.go:188", after := #[{ on := 17, ground := Ground.data }, { on := 11, ground := Ground.guard }], guard := some (11, false) } : Oper)) (v := undef) rfl (by kernel_rfl) (by kernel_rfl) (by kernel_rfl) (fun _ _ _ h => h) (Or.inr ⟨by rfl, rfl⟩) (by assumption) ?_
            try simp only [Act.put, List.setIfInBounds_toArray, List.set_cons_zero, List.set_cons_succ]
            refine wpAnyH_take (i := 19) (oi := ({ dst := some 125, op := Op.binOp BinOp.neq 36 (Operand.tmp 120) (Operand.tmp 124) 36, type := 4, pos := "law.go:188", after := #[{ on := 14, ground := Ground.data }, { on := 18, ground := Ground.data }, { on := 11, ground := Ground.guard }], guard := some (11, false) } : Oper)) (v := undef) rfl (by kernel_rfl) (by kernel_rfl) (by kernel_rfl) (fun _ _ _ h => h) (Or.inr ⟨by rfl, rfl⟩) (by assumption) ?_
            try simp only [Act.put, List.setIfInBounds_toArray, List.set_cons_zero, List.set_cons_succ]
            refine wpAnyH_take (i := 20) (oi := ({ dst := some 126, op := Op.pick (Operand.tmp 117) (Operand.const (Value.bool true)) (Operand.tmp 125), type := 4, pos := "law.go:188", after := #[{ on := 11, ground := Ground.data }, { on := 19, ground := Ground.data }, { on := 7, ground := Ground.guard }], guard := some (7, true) } : Oper)) (v := undef) rfl (by kernel_rfl) (by kernel_rfl) (by kernel_rfl) (fun _ _ _ h => h) (Or.inr ⟨by rfl, rfl⟩) (by assumption) ?_
            try simp only [Act.put, List.setIfInBounds_toArray, List.set_cons_zero, List.set_cons_succ]
            refine wpAnyH_take (i := 21) (oi := ({ dst := some 127, op := Op.pick (Operand.tmp 113) (Operand.tmp 126) (Operand.const (Value.bool false)), type := 4, pos := "law.go:188", after := #[{ on := 7, ground := Ground.data }, { on := 20, ground := Ground.data }], guard := none } : Oper)) (v := ?_) rfl (by kernel_rfl) (by kernel_rfl) (by kernel_rfl) (fun _ _ _ h => h) (Or.inl ⟨by rfl, ?_⟩) (by assumption) ?_
            rotate_left
            · rintro w ⟨s0, s1, s2⟩; (try dsimp only); go_simp; first | done | with_reducible rfl
            try simp only [Act.put, List.setIfInBounds_toArray, List.set_cons_zero, List.set_cons_succ]
            refine wpAnyH_done (by kernel_rfl) ?_ _
            go_wp2_with fail
            go_roundw
            case rel => exact ⟨i + 1, HLT.out, by go_num, below_drewN HB.out 1⟩
            case measure => have := HLT.out; simp [intOf]; omega
        · have TZ := Lib.hid (T8.out.one.kept hb)
          have HLZ := Lib.hid (show Calls Try.prog 25 #[.pointer (some ⟨g, 0, none⟩), .int .i64 cl] wz (Ans (.bool lb) wz) from by rw [HLB.out]; exact TZ.out.live_ HC.out cl HCW.out)
          clear hb hi
          go_wp2_with fail
          refine HLZ.out.mono ?_
          rintro e w9 ⟨rfl, hb9⟩
          have hba := (Below.refl w9.heap.size w9).alloc (Nat.le_refl _) (.cells #[.int .i64 cl, .int .i64 cl] 3)
          have HCL := Lib.hid (((TZ.out.kept hb9).kept hba).close_ HC.out (some ⟨w9.heap.size, 0, none⟩) 2 2 [cl, cl] (Rd.new w9 [.int .i64 cl, .int .i64 cl] 3) (by decide))
          have HCC := Lib.hid (close_counts (c := cl) HOK.out.1)
          have HDD := Lib.hid (close_dead (c := cl) (t := T))
          generalize seGone (seIn [cl, cl]) T = cs at *
          generalize seLeft (seIn [cl, cl]) T = TL at *
          obtain ⟨cn, hcn⟩ : ∃ cn, cn = cs.length := ⟨_, rfl⟩
          obtain ⟨tl, htl⟩ : ∃ tl, tl = TL.length := ⟨_, rfl⟩
          have HCN := Lib.hid hcn
          have HTL := Lib.hid htl
          have qa : ((cn : Int) == 1) = lb := by
            rw [Bool.eq_iff_iff, HLB.out, ← HCC.out.1, ← hcn, beq_iff_eq]; omega
          have qb : ((tl : Int) == (m : Int) - 1) = lb := by
            rw [Bool.eq_iff_iff, HLB.out, ← HCC.out.2.1, ← htl, ← HMX.out, beq_iff_eq]; omega
          have qd : (lb == lb) = true := by simp
          have htm : tl ≤ 8 := by have := HCC.out.2.2; have := HMX.out; omega
          clear hb9 hba hcn htl
          go_wp2_with fail
          refine HCL.out.mono ?_
          rintro e w10 ⟨A10, c10, G10, rfl, -, -, t10, -, -⟩
          rw [← HCN.out]
          have hba := (Below.refl w10.heap.size w10).alloc (Nat.le_refl _) (.cells #[.int .i64 cl] 3)
          have HC2 := Lib.hid ((t10.kept hba).close_ HC.out (some ⟨w10.heap.size, 0, none⟩) 1 1 [cl] (Rd.new w10 [.int .i64 cl] 3) (by decide))
          have hg0 : seGone (seIn [cl]) TL = [] := gone_nil HDD.out (by simp)
          have hl0 : seLeft (seIn [cl]) TL = TL := by
            unfold seLeft
            refine List.filter_eq_self.2 fun y hy => ?_
            have := live_no HDD.out y hy
            unfold seIn
            simpa using this
          rw [hg0, hl0] at HC2
          clear t10 hba hg0 hl0 HCL
          go_wp2_with fail
          refine HC2.out.mono ?_
          rintro e w11 ⟨A11, c11, G11, rfl, -, -, t11, -, -⟩
          have T11 := Lib.hid t11
          have HLX := Lib.hid (show Calls Try.prog 25 #[.pointer (some ⟨g, 0, none⟩), .int .i64 cl] w11 (Ans (.bool false) w11) from by
            have q := t11.live_ HC.out cl HCW.out
            rwa [HDD.out] at q)
          clear t11 HC2
          go_wp2_with fail
          refine HLX.out.mono ?_
          rintro e w12 ⟨rfl, hb12⟩
          have T12 := Lib.hid (T11.out.kept hb12)
          have HAZ := Lib.hid (T12.out.all_ HC.out)
          clear hb12 HLX
          go_wp2_with fail
          refine HAZ.out.mono ?_
          rintro e w13 ⟨A13, c13, rfl, -, hb13⟩
          rw [← HTL.out]
          have HBZ := Lib.hid (T12.out.be.trans (hb13.mono T12.out.be.size))
          clear hb13 HAZ
          go_wp2_with fail
          go_ret
          exact ⟨rfl, HBZ.out⟩
end Go.Proofs.Ytfbdmemjojjgnaa
