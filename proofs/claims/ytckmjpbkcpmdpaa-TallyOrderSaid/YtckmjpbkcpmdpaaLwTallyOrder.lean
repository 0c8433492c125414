/-
  TallyOrder: the law's walk. No statement.
-/
import Derived.Test.YtckmjpbkcpmdpaaTallyOps1
import Derived.Deep.RegionHeld3
import Derived.Deep.CutRange
import Derived.Deep.WholeRow
namespace Go.Proofs.Ytckmjpbkcpmdpaa
open Go.RowKit Go.Sort Go.Shelf
set_option linter.unusedVariables false
set_option maxRecDepth 100000

/-- which voters have been seen -/
def seenC (l : List Vc) : List Value := (List.range 64).map fun (i : Nat) => .int .i64 (if l.any (fun x => decide (x.v.voter = (i : Int))) = true then 1 else 0)
theorem seenC_nil : seenC [] = List.replicate 64 (.int .i64 0) := rfl
theorem seenC_at (l : List Vc) {i : Nat} (hi : i < 64) : (seenC l)[i]? = some (.int .i64 (if l.any (fun x => decide (x.v.voter = (i : Int))) = true then 1 else 0)) := by
  unfold seenC
  rw [List.getElem?_map, List.getElem?_range hi]
  rfl
theorem seenC_set (l : List Vc) (x : Vc) {i : Nat} (hi : i < 64) (hx : x.v.voter = (i : Int)) : (seenC l).set i (.int .i64 1) = seenC (l ++ [x]) := by
  refine List.ext_getElem? fun j => ?_
  have hlen : (seenC l).length = 64 := by simp [seenC]
  rw [List.getElem?_set]
  by_cases hj : j < 64
  · rw [seenC_at _ hj, seenC_at _ hj]
    by_cases e : i = j
    · subst e
      rw [if_pos rfl, if_pos (by omega)]
      simp [hx]
    · rw [if_neg e]
      have : ¬ x.v.voter = (j : Int) := by omega
      simp [this]
  · rw [if_neg (by omega)]
    rw [List.getElem?_eq_none (by omega), List.getElem?_eq_none (by simp [seenC]; omega)]
theorem wpList_build_none {P : Program} {ops : Array Oper} {rest : List Oper} {o : Oper} {a : Act} {w : World} {Q : Exit → Act → World → Prop} (hg : o.guard = none) (t : TypeId) (ho : o.op = .build t #[]) (zs : Array Value)
    (hs : (P.built t []).isSome = true) (hz : (P.built t []).getD #[] = zs) (h : wpList P ops Q rest (a.put o.dst (.agg zs)) w) : wpList P ops Q (o :: rest) a w :=
  wpList_build hg t #[] ho (by simpa using hs) (by simpa [hz] using h)
theorem seen_built : (Try.prog.built 48 []).isSome = true ∧ (Try.prog.built 48 []).getD #[] = (seenC []).toArray := ⟨by kernel_rfl, by kernel_rfl⟩
theorem seen_info : (Try.prog.info? 48).map (·.size) = some (seenC []).toArray.size := by kernel_rfl
theorem seen_one : (seenC []).toArray.all (·.oneCell') = true := by kernel_rfl
set_option maxHeartbeats 12800000 in
theorem tallyOrder_walk (w : World) (n : Int) (hn0 : (Lit.int .i64 n).wf = true) (v : Value) (ops : List Ov) (hv : InOvs w v ops) (k : Int) (hk0 : (Lit.int .i64 k).wf = true) :
    Calls Try.prog 6 #[.int .i64 n, v, .int .i64 k] w (Tr w) := by
  obtain ⟨i0, hi, hz0, hz1, hz2⟩ := info_parts info_op
  obtain ⟨A, m, c, rfl, hmc, hcm, hro, _⟩ := hv
  have hn := wf_i64 hn0
  have hk := wf_i64 hk0
  simp only [maxLen] at hcm
  have hm63 : m ≤ 9223372036854775807 := by omega
  have HR := Lib.hid hro
  have HAL := Lib.hid (alive_votes w)
  clear hro hn0 hk0 hmc hcm
  go_enter Try.func6, Try.ntmps6
  go_wp2_with fail
  refine HAL.out.mono ?_
  rintro e w1 ⟨rfl, hb1⟩
  have HB1 := Lib.hid hb1
  have HG := Lib.hid (great_votes A m c ops w1 (HR.out.below hb1) hm63)
  clear hb1
  go_wp2_with fail
  refine HG.out.mono ?_
  rintro e w2 ⟨b, q2, rfl, hsz, rfl⟩
  have HB2 := Lib.hid (below_drewN HB1.out q2)
  cases b with
  | true =>
    clear hsz
    go_wp2_with fail
    go_ret
    exact ⟨rfl, HB2.out⟩
  | false =>
    have HSZ := Lib.hid (hsz rfl)
    clear hsz
    have HNW := Lib.hid (new_tally n (w1.drewN q2) hn)
    have hm200 : m ≤ 200 := by have := HSZ.out.2; have := HR.out.1; omega
    go_wp2_with fail
    refine HNW.out.mono ?_
    rintro e w3 hmd
    obtain ⟨g, F, rfl, hon, _, _⟩ := MadeT.on HB2.out HB2.out.size hmd
    have HON := Lib.hid hon
    have HN2 := Lib.hid (new_tally n w3 hn)
    clear hmd hon HNW HG HAL
    go_wp2_with fail
    refine HN2.out.mono ?_
    rintro e w4 hmd2
    obtain ⟨g2, F2, rfl, hon2, hF2, hb4⟩ := MadeT.on HON.out.be HON.out.sz hmd2
    generalize tyVoters n = N at *
    have HT := Lib.hid (show T2 w w4 F F2 g g2 N [] [] from ⟨HON.out.kept hb4, hon2, fun i hi hg => by have := HON.out.lt i hi; have := hF2 i hg; omega⟩)
    have HS4 := Lib.hid (show w.heap.size ≤ w4.heap.size from Nat.le_trans HON.out.sz hb4.size)
    clear hmd2 hon2 hF2 hb4 HON HN2
    have h64 : (seenC []).toArray.size = 64 := rfl
    have hz1' := seen_built.1
    have hz2' := seen_built.2
    have hz3' := seen_info
    have hz4' := seen_one
    generalize hzs : (seenC []).toArray = zs at *
    go_upto_region 9 with fail
    refine wp_region_lit ?_
    refine wpList_build_none rfl 48 rfl zs hz1' hz2' ?_
    go_upto_region 10 with (first
      | (refine wpList_store_row rfl 48 (.tmp 9) (.tmp 42) rfl w4.heap.size zs rfl rfl 48 _ (heap_alloc_last w4 _) hz3' (by rw [h64]; rfl) hz4' ?_
         rw [World.setRow_alloc_new]))
    simp only [Act.put]
    obtain ⟨gs, hgs⟩ : ∃ gs, gs = w4.heap.size := ⟨_, rfl⟩
    have hLT : (∀ i, F i → i < gs) ∧ (∀ i, F2 i → i < gs) ∧ w.heap.size ≤ gs := ⟨fun i hi => by rw [hgs]; exact HT.out.on1.lt i hi, fun i hi => by rw [hgs]; exact HT.out.on2.lt i hi, by rw [hgs]; exact HS4.out⟩
    have HLT := Lib.hid hLT
    have hb5 := ((Below.refl w4.heap.size w4).alloc (Nat.le_refl _) (.cells zs 48)).alloc (by simp) (.cells #[] 33)
    have HT5 := Lib.hid (HT.out.kept hb5)
    have hbk : Bk (w4.alloc (.cells zs 48)) w4.heap.size 48 (seenC []) := by rw [← hzs]; exact Bk.new w4 48 (seenC [])
    have HSE := Lib.hid (hbk.alloc (.cells #[] 33))
    have HO5 := Lib.hid (show OwnO ((w4.alloc (.cells zs 48)).alloc (.cells #[] 33)) (w4.heap.size + 1) (some ⟨w4.heap.size + 1, 0, none⟩) 0 0 [] by simpa using OwnO.empty (w4.alloc (.cells zs 48)))
    clear hLT hb5 hbk hzs hz1' hz2' hz3' hz4' h64
    rw [← hgs] at HSE HO5
    go_wp2_with fail
    rw [← hgs]
    go_loopw [10, 11, 12] (fun s i _ wr => ∃ (j : Nat) (l : List Vc) (A' : Option Addr) (n' c' : Nat), j ≤ m ∧ n' ≤ j ∧ i = .int .i64 j ∧ s = .slice A' n' c' ∧ OwnO wr (gs + 1) A' n' c' l ∧ Bk wr gs 48 (seenC l) ∧ T2 w wr F F2 g g2 N [] [] ∧ (l.Pairwise fun a b => a.v.voter ≠ b.v.voter) ∧ (∀ x ∈ l, VcOk w x)) (fun _ i _ _ => m - (intOf i).toNat)
    case atStart => exact ⟨0, [], some ⟨gs + 1, 0, none⟩, 0, 0, by omega, by omega, rfl, rfl, HO5.out, HSE.out, HT5.out, List.Pairwise.nil, fun x hx => by cases hx⟩
    case round =>
      clear HO5 HSE HT5 hgs HS4
      obtain ⟨j, l, A', n', c', hj, hnj, rfl, rfl, ho, hse, ht, hpw, hok⟩ := hrel
      by_cases hlt : j < m
      · have hjx : j < ops.length := by have := HR.out.1; omega
        have hx : ops[j]? = some ops[j] := List.getElem?_eq_getElem hjx
        obtain ⟨x, B, p, pc, C, q, qc, rfl, hf, hoo⟩ := HR.out.at_ hx
        have hkl := ovW_mem (List.getElem_mem hjx)
        have HW := Lib.hid (show ops[j].key.length ≤ 4000 ∧ ops[j].load.length ≤ 4000 by have := HSZ.out.1; omega)
        generalize ops[j] = o at *
        have HF4 := Lib.hid hf
        have HOK := Lib.hid hoo
        have hfr := hf.below ht.on1.be
        obtain ⟨c0, c1, c2, c3, _, _⟩ := hfr
        have hxl := cell_lt c0
        have HO := Lib.hid ho
        have HSE := Lib.hid hse
        have HT := Lib.hid ht
        have HPW := Lib.hid hpw
        have HVO := Lib.hid hok
        have HLJ := Lib.hid (And.intro hlt hnj)
        have y1 : (0 : Int) ≤ (j : Int) := by omega
        have y2 : (j : Int) < (m : Int) := by omega
        have w1' : IntKind.i64.wrap ((j : Int) + 1) = (j : Int) + 1 := by simp only [IntKind.wrap, IntKind.bits, IntKind.signed]; simp; omega
        clear hf hoo hkl hx hjx ho hse ht hpw hok hj hnj
        by_cases hv0 : o.voter < 0
        · have v1 : ¬ (0 : Int) ≤ o.voter := by omega
          clear hlt
          go_wp2_with fail
          go_roundw
          case rel => exact ⟨j + 1, l, A', n', c', by have := HLJ.out; omega, by have := HLJ.out; omega, by go_num, rfl, HO.out, HSE.out, HT.out, HPW.out, HVO.out⟩
          case measure => have := HLJ.out; simp [intOf]; omega
        by_cases hv1 : 64 ≤ o.voter
        · have v1 : (0 : Int) ≤ o.voter := by omega
          have v2 : ¬ o.voter < 64 := by omega
          clear hlt
          go_wp2_with fail
          go_roundw
          case rel => exact ⟨j + 1, l, A', n', c', by have := HLJ.out; omega, by have := HLJ.out; omega, by go_num, rfl, HO.out, HSE.out, HT.out, HPW.out, HVO.out⟩
          case measure => have := HLJ.out; simp [intOf]; omega
        obtain ⟨kk, hkk⟩ : ∃ kk : Nat, o.voter = (kk : Int) := ⟨o.voter.toNat, by omega⟩
        have hk64 : kk < 64 := by omega
        have HVK := Lib.hid hkk
        have HK64 := Lib.hid hk64
        have s0 := HSE.out.at_ (seenC_at l hk64)
        have v1 : (0 : Int) ≤ (kk : Int) := by omega
        have v2 : (kk : Int) < 64 := by omega
        rw [hkk] at c0
        clear hv0 hv1 hlt hkk
        by_cases hany : l.any (fun x => decide (x.v.voter = (kk : Int))) = true
        · rw [if_pos hany] at s0
          clear hany
          go_wp2_with fail
          go_roundw
          case rel => exact ⟨j + 1, l, A', n', c', by have := HLJ.out; omega, by have := HLJ.out; omega, by go_num, rfl, HO.out, HSE.out, HT.out, HPW.out, HVO.out⟩
          case measure => have := HLJ.out; simp [intOf]; omega
        · rw [if_neg hany] at s0
          have sf := HSE.out.frozen kk
          have HNV := Lib.hid (show ∀ x ∈ l, x.v.voter ≠ o.vo.voter from fun x hx e => hany (List.any_eq_true.2 ⟨x, hx, by rw [e, show o.vo.voter = o.voter from rfl, HVK.out]; simp⟩))
          have ch := (Chg.refl (fun i => i = gs) wr).set (g := gs) (.inl rfl) kk (.int .i64 1)
          have HT6 := Lib.hid (HT.out.chg ch (fun i e => by have e' : i = gs := e; have h1 := HLT.out; exact ⟨by omega, fun q => by have := h1.1 i q; omega, fun q => by have := h1.2.1 i q; omega⟩))
          have HO6 := Lib.hid (HO.out.chg ch (fun i hi e => by have e' : i = gs := e; have := (HO.out.block i hi).1; omega))
          have HSE6 := Lib.hid (show Bk _ gs 48 (seenC (l ++ [o.vc B p pc C q qc])) by
            rw [← seenC_set l (o.vc B p pc C q qc) HK64.out HVK.out]
            exact HSE.out.set kk (.int .i64 1))
          have hfr := HF4.out.below HT6.out.on1.be
          obtain ⟨d0, d1, d2, d3, _, _⟩ := hfr
          rw [HVK.out] at d0
          have HNN := Lib.hid (show n' ≤ 200 by have := HLJ.out; omega)
          clear hany ch
          go_wp2_with (at_builtin
                       refine wpList_append_own_at _ rfl _ _ 22 rfl (gs + 1) 33 i0 _ 4 64 Try.underlying22 hi hz0 hz1 hz2 rfl (by omega) (.slice A' n' c') n' (vcc l) rfl (HO6.out.alloc _)
                         ⟨wr.heap.size, 0, none⟩ 1 1 [.int .i64 (kk : Int), .int .i64 o.rank, .slice B p pc, .slice C q qc] rfl rfl (by simpa using four_cells (World.setCell wr ⟨gs, kk, none⟩ (.int .i64 1)) (.int .i64 (kk : Int)) (.int .i64 o.rank) (.slice B p pc) (.slice C q qc) 33) (by simp [Value.oneCell']) (by have := HNN.out; simp only [maxLen]; omega) (by have := HNN.out; omega) (by have := HSE.out.lt; simp; omega) ?_
                       intro v9 w9 hown9 hg9 hnil9 hrow9
                       obtain ⟨A9, c9, rfl⟩ : ∃ A9 c9, v9 = .slice A9 (n' + 1) c9 := by
                         rcases hown9.2 with ⟨_, e⟩ | ⟨g, cap, cur, e, _⟩
                         · omega
                         · exact ⟨_, _, e⟩
                       have hga := (Below.refl (World.setCell wr ⟨gs, kk, none⟩ (.int .i64 1)).heap.size (World.setCell wr ⟨gs, kk, none⟩ (.int .i64 1))).alloc (Nat.le_refl _) (.cells #[.int .i64 (kk : Int), .int .i64 o.rank, .slice B p pc, .slice C q qc] 33)
                       have hT9 := HT6.out.kept hga
                       have hcg := (Chg.refl (fun i => (Value.slice A' n' c').ownBlock = some i) _).grown hg9 (fun g e => .inl e)
                       have HT9 := Lib.hid (hT9.chg hcg (fun i e => by have h0 := (HO.out.block i e).1; have h1 := HLT.out; exact ⟨by omega, fun q => by have := h1.1 i q; omega, fun q => by have := h1.2.1 i q; omega⟩))
                       have HSE9 := Lib.hid ((HSE6.out.kept hga).grown hg9 (fun hg => by have := (HO.out.block _ hg.symm).1; omega))
                       have HO9 := Lib.hid (show OwnO w9 (gs + 1) A9 (n' + 1) c9 (l ++ [o.vc B p pc C q qc]) by
                         unfold OwnO
                         rw [vcc_append]
                         have e : vcc [o.vc B p pc C q qc] = [.int .i64 (kk : Int), .int .i64 o.rank, .slice B p pc, .slice C q qc] := by rw [← HVK.out]; rfl
                         rw [e]; exact hown9)
                       clear hown9 hg9 hnil9 hrow9 hga hT9 hcg)
          go_roundw
          case rel =>
            refine ⟨j + 1, l ++ [o.vc B p pc C q qc], A9, n' + 1, c9, by have := HLJ.out; omega, by have := HLJ.out; omega, by go_num, rfl, HO9.out, HSE9.out, HT9.out, ?_, ?_⟩
            · refine List.pairwise_append.2 ⟨HPW.out, List.pairwise_singleton _ _, fun a ha b hb => ?_⟩
              obtain rfl := List.mem_singleton.1 hb
              exact HNV.out a ha
            · intro y hy
              rcases List.mem_append.1 hy with hy | hy
              · exact HVO.out y hy
              · obtain rfl := List.mem_singleton.1 hy
                exact ⟨⟨HF4.out.kB.rd, HF4.out.kC.rd⟩, HW.out.1, HW.out.2, HOK.out.2.1.2⟩
          case measure => have := HLJ.out; simp [intOf]; omega
      · have hlm : l.length = n' := ho.len
        have HO := Lib.hid ho
        have HT := Lib.hid ht
        have HPW := Lib.hid hpw
        have HVO := Lib.hid hok
        have HLM := Lib.hid hlm
        have hn200 : n' ≤ 200 := by omega
        have HOX := Lib.hid (show ∀ i, (Value.slice A' n' c').ownBlock = some i → ¬ F i ∧ ¬ F2 i from fun i hi => by have h1 := HLT.out; have h2 := (ho.block i hi).1; exact ⟨fun q => by have := h1.1 i q; omega, fun q => by have := h1.2.1 i q; omega⟩)
        clear ho hse ht hpw hok hnj hlm
        go_wp2_with fail
        go_loopw [13, 14, 15] (fun i _ _ wx => ∃ (jj : Nat) (Fa Fb : Nat → Prop), jj ≤ n' ∧ i = .int .i64 jj ∧ T2 w wx Fa Fb g g2 N (tyRun N [] ((l.map (·.v)).take jj)) (tyRun N [] ((l.map (·.v)).reverse.take jj)) ∧ OwnO wx (gs + 1) A' n' c' l ∧ (∀ i, (Value.slice A' n' c').ownBlock = some i → ¬ Fa i ∧ ¬ Fb i)) (fun i _ _ _ => n' - (intOf i).toNat)
        case atStart => exact ⟨0, F, F2, by omega, rfl, HT.out, HO.out, HOX.out⟩
        case round =>
          clear HO HT HOX
          obtain ⟨jj, Fa, Fb, hjj, rfl, ht, ho, hox⟩ := hrel
          by_cases hlt2 : jj < n'
          · obtain ⟨qq, hqq⟩ : ∃ qq, qq = n' - 1 - jj := ⟨_, rfl⟩
            have hxl : jj < l.length := by have := HLM.out; omega
            have hyl : qq < l.length := by have := HLM.out; omega
            have hx : l[jj]? = some l[jj] := List.getElem?_eq_getElem hxl
            have hy : l[qq]? = some l[qq] := List.getElem?_eq_getElem hyl
            have HVx := Lib.hid (HVO.out _ (List.getElem_mem hxl))
            have HVy := Lib.hid (HVO.out _ (List.getElem_mem hyl))
            generalize l[jj] = x at *
            have HLx := Lib.hid (show x.v.key.length ≤ 4000 ∧ x.v.load.length ≤ 4000 ∧ x.v.rank ≤ 9223372036854775807 from HVx.out.2)
            generalize l[qq] = y at *
            have HLy := Lib.hid (show y.v.key.length ≤ 4000 ∧ y.v.load.length ≤ 4000 ∧ y.v.rank ≤ 9223372036854775807 from HVy.out.2)
            have HNX := Lib.hid (show tyRun N [] ((l.map (·.v)).take (jj + 1)) = tyAfter N (tyRun N [] ((l.map (·.v)).take jj)) x.v from tyRun_take (by rw [List.getElem?_map, hx]; rfl))
            have HNY := Lib.hid (show tyRun N [] ((l.map (·.v)).reverse.take (jj + 1)) = tyAfter N (tyRun N [] ((l.map (·.v)).reverse.take jj)) y.v from tyRun_take (by
              rw [List.getElem?_reverse (by rw [List.length_map]; exact hxl), List.length_map, show l.length - 1 - jj = qq by have := HLM.out; omega, List.getElem?_map, hy]; rfl))
            obtain ⟨gl, rfl, hgl, c0, c1, c2, c3⟩ := ho.at_ hx
            have y1 : (0 : Int) ≤ (jj : Int) := by omega
            have y2 : (jj : Int) < (n' : Int) := by omega
            have y3 : (0 : Int) ≤ (qq : Int) := by omega
            have y4 : (qq : Int) < (n' : Int) := by omega
            obtain ⟨n1, hn1⟩ : ∃ n1 : Nat, n1 + 1 = n' := ⟨n' - 1, by omega⟩
            have w1' : IntKind.i64.wrap ((jj : Int) + 1) = (jj : Int) + 1 := by simp only [IntKind.wrap, IntKind.bits, IntKind.signed]; simp; omega
            have w2' : IntKind.i64.wrap ((n' : Int) - 1) = (n1 : Int) := by simp only [IntKind.wrap, IntKind.bits, IntKind.signed]; simp; omega
            have w3' : IntKind.i64.wrap ((n1 : Int) - (jj : Int)) = (qq : Int) := by simp only [IntKind.wrap, IntKind.bits, IntKind.signed]; simp; omega
            have ha1 := (Below.refl wr.heap.size wr).alloc (Nat.le_refl _) (.cells #[.int .i64 x.v.voter, .int .i64 x.v.rank, .slice x.ka x.kn x.kc, .slice x.la x.ln x.lc] 33)
            obtain ⟨d0, d1, d2, d3⟩ := (ho.below ha1).at2 hy
            have hb2 := ha1.alloc (by simp) (.cells #[.int .i64 y.v.voter, .int .i64 y.v.rank, .slice y.ka y.kn y.kc, .slice y.la y.ln y.lc] 33)
            have HT23 := Lib.hid (ht.kept hb2)
            have HO23 := Lib.hid (ho.below hb2)
            have HX23 := Lib.hid hox
            have kx := (Bk.new wr 33 [.int .i64 x.v.voter, .int .i64 x.v.rank, .slice x.ka x.kn x.kc, .slice x.la x.ln x.lc]).alloc (.cells #[.int .i64 y.v.voter, .int .i64 y.v.rank, .slice y.ka y.kn y.kc, .slice y.la y.ln y.lc] 33)
            have HKX := Lib.hid kx
            have HKY := Lib.hid (bk_new2 wr (.cells #[.int .i64 x.v.voter, .int .i64 x.v.rank, .slice x.ka x.kn x.kc, .slice x.la x.ln x.lc] 33) [.int .i64 y.v.voter, .int .i64 y.v.rank, .slice y.ka y.kn y.kc, .slice y.la y.ln y.lc] 33)
            have HNF := Lib.hid (show ¬ Fa (wr.heap.size + 1) ∧ ¬ Fb (wr.heap.size + 1) from ⟨fun q => by have := ht.on1.lt _ q; omega, fun q => by have := ht.on2.lt _ q; omega⟩)
            have HNB23 := Lib.hid (show ¬ Fa wr.heap.size from fun q => by have := ht.on1.lt _ q; omega)
            have HRK23 := Lib.hid (HVx.out.1.1.below HT23.out.on1.be)
            have HRL23 := Lib.hid (HVx.out.1.2.below HT23.out.on1.be)
            have HLJ2 := Lib.hid hlt2
            have HSZ2 := Lib.hid (show wr.heap.size + 1 < ((wr.alloc (.cells #[.int .i64 x.v.voter, .int .i64 x.v.rank, .slice x.ka x.kn x.kc, .slice x.la x.ln x.lc] 33)).alloc (.cells #[.int .i64 y.v.voter, .int .i64 y.v.rank, .slice y.ka y.kn y.kc, .slice y.la y.ln y.lc] 33)).heap.size by simp)
            clear ht ho hox ha1 hb2 kx hx hy hxl hyl hqq hlt2 hn1
            go_upto_region 23 with fail
            obtain ⟨W5, hW5⟩ : ∃ W5, W5 = ((wr.alloc (.cells #[.int .i64 x.v.voter, .int .i64 x.v.rank, .slice x.ka x.kn x.kc, .slice x.la x.ln x.lc] 33)).alloc (.cells #[.int .i64 y.v.voter, .int .i64 y.v.rank, .slice y.ka y.kn y.kc, .slice y.la y.ln y.lc] 33)) := ⟨_, rfl⟩
            rw [← hW5] at HT23 HO23 HKX HKY HRK23 HRL23 HSZ2 ⊢
            have kb := HKX.out
            have hw := Below.refl W5.heap.size W5
            clear hW5 c0 c1 c2 c3 d0 d1 d2 d3
            go_region_held3 (fun w' => w'.cell? ⟨wr.heap.size, 0, none⟩ = some (.int .i64 x.v.voter) ∧ w'.cell? ⟨wr.heap.size, 1, none⟩ = some (.int .i64 x.v.rank) ∧ w'.cell? ⟨wr.heap.size, 2, none⟩ = some (.slice x.ka x.kn x.kc) ∧ w'.cell? ⟨wr.heap.size, 3, none⟩ = some (.slice x.la x.ln x.lc)) (first | with_reducible exact (bk_drew kb).four | with_reducible exact kb.four | go_keep)
              (first
              | (go_at_call 16; with_reducible refine (copy_in HRK23.out HLx.out.1 ?_).mono ?_
                 focus first | with_reducible exact hw | with_reducible exact below_drew hw
                 rintro e w23a ⟨A23a, n23a, c23a, rfl, hoa, hw', hx⟩
                 first | replace kb := kb.kept hx | replace kb := bk_keptD kb hx
                 replace hw := hw'
                 clear hw' hx)
              | (go_at_call 16; with_reducible refine (copy_in HRL23.out HLx.out.2.1 ?_).mono ?_
                 focus first | with_reducible exact hw | with_reducible exact below_drew hw
                 rintro e w23b ⟨A23b, n23b, c23b, rfl, hob, hw', hx⟩
                 first | replace kb := kb.kept hx | replace kb := bk_keptD kb hx
                 first | replace hoa := hoa.below hx | replace hoa := ownB_belowD hoa hx
                 replace hw := hw'
                 clear hw' hx)
              | (go_at_call 15; with_reducible refine (put_vc HT23.out.on1 x HLx.out ?_ ?_ ?_).mono ?_
                 focus with_reducible exact hw
                 focus with_reducible exact hoa
                 focus with_reducible exact hob
                 rintro e w23c ⟨rfl, Fa2, honc, hFc, hcc⟩
                 have HT23c := Lib.hid (HT23.out.put1 hw honc hFc hcc)
                 have HO23c := Lib.hid ((HO23.out.below hw).chg hcc (fun i hi hf => (HX23.out i hi).1 hf))
                 have HF23c := Lib.hid hFc
                 have HC23c := Lib.hid (show ∀ gg t cs, Bk _ gg t cs → ¬ _ → Bk w23c gg t cs from fun gg t cs hk hn => hcc.bk (hk.kept hw) hn)
                 replace kb := hcc.bk kb (fun hf => HNB23.out hf)
                 clear hw hoa hob honc hFc hcc))
            have HT24 := HT23c
            have HO24 := HO23c
            have HX24 := Lib.hid (show ∀ i, (Value.slice (some ⟨gl, 0, none⟩) n' c').ownBlock = some i → ¬ Fa2 i ∧ ¬ Fb i from fun i hi => ⟨fun q => (HF23c.out i q).elim (HX23.out i hi).1 (fun q2 => by have := (HO23.out.block i hi).2; omega), (HX23.out i hi).2⟩)
            have HKY2 := Lib.hid (HC23c.out _ _ _ HKY.out HNF.out.1)
            have HNB24 := Lib.hid HNF.out.2
            clear kb
            have HRK24 := Lib.hid (HVy.out.1.1.below HT24.out.on1.be)
            have HRL24 := Lib.hid (HVy.out.1.2.below HT24.out.on1.be)
            have kb := HKY2.out
            have hw := Below.refl w23c.heap.size w23c
            clear HT23c HO23c HT23 HO23 HX23 HF23c HC23c HKX HKY HRK23 HRL23
            go_upto_region 24 with fail
            go_region_held3 (fun w' => w'.cell? ⟨wr.heap.size + 1, 0, none⟩ = some (.int .i64 y.v.voter) ∧ w'.cell? ⟨wr.heap.size + 1, 1, none⟩ = some (.int .i64 y.v.rank) ∧ w'.cell? ⟨wr.heap.size + 1, 2, none⟩ = some (.slice y.ka y.kn y.kc) ∧ w'.cell? ⟨wr.heap.size + 1, 3, none⟩ = some (.slice y.la y.ln y.lc)) (first | with_reducible exact (bk_drew kb).four | with_reducible exact kb.four | go_keep)
              (first
              | (go_at_call 16; with_reducible refine (copy_in HRK24.out HLy.out.1 ?_).mono ?_
                 focus first | with_reducible exact hw | with_reducible exact below_drew hw
                 rintro e w24a ⟨A24a, n24a, c24a, rfl, hoa, hw', hx⟩
                 first | replace kb := kb.kept hx | replace kb := bk_keptD kb hx
                 replace hw := hw'
                 clear hw' hx)
              | (go_at_call 16; with_reducible refine (copy_in HRL24.out HLy.out.2.1 ?_).mono ?_
                 focus first | with_reducible exact hw | with_reducible exact below_drew hw
                 rintro e w24b ⟨A24b, n24b, c24b, rfl, hob, hw', hx⟩
                 first | replace kb := kb.kept hx | replace kb := bk_keptD kb hx
                 first | replace hoa := hoa.below hx | replace hoa := ownB_belowD hoa hx
                 replace hw := hw'
                 clear hw' hx)
              | (go_at_call 15; with_reducible refine (put_vc HT24.out.on2 y HLy.out ?_ ?_ ?_).mono ?_
                 focus with_reducible exact hw
                 focus with_reducible exact hoa
                 focus with_reducible exact hob
                 rintro e w24c ⟨rfl, Fb2, honc, hFc, hcc⟩
                 have HT24c := Lib.hid (HT24.out.put2 hw honc hFc hcc)
                 have HO24c := Lib.hid ((HO24.out.below hw).chg hcc (fun i hi hf => (HX24.out i hi).2 hf))
                 have HF24c := Lib.hid hFc
                 have HC24c := Lib.hid (show ∀ gg t cs, Bk _ gg t cs → ¬ _ → Bk w24c gg t cs from fun gg t cs hk hn => hcc.bk (hk.kept hw) hn)
                 replace kb := hcc.bk kb (fun hf => HNB24.out hf)
                 clear hw hoa hob honc hFc hcc))
            clear kb
            have HX25 := Lib.hid (show ∀ i, (Value.slice (some ⟨gl, 0, none⟩) n' c').ownBlock = some i → ¬ Fa2 i ∧ ¬ Fb2 i from fun i hi => ⟨(HX24.out i hi).1, fun q => (HF24c.out i q).elim (HX24.out i hi).2 (fun q2 => by have := (HO24.out.block i hi).2; omega)⟩)
            go_wp2_with fail
            go_roundw
            case rel => exact ⟨jj + 1, Fa2, Fb2, HLJ2.out, by go_num, by rw [HNX.out, HNY.out]; exact HT24c.out, HO24c.out, HX25.out⟩
            case measure => have := HLJ2.out; simp [intOf]; omega
          · have hje : jj = n' := by omega
            have hl2 : (l.map (·.v)).length ≤ jj := by rw [List.length_map]; have := HLM.out; omega
            have hl3 : (l.map (·.v)).reverse.length ≤ jj := by rw [List.length_reverse]; exact hl2
            rw [List.take_of_length_le hl2, List.take_of_length_le hl3] at ht
            rw [← run_either (List.pairwise_map.2 HPW.out) ht.on1.good.srt ht.on2.good.srt] at ht
            generalize tyRun N [] (l.map (·.v)) = vs at *
            have HT := Lib.hid ht
            have HAG := Lib.hid (agree_any k Fa g N vs wr ht.on1.tl hk)
            clear ht ho hox hl2 hl3 HPW HVO
            go_wp2_with fail
            refine HAG.out.mono ?_
            rintro e w12 ⟨A12, n12, c12, B12, m12, q12, rfl, hk12, hi12, hb12⟩
            have HT12 := Lib.hid (HT.out.kept hb12)
            have HK12 := Lib.hid hk12
            have HI12 := Lib.hid hi12
            have HAR := Lib.hid (agree_any k Fb g2 N vs w12 HT12.out.on2.tl hk)
            clear hk12 hi12 hb12 HAG HT
            go_wp2_with fail
            refine HAR.out.mono ?_
            rintro e w13 ⟨A13, n13, c13, B13, m13, q13, rfl, hk13, hi13, hb13⟩
            have HT13 := Lib.hid (HT12.out.kept hb13)
            have HK12b := Lib.hid (HK12.out.below hb13)
            have HI12b := Lib.hid (HI12.out.below hb13)
            have HK13 := Lib.hid hk13
            have HI13 := Lib.hid hi13
            have HRE := Lib.hid (reach_any k Fa g N vs w13 HT13.out.on1.tl hk)
            clear hk13 hi13 hb13 HAR HT12 HK12 HI12
            generalize ((tyAgree vs k).getD default).rank = ar at *
            generalize (tyAgree vs k).isSome = ab at *
            go_wp2_with fail
            refine HRE.out.mono ?_
            rintro e w14 ⟨rfl, hb14⟩
            have HT14 := Lib.hid (HT13.out.kept hb14)
            have HBB14 := Lib.hid hb14
            have HRR := Lib.hid (reach_any k Fb g2 N vs w14 HT14.out.on2.tl hk)
            clear hb14 HRE HT13
            go_wp2_with fail
            refine HRR.out.mono ?_
            rintro e w15 ⟨rfl, hb15⟩
            have HT15 := Lib.hid (HT14.out.kept hb15)
            have HBB15 := Lib.hid (HBB14.out.trans (hb15.mono HBB14.out.size))
            have HS1 := Lib.hid (sameBytes_self A12 A13 n12 n13 c12 c13 w15 _ (HK12b.out.below HBB15.out).rd (HK13.out.below HBB15.out).rd (by have h1 := (own_cap HK12b.out).1; have h2 := (own_cap HK12b.out).2; omega))
            clear hb15 HRR HT14
            generalize (tyReach vs k).getD 0 = er at *
            generalize (tyReach vs k).isSome = eb at *
            have z1 : (ar == ar) = true := by simp
            have z2 : (er == er) = true := by simp
            have z4 : (ab == ab) = true := by simp
            have z5 : (eb == eb) = true := by simp
            go_wp2_with fail
            refine HS1.out.mono ?_
            rintro e w16 ⟨rfl, q16, hw16⟩
            have hb16 : Below w15.heap.size w15 w16 := by rw [hw16]; exact below_drewN (Below.refl _ _) q16
            have HT16 := Lib.hid (HT15.out.kept hb16)
            have HBB16 := Lib.hid (HBB15.out.trans (hb16.mono HBB15.out.size))
            have HS2 := Lib.hid (sameInts_self B12 B13 m12 m13 q12 q13 w16 _ (HI12b.out.below HBB16.out).rd (HI13.out.below HBB16.out).rd HI12b.out.cap)
            clear hw16 hb16 HS1 HT15
            go_wp2_with fail
            refine HS2.out.mono ?_
            rintro e w17 ⟨rfl, q17, hw17⟩
            have hb17 : Below w16.heap.size w16 w17 := by rw [hw17]; exact below_drewN (Below.refl _ _) q17
            have HBF := Lib.hid (HT16.out.kept hb17).on1.be
            clear hw17 hb17
            go_wp2_with fail
            go_ret
            exact ⟨rfl, HBF.out⟩
end Go.Proofs.Ytckmjpbkcpmdpaa
