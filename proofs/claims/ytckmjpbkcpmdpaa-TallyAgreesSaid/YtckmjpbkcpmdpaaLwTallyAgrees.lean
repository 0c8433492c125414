/-
  TallyAgrees: the law's walk. No statement.
-/
import Derived.Test.YtckmjpbkcpmdpaaTallyAgr1
import Derived.Deep.RegionHeld3
import Derived.Deep.CutRange
import Derived.BigQuiet
namespace Go.Proofs.Ytckmjpbkcpmdpaa
open Go.RowKit Go.Sort Go.Shelf
set_option linter.unusedVariables false
set_option maxRecDepth 100000

set_option maxHeartbeats 25600000 in
theorem tallyAgrees_walk (w : World) (n : Int) (hn0 : (Lit.int .i64 n).wf = true) (v : Value) (ops : List Ov) (hv : InOvs w v ops) (k : Int) (hk0 : (Lit.int .i64 k).wf = true) :
    Calls Try.prog 4 #[.int .i64 n, v, .int .i64 k] w (Tr w) := by
  obtain ⟨i0, hi, hz0, hz1, hz2⟩ := info_parts info_op
  obtain ⟨A, m, c, rfl, hmc, hcm, hro, _⟩ := hv
  have hn := wf_i64 hn0
  have hk := wf_i64 hk0
  simp only [maxLen] at hcm
  have hm63 : m ≤ 9223372036854775807 := by omega
  have HR := Lib.hid hro
  have HAL := Lib.hid (alive_votes w)
  clear hro hn0 hk0 hmc hcm
  go_enter Try.func4, Try.ntmps4
  go_wp2_with fail
  refine HAL.out.mono ?_
  rintro e w1 ⟨rfl, hb1⟩
  have HB1 := Lib.hid hb1
  have HG := Lib.hid (great_votes A m c ops w1 (HR.out.below hb1) hm63)
  clear hb1
  go_wp2_with fail
  refine HG.out.mono ?_
  rintro e w2 ⟨b, q2, rfl, hsz, rfl⟩
  have HB2 := Lib.hid (below_drewN HB1.out q2)
  cases b with
  | true =>
    clear hsz
    go_wp2_with fail
    go_ret
    exact ⟨rfl, HB2.out⟩
  | false =>
    have HSZ := Lib.hid (hsz rfl)
    clear hsz
    have HNW := Lib.hid (new_tally n (w1.drewN q2) hn)
    have hm200 : m ≤ 200 := by have := HSZ.out.2; have := HR.out.1; omega
    go_wp2_with fail
    refine HNW.out.mono ?_
    rintro e w3 hmd
    obtain ⟨g, F, rfl, hon, _, _⟩ := MadeT.on HB2.out HB2.out.size hmd
    generalize tyVoters n = N at *
    have HON := Lib.hid (hon.alloc (.cells #[] 33))
    have HO3 := Lib.hid ((OwnO.empty w3).more hon.sz)
    have HNF3 := Lib.hid (show ¬ F w3.heap.size from fun hf => by have := hon.lt _ hf; omega)
    clear hmd hon HNW HG HAL
    go_wp2_with fail
    go_loopw [8, 9, 10, 11, 12] (fun s i _ _ _ wr => ∃ (j : Nat) (l : List Vc) (A' : Option Addr) (n' c' : Nat) (F : Nat → Prop) (vs : List Vo), j ≤ m ∧ n' ≤ j ∧ i = .int .i64 j ∧ s = .slice A' n' c' ∧ OwnO wr w.heap.size A' n' c' l ∧ TOn w.heap.size w wr F g N vs ∧
      (∀ i, (Value.slice A' n' c').ownBlock = some i → ¬ F i) ∧ (l.map (·.v)).Perm vs ∧ (∀ x ∈ l, VcOk w x)) (fun _ i _ _ _ _ => m - (intOf i).toNat)
    case atStart => exact ⟨0, [], some ⟨w3.heap.size, 0, none⟩, 0, 0, F, [], by omega, by omega, rfl, rfl, HO3.out, HON.out, fun i hi => by injection hi with hi; subst hi; exact HNF3.out, List.Perm.nil, fun x hx => by cases hx⟩
    case round =>
      clear HON HO3 HNF3
      obtain ⟨j, l, A', n', c', F3, vs, hj, hnj, rfl, rfl, ho3, hon3, hof, hpm, hok3⟩ := hrel
      by_cases hlt : j < m
      · as_aux_lemma =>
          have hjx : j < ops.length := by have := HR.out.1; omega
          have hx : ops[j]? = some ops[j] := List.getElem?_eq_getElem hjx
          obtain ⟨x, B, p, pc, C, q, qc, rfl, hf, hok⟩ := HR.out.at_ hx
          have hkl := ovW_mem (List.getElem_mem hjx)
          have HW := Lib.hid (show ops[j].key.length ≤ 4000 ∧ ops[j].load.length ≤ 4000 by have := HSZ.out.1; omega)
          generalize ops[j] = o at *
          have HF4 := Lib.hid hf
          have HOK := Lib.hid hok
          have hfr := hf.below hon3.be
          obtain ⟨c0, c1, c2, c3, _, _⟩ := hfr
          have hxl := cell_lt c0
          have kb0 := Bk.new wr 33 [.int .i64 o.voter, .int .i64 o.rank, .slice B p pc, .slice C q qc]
          have hba := (Below.refl wr.heap.size wr).alloc (Nat.le_refl _) (.cells #[.int .i64 o.voter, .int .i64 o.rank, .slice B p pc, .slice C q qc] 33)
          have HON3 := Lib.hid (hon3.alloc (.cells #[.int .i64 o.voter, .int .i64 o.rank, .slice B p pc, .slice C q qc] 33))
          have HO3 := Lib.hid (ho3.below hba)
          have HOF := Lib.hid hof
          have HPM := Lib.hid hpm
          have HVO := Lib.hid hok3
          have HLJ := Lib.hid (And.intro hlt hnj)
          have HNF := Lib.hid (show ¬ F3 wr.heap.size from fun hf => by have := hon3.lt _ hf; omega)
          have HSW := Lib.hid (show w.heap.size ≤ wr.heap.size from hon3.sz)
          obtain ⟨wo, hwo⟩ : ∃ wo, wo = wr := ⟨_, rfl⟩
          subst hwo
          obtain ⟨Y, hY⟩ : ∃ Y, Y = wo.alloc (.cells #[.int .i64 o.voter, .int .i64 o.rank, .slice B p pc, .slice C q qc] 33) := ⟨_, rfl⟩
          have HKB := Lib.hid (show Bk Y wo.heap.size 33 [.int .i64 o.voter, .int .i64 o.rank, .slice B p pc, .slice C q qc] from by rw [hY]; exact kb0)
          have y1 : (0 : Int) ≤ (j : Int) := by omega
          have y2 : (j : Int) < (m : Int) := by omega
          have w1' : IntKind.i64.wrap ((j : Int) + 1) = (j : Int) + 1 := by simp only [IntKind.wrap, IntKind.bits, IntKind.signed]; simp; omega
          clear hf hok hkl hx hjx hon3 kb0 ho3 hof hpm hok3 hba hlt hnj hj
          go_wp2_with fail
          rw [← hY] at HON3 HO3 ⊢
          clear hY c0 c1 c2 c3
          have kb := HKB.out
          have HRK := Lib.hid (HF4.out.kB.rd.below HON3.out.be)
          have HRL := Lib.hid (HF4.out.kC.rd.below HON3.out.be)
          have hw := Below.refl Y.heap.size Y
          go_region_held3 (fun w' => w'.cell? ⟨wo.heap.size, 0, none⟩ = some (.int .i64 o.voter) ∧ w'.cell? ⟨wo.heap.size, 1, none⟩ = some (.int .i64 o.rank) ∧ w'.cell? ⟨wo.heap.size, 2, none⟩ = some (.slice B p pc) ∧ w'.cell? ⟨wo.heap.size, 3, none⟩ = some (.slice C q qc)) (first | with_reducible exact (bk_drew kb).four | with_reducible exact kb.four | go_keep)
            (first
            | (go_at_call 16; with_reducible refine (copy_in HRK.out HW.out.1 ?_).mono ?_
               focus first | with_reducible exact hw | with_reducible exact below_drew hw
               rintro e w5 ⟨A5, n5, c5, rfl, ho5, hw', hx⟩
               first | replace kb := kb.kept hx | replace kb := bk_keptD kb hx
               replace hw := hw'
               clear hw' hx)
            | (go_at_call 16; with_reducible refine (copy_in HRL.out HW.out.2 ?_).mono ?_
               focus first | with_reducible exact hw | with_reducible exact below_drew hw
               rintro e w6 ⟨A6, n6, c6, rfl, ho6, hw', hx⟩
               first | replace kb := kb.kept hx | replace kb := bk_keptD kb hx
               first | replace ho5 := ho5.below hx | replace ho5 := ownB_belowD ho5 hx
               replace hw := hw'
               clear hw' hx)
            | (go_at_call 15; with_reducible refine (put_in HON3.out o HOK.out HW.out ?_ ?_ ?_).mono ?_
               focus with_reducible exact hw
               focus with_reducible exact ho5
               focus with_reducible exact ho6
               rintro e w7 ⟨rfl, hb7, F7, hon7, hF7, hc7⟩
               have HO7 := Lib.hid ((HO3.out.below hw).chg hc7 (fun i hi => HOF.out i hi))
               have HOF7 := Lib.hid (show ∀ i, (Value.slice A' n' c').ownBlock = some i → ¬ F7 i from fun i hi hf => (hF7 i hf).elim (HOF.out i hi) (fun q => by have := (HO3.out.block i hi).2; omega))
               have HNF7 := Lib.hid (show ¬ F7 wo.heap.size from fun hf => (hF7 _ hf).elim HNF.out (fun q => by have := HKB.out.lt; omega))
               replace kb := hc7.bk kb (fun hf => HNF.out hf)
               clear hb7 hw ho5 ho6 hF7 hc7))
          all_goals
            have HON7 := Lib.hid hon7
            have HKB7 := Lib.hid kb
            clear hon7 kb HON3 HO3 HOF HNF HRK HRL HKB
            have HTT := Lib.hid (once_takes N vs o.voter o.rank)
            obtain ⟨TT, hTT⟩ : ∃ TT, tyTakes N vs o.voter o.rank = TT := ⟨_, rfl⟩
            rw [hTT]
            cases TT with
            | false =>
              have HVS := Lib.hid (show tyAfter N vs o.vo = vs by unfold tyAfter; rw [if_neg (by rw [show tyTakes N vs o.vo.voter o.vo.rank = false from hTT]; simp)])
              clear hTT
              go_wp2_with fail
              go_roundw
              case rel => exact ⟨j + 1, l, A', n', c', F7, tyAfter N vs o.vo, by have := HLJ.out; omega, by have := HLJ.out; omega, by go_num, rfl, HO7.out, HON7.out, HOF7.out, by rw [HVS.out]; exact HPM.out, HVO.out⟩
              case measure => have := HLJ.out; simp [intOf]; omega
            | true =>
              have HVS := Lib.hid (show tyAfter N vs o.vo = tyPut vs o.vo by unfold tyAfter; rw [if_pos (show tyTakes N vs o.vo.voter o.vo.rank = true from hTT)])
              clear hTT
              obtain ⟨b2, hb2⟩ : ∃ b2, b2 = w7.heap.size := ⟨_, rfl⟩
              have hba := (Below.refl w7.heap.size w7).alloc (Nat.le_refl _) (.cells #[] 33)
              obtain ⟨wB, hwB⟩ : ∃ wB, wB = w7.alloc (.cells #[] 33) := ⟨_, rfl⟩
              have hoB := OwnO.empty w7
              have HSB := Lib.hid (show wo.heap.size < b2 ∧ (∀ i, F7 i → i < b2) ∧ w.heap.size ≤ b2 from ⟨by rw [hb2]; exact HKB7.out.lt, fun i hi => by rw [hb2]; exact HON7.out.lt i hi, by rw [hb2]; exact HON7.out.sz⟩)
              have HOL := Lib.hid (show ∀ i, (Value.slice A' n' c').ownBlock = some i → i < b2 from fun i hi => by rw [hb2]; exact (HO7.out.block i hi).2)
              rw [← hwB] at hba hoB
              rw [← hb2] at hoB
              have HONB := Lib.hid (HON7.out.kept hba)
              have HLB := Lib.hid (HO7.out.below hba)
              have HKBB := Lib.hid (HKB7.out.kept hba)
              have HOB := Lib.hid hoB
              have HWB := Lib.hid (show wB.heap.size = b2 + 1 by rw [hwB, hb2]; simp)
              clear hba hoB HON7 HO7 HKB7
              go_wp2_with fail
              rw [← hwB, ← hb2]
              clear hwB hb2
              go_loopw [11, 12] (fun s i wx => ∃ (jj : Nat) (A2 : Option Addr) (n2 c2 : Nat), jj ≤ n' ∧ i = .int .i64 jj ∧ s = .slice A2 n2 c2 ∧ OwnO wx b2 A2 n2 c2 (butV o.voter (l.take jj)) ∧ Chg (fun i => b2 ≤ i) wB wx) (fun _ i _ => n' - (intOf i).toNat)
              case atStart => exact ⟨0, some ⟨b2, 0, none⟩, 0, 0, Nat.zero_le _, rfl, rfl, HOB.out, Chg.refl _ _⟩
              case round =>
                clear HOB
                obtain ⟨jj, A2, n2, c2, hjj, rfl, rfl, ho2, hch⟩ := hrel
                have hlen := HLB.out.len
                have hn2 : n2 ≤ jj := by have h1 := ho2.len; have h2 := butV_le o.voter l jj; omega
                have HLX := Lib.hid (HLB.out.chg hch (fun i hi hf => by have h1 := HOL.out i hi; have h2 : b2 ≤ i := hf; omega))
                have HKX := Lib.hid (hch.bk HKBB.out (fun hf => by have h1 := HSB.out.1; have h2 : b2 ≤ wo.heap.size := hf; omega))
                have HO2 := Lib.hid ho2
                have HCH := Lib.hid hch
                obtain ⟨k0, k1, k2, k3⟩ := HKX.out.four
                by_cases hlt2 : jj < n'
                · have hyl : jj < l.length := by omega
                  have hy : l[jj]? = some l[jj] := List.getElem?_eq_getElem hyl
                  have HNX := Lib.hid (butV_next o.voter l jj _ hy)
                  obtain ⟨gl, rfl, hgl, d0, d1, d2, d3⟩ := HLX.out.at_ hy
                  generalize l[jj] = y at *
                  have z1 : (0 : Int) ≤ (jj : Int) := by omega
                  have z2 : (jj : Int) < (n' : Int) := by omega
                  have w2' : IntKind.i64.wrap ((jj : Int) + 1) = (jj : Int) + 1 := by have := HLJ.out; simp only [IntKind.wrap, IntKind.bits, IntKind.signed]; simp; omega
                  have HLT2 := Lib.hid hlt2
                  have HN2 := Lib.hid (show n2 ≤ 200 by have := HLJ.out; omega)
                  have HWX := Lib.hid (show b2 < wr.heap.size by have h1 := hch.size; have h2 := HWB.out; omega)
                  clear hy hyl ho2 hch hlt2 hn2 hlen hjj
                  by_cases hev : y.v.voter = o.voter
                  · have e1 : (y.v.voter == o.voter) = true := by simp [hev]
                    rw [if_pos hev] at HNX
                    clear hev
                    go_wp2_with fail
                    go_quiet (fail)
                    go_wp2_with fail
                    go_roundw
                    case rel => exact ⟨jj + 1, A2, n2, c2, HLT2.out, by go_num, rfl, by rw [HNX.out]; exact HO2.out, HCH.out.drewN _⟩
                    case measure => have := HLT2.out; simp [intOf]; omega
                  · have e1 : (y.v.voter == o.voter) = false := by simp [hev]
                    rw [if_neg hev] at HNX
                    clear hev
                    go_wp2_with fail
                    go_quiet (fail)
                    go_wp2_with (at_builtin
                                 refine wpList_append_own_at _ rfl _ _ 22 rfl b2 33 i0 _ 4 64 Try.underlying22 hi hz0 hz1 hz2 rfl (by omega) (.slice A2 n2 c2) n2 (vcc (butV o.voter (l.take jj))) rfl ((show OwnO (wr.drewN nq) b2 A2 n2 c2 (butV o.voter (l.take jj)) from HO2.out).alloc _)
                                   ⟨wr.heap.size, 0, none⟩ 1 1 [.int .i64 y.v.voter, .int .i64 y.v.rank, .slice y.ka y.kn y.kc, .slice y.la y.ln y.lc] rfl rfl (by simpa using four_cells (wr.drewN nq) (.int .i64 y.v.voter) (.int .i64 y.v.rank) (.slice y.ka y.kn y.kc) (.slice y.la y.ln y.lc) 33) (by simp [Value.oneCell']) (by have := HN2.out; simp only [maxLen]; omega) (by have := HN2.out; omega) (by have := HWX.out; simp; omega) ?_
                                 intro v9 w9 hown9 hg9 hnil9 hrow9
                                 obtain ⟨A9, c9, rfl⟩ : ∃ A9 c9, v9 = .slice A9 (n2 + 1) c9 := by
                                   rcases hown9.2 with ⟨_, e⟩ | ⟨g, cap, cur, e, _⟩
                                   · omega
                                   · exact ⟨_, _, e⟩
                                 have HC9 := Lib.hid (((HCH.out.drewN nq).alloc (.cells #[.int .i64 y.v.voter, .int .i64 y.v.rank, .slice y.ka y.kn y.kc, .slice y.la y.ln y.lc] 33)).grown hg9 (fun g hg => .inl (HO2.out.block g hg).1))
                                 have HO9 := Lib.hid (show OwnO w9 b2 A9 (n2 + 1) c9 (butV o.voter (l.take jj) ++ [y]) by
                                   unfold OwnO
                                   rw [vcc_append]
                                   exact hown9)
                                 clear hown9 hg9 hnil9 hrow9)
                    go_roundw
                    case rel =>
                      (repeat apply Exists.intro)
                      exact ⟨⟨jj + 1, A9, n2 + 1, c9, HLT2.out, by go_num, rfl, by rw [HNX.out]; exact HO9.out, HC9.out⟩, rfl⟩
                    case measure => have := HLT2.out; simp [intOf]; omega
                · have e : l.take jj = l := List.take_of_length_le (by omega)
                  rw [e] at HO2
                  have z2 : ¬ (jj : Int) < (n' : Int) := by omega
                  have HN2 := Lib.hid (show n2 ≤ n' ∧ n2 ≤ 200 by have := HLJ.out; omega)
                  have HWX := Lib.hid (show b2 < wr.heap.size by have h1 := hch.size; have h2 := HWB.out; omega)
                  have HONX := Lib.hid (HONB.out.chg hch (fun i hi => by have h1 := HSB.out; have h2 : b2 ≤ i := hi; exact ⟨by omega, fun q => by have := h1.2.1 i q; omega⟩))
                  clear ho2 hch hlt2 hn2 hlen hjj e
                  go_wp2_with (at_builtin
                               refine wpList_append_own_at _ rfl _ _ 22 rfl b2 33 i0 _ 4 64 Try.underlying22 hi hz0 hz1 hz2 rfl (by omega) (.slice A2 n2 c2) n2 (vcc (butV o.voter l)) rfl (HO2.out.alloc _)
                                 ⟨wr.heap.size, 0, none⟩ 1 1 [.int .i64 o.voter, .int .i64 o.rank, .slice B p pc, .slice C q qc] rfl rfl (by simpa using four_cells wr (.int .i64 o.voter) (.int .i64 o.rank) (.slice B p pc) (.slice C q qc) 33) (by simp [Value.oneCell']) (by have := HN2.out; simp only [maxLen]; omega) (by have := HN2.out; omega) (by have := HWX.out; simp; omega) ?_
                               intro v9 w9 hown9 hg9 hnil9 hrow9
                               obtain ⟨A9, c9, rfl⟩ : ∃ A9 c9, v9 = .slice A9 (n2 + 1) c9 := by
                                 rcases hown9.2 with ⟨_, e⟩ | ⟨g, cap, cur, e, _⟩
                                 · omega
                                 · exact ⟨_, _, e⟩
                               have hC9 := ((Chg.refl (fun i => b2 ≤ i) wr).alloc (.cells #[.int .i64 o.voter, .int .i64 o.rank, .slice B p pc, .slice C q qc] 33)).grown hg9 (fun g hg => .inl (HO2.out.block g hg).1)
                               have HON9 := Lib.hid (HONX.out.chg hC9 (fun i hi => by have h1 := HSB.out; have h2 : b2 ≤ i := hi; exact ⟨by omega, fun q => by have := h1.2.1 i q; omega⟩))
                               have HO9 := Lib.hid (show OwnO w9 b2 A9 (n2 + 1) c9 (butV o.voter l ++ [o.vc B p pc C q qc]) by
                                 unfold OwnO
                                 rw [vcc_append]
                                 exact hown9)
                               clear hown9 hg9 hnil9 hrow9 hC9)
                  go_roundw
                  case rel =>
                    refine ⟨j + 1, butV o.voter l ++ [o.vc B p pc C q qc], A9, n2 + 1, c9, F7, tyAfter N vs o.vo, by have := HLJ.out; omega, by have h1 := HLJ.out; have h2 := HN2.out; omega, by go_num, rfl, HO9.out.more HSB.out.2.2, HON9.out, fun i hi hf => by have h1 := (HO9.out.block i hi).1; have h2 := HSB.out.2.1 i hf; omega, ?_, ?_⟩
                    · rw [HVS.out]
                      exact last_put HPM.out (o.vc B p pc C q qc)
                    · intro y hy
                      rcases List.mem_append.1 hy with hy | hy
                      · exact HVO.out y (List.mem_filter.1 hy).1
                      · obtain rfl := List.mem_singleton.1 hy
                        exact ⟨⟨HF4.out.kB.rd, HF4.out.kC.rd⟩, HW.out.1, HW.out.2, HOK.out.2.1.2⟩
                  case measure => have := HLJ.out; simp [intOf]; omega
      · have hlm : l.length = n' := ho3.len
        have HLM := Lib.hid hlm
        have hn200 : n' ≤ 200 := by omega
        have HVO := Lib.hid hok3
        have HO := Lib.hid ho3
        have HON := Lib.hid hon3
        have HAF := Lib.hid (agf_of hpm hon3.good k)
        have HAG := Lib.hid (agree_any k F3 g N vs wr hon3.tl hk)
        clear ho3 hon3 hof hpm hok3 hlm hj hnj
        go_wp2_with fail
        refine HAG.out.mono ?_
        rintro e w12 ⟨A12, n12, c12, B12, m12, q12, rfl, hk12, hi12, hb12⟩
        have HBF := Lib.hid (HON.out.kept hb12).be
        have HO12 := Lib.hid (HO.out.below hb12)
        have HI12 := Lib.hid (show OwnI w12 wr.heap.size B12 m12 q12 (agW vs (tyAgree vs k)) from hi12)
        have HK12 := Lib.hid hk12
        clear hk12 hi12 hb12 HAG HON HO
        generalize agW vs (tyAgree vs k) = who at *
        generalize ((tyAgree vs k).getD default).rank = rk at *
        generalize ((tyAgree vs k).getD default).key = ky at *
        generalize (tyAgree vs k).isSome = ok at *
        have HWL := Lib.hid (show who.length = m12 from HI12.out.len)
        have HM12 := Lib.hid (show m12 ≤ maxLen from HI12.out.cap)
        go_upto_region 22 with fail
        go_cut [94] from 88 to 94 (fun r wx => r = .bool false ∧ wx = w12)
        case first =>
          cases ok with
          | false =>
            go_wp2_with fail
            go_meet
            exact ⟨rfl, rfl⟩
          | true =>
            have h1 := HAF.out.p1 rfl
            have h2 : ¬ (m12 : Int) < k := by have := HWL.out; omega
            clear h1
            go_wp2_with fail
            go_meet
            exact ⟨rfl, rfl⟩
        case rest =>
          obtain ⟨rfl, hwc⟩ := hcut
          have hwc' := hwc.symm
          clear hwc
          subst hwc'
          go_wp2_with fail
          go_loopw [17, 18, 19, 20, 21] (fun i _ _ _ _ wx => ∃ (ii q : Nat), ii ≤ n' ∧ i = .int .i64 ii ∧ wx = w12.drewN q) (fun i _ _ _ _ _ => n' - (intOf i).toNat)
          case atStart => exact ⟨0, 0, by omega, rfl, rfl⟩
          case round =>
            obtain ⟨ii, q, hii, rfl, rfl⟩ := hrel
            by_cases hlt3 : ii < n'
            · as_aux_lemma =>
                have hxl : ii < l.length := by have := HLM.out; omega
                have hx : l[ii]? = some l[ii] := List.getElem?_eq_getElem hxl
                have hmem : l[ii] ∈ l := List.getElem_mem hxl
                obtain ⟨gl, rfl, hgl, _⟩ := HO12.out.at_ hx
                have HP2 := Lib.hid (HAF.out.p2 _ hmem)
                have HP3 := Lib.hid (HAF.out.p3 _ hmem)
                have HP5 := Lib.hid (HAF.out.p5 _ hmem)
                have HVX := Lib.hid (HVO.out _ hmem)
                have HX := Lib.hid hx
                have HLI := Lib.hid hlt3
                generalize l[ii] = x at *
                have y1 : (0 : Int) ≤ (ii : Int) := by omega
                have y2 : (ii : Int) < (n' : Int) := by omega
                have w1' : IntKind.i64.wrap ((ii : Int) + 1) = (ii : Int) + 1 := by simp only [IntKind.wrap, IntKind.bits, IntKind.signed]; simp; omega
                clear hx hxl hmem hii hlt3 hlt
                go_wp2_with fail
                go_loopw [18, 19] (fun s j wy => ∃ (jj q : Nat), jj ≤ n' ∧ j = .int .i64 jj ∧ s = .int .i64 (cntS (l.take jj) x) ∧ wy = w12.drewN q) (fun _ j _ => n' - (intOf j).toNat)
                case atStart => exact ⟨0, q, by omega, rfl, rfl, rfl⟩
                case round =>
                  obtain ⟨jj, q4, hjj, rfl, rfl, rfl⟩ := hrel
                  by_cases hlt4 : jj < n'
                  · have hyl : jj < l.length := by have := HLM.out; omega
                    have hy : l[jj]? = some l[jj] := List.getElem?_eq_getElem hyl
                    have HNX := Lib.hid (cntS_next l jj _ x hy)
                    have HVY := Lib.hid (HVO.out _ (List.getElem_mem hyl))
                    obtain ⟨d0, d1, d2, d3⟩ := HO12.out.at2 hy
                    obtain ⟨c0, c1, c2, c3⟩ := HO12.out.at2 HX.out
                    generalize l[jj] = y at *
                    have hcn : cntS (l.take jj) x ≤ 200 := Nat.le_trans (cntS_le _ _) (by rw [List.length_take]; omega)
                    generalize cntS (l.take jj) x = cn at *
                    have z1 : (0 : Int) ≤ (jj : Int) := by omega
                    have z2 : (jj : Int) < (n' : Int) := by omega
                    have w2' : IntKind.i64.wrap ((jj : Int) + 1) = (jj : Int) + 1 := by simp only [IntKind.wrap, IntKind.bits, IntKind.signed]; simp; omega
                    have w3' : IntKind.i64.wrap ((cn : Int) + 1) = (cn : Int) + 1 := by simp only [IntKind.wrap, IntKind.bits, IntKind.signed]; simp; omega
                    have HLJ4 := Lib.hid hlt4
                    have hm4 : y.kn ≤ maxLen := by have h1 := HVY.out.1.1.1; have h2 := HVY.out.2.1; rw [List.length_map] at h1; simp only [maxLen]; omega
                    have HSB := Lib.hid (show ∀ n, Calls Try.prog 17 #[.slice y.ka y.kn y.kc, .slice x.ka x.kn x.kc] (w12.drewN (q4 + n)) fun e w'' => e = .returned (.bool (decide (y.v.key = x.v.key))) ∧ ∃ m, w'' = w12.drewN (q4 + m) from
                      fun n => (sameBytes_any y.ka x.ka y.kn x.kn y.kc x.kc (w12.drewN (q4 + n)) y.v.key x.v.key (HVY.out.1.1.below (below_drewN HBF.out _)) (HVX.out.1.1.below (below_drewN HBF.out _)) hm4).mono fun e w'' ⟨he, m, hm⟩ => ⟨he, n + m, by rw [hm, World.drewN_drewN, Nat.add_assoc]⟩)
                    clear hm4
                    clear hy hyl hjj hlt4
                    have hq : (y.v.rank = x.v.rank ∧ y.v.key = x.v.key) ∨ (y.v.rank = x.v.rank ∧ ¬ y.v.key = x.v.key) ∨ ¬ y.v.rank = x.v.rank := by
                      by_cases p1 : y.v.rank = x.v.rank
                      · by_cases p2 : y.v.key = x.v.key
                        · exact .inl ⟨p1, p2⟩
                        · exact .inr (.inl ⟨p1, p2⟩)
                      · exact .inr (.inr p1)
                    rcases hq with ⟨p1, p2⟩ | ⟨p1, p2⟩ | p1
                    · rw [if_pos ⟨p1, p2⟩] at HNX
                      have e1 : (y.v.rank == x.v.rank) = true := by simp [p1]
                      rw [decide_eq_true p2] at HSB
                      clear p1 p2
                      go_wp2_with fail
                      go_quiet ((go_at_call 17; with_reducible exact HSB.out _))
                      go_wp2_with fail
                      go_roundw
                      case rel => exact ⟨jj + 1, q4 + nq, HLJ4.out, by go_num, by rw [HNX.out]; go_num, by first | rfl | exact World.drewN_drewN _ _ _⟩
                      case measure => have := HLJ4.out; simp [intOf]; omega
                    · rw [if_neg (fun h => p2 h.2)] at HNX
                      have e1 : (y.v.rank == x.v.rank) = true := by simp [p1]
                      rw [decide_eq_false p2] at HSB
                      clear p1 p2
                      go_wp2_with fail
                      go_quiet ((go_at_call 17; with_reducible exact HSB.out _))
                      go_wp2_with fail
                      go_roundw
                      case rel => exact ⟨jj + 1, q4 + nq, HLJ4.out, by go_num, by rw [HNX.out], by first | rfl | exact World.drewN_drewN _ _ _⟩
                      case measure => have := HLJ4.out; simp [intOf]; omega
                    · rw [if_neg (fun h => p1 h.1)] at HNX
                      have e1 : (y.v.rank == x.v.rank) = false := by simp [p1]
                      clear p1
                      go_wp2_with fail
                      go_quiet (fail)
                      go_wp2_with fail
                      go_roundw
                      case rel => exact ⟨jj + 1, q4 + nq, HLJ4.out, by go_num, by rw [HNX.out], by first | rfl | exact World.drewN_drewN _ _ _⟩
                      case measure => have := HLJ4.out; simp [intOf]; omega
                  · have e : l.take jj = l := List.take_of_length_le (by have := HLM.out; omega)
                    rw [e]
                    have z2 : ¬ (jj : Int) < (n' : Int) := by omega
                    have hp2 := HP2.out
                    have hp5 := HP5.out
                    generalize cntS l x = cn at *
                    obtain ⟨c0, c1, c2, c3⟩ := HO12.out.at2 HX.out
                    clear e hlt4 hjj
                    go_upto_region 33 with fail
                    go_cut [148] from 95 to 188 (fun r wy => r = .bool false ∧ wy = w12.drewN q4)
                    case first =>
                      by_cases hck : k ≤ (cn : Int)
                      · obtain ⟨r1, r2⟩ := hp2 (by omega)
                        subst r1
                        have r3 : ¬ rk < x.v.rank := by omega
                        clear hp2 hp5 r2
                        go_wp2_with fail
                        go_meet
                        exact ⟨rfl, rfl⟩
                      · clear hp2 hp5
                        go_wp2_with fail
                        go_meet
                        exact ⟨rfl, rfl⟩
                    case rest =>
                      obtain ⟨rfl, rfl⟩ := hcut
                      clear hp2 hp5 c0 c1 c2 c3
                      go_wp2_with fail
                      go_loopw [20, 21] (fun b j wz => ∃ (tt q : Nat), tt ≤ m12 ∧ j = .int .i64 tt ∧ b = .bool (decide (x.v.voter ∈ who.take tt)) ∧ wz = w12.drewN q) (fun _ j _ => m12 - (intOf j).toNat)
                      case atStart => exact ⟨0, q4, by omega, rfl, by simp, rfl⟩
                      case round =>
                        obtain ⟨tt, q5, htt, rfl, rfl, rfl⟩ := hrel
                        obtain ⟨c0, c1, c2, c3⟩ := HO12.out.at2 HX.out
                        by_cases hlt5 : tt < m12
                        · have hel : tt < who.length := by have := HWL.out; omega
                          have he : who[tt]? = some who[tt] := List.getElem?_eq_getElem hel
                          obtain ⟨gi, rfl, hgi, i0'⟩ := ownI_at HI12.out he
                          have HNX := Lib.hid (take_mem_next he x.v.voter)
                          generalize who[tt] = ee at *
                          generalize decide (x.v.voter ∈ who.take tt) = bb at *
                          have z1 : (0 : Int) ≤ (tt : Int) := by omega
                          have z2 : (tt : Int) < (m12 : Int) := by omega
                          have w2' : IntKind.i64.wrap ((tt : Int) + 1) = (tt : Int) + 1 := by have := HM12.out; simp only [maxLen] at this; simp only [IntKind.wrap, IntKind.bits, IntKind.signed]; simp; omega
                          have HLJ5 := Lib.hid hlt5
                          clear he hel htt hlt5
                          cases bb with
                          | true =>
                            go_wp2_with fail
                            go_quiet (fail)
                            go_wp2_with fail
                            go_roundw
                            case rel => exact ⟨tt + 1, q5 + nq, HLJ5.out, by go_num, by rw [HNX.out]; rfl, by first | rfl | exact World.drewN_drewN _ _ _⟩
                            case measure => have := HLJ5.out; simp [intOf]; omega
                          | false =>
                            by_cases hev : ee = x.v.voter
                            · have e1 : (ee == x.v.voter) = true := by simp [hev]
                              rw [decide_eq_true hev] at HNX
                              clear hev
                              go_wp2_with fail
                              go_quiet (fail)
                              go_wp2_with fail
                              go_roundw
                              case rel => exact ⟨tt + 1, q5 + nq, HLJ5.out, by go_num, by rw [HNX.out]; rfl, by first | rfl | exact World.drewN_drewN _ _ _⟩
                              case measure => have := HLJ5.out; simp [intOf]; omega
                            · have e1 : (ee == x.v.voter) = false := by simp [hev]
                              rw [decide_eq_false hev] at HNX
                              clear hev
                              go_wp2_with fail
                              go_quiet (fail)
                              go_wp2_with fail
                              go_roundw
                              case rel => exact ⟨tt + 1, q5 + nq, HLJ5.out, by go_num, by rw [HNX.out]; rfl, by first | rfl | exact World.drewN_drewN _ _ _⟩
                              case measure => have := HLJ5.out; simp [intOf]; omega
                        · have e : who.take tt = who := List.take_of_length_le (by have := HWL.out; omega)
                          rw [e]
                          have z2 : ¬ (tt : Int) < (m12 : Int) := by omega
                          have hp3 := HP3.out
                          generalize decide (x.v.voter ∈ who) = bb at *
                          have HSB := Lib.hid (sameBytes_any x.ka A12 x.kn n12 x.kc c12 (w12.drewN q5) x.v.key ky (HVX.out.1.1.below (below_drewN HBF.out q5)) (show Rd (w12.drewN q5) A12 n12 (ky.map bv) from HK12.out.rd) (by have h1 := HVX.out.1.1.1; have h2 := HVX.out.2.1; rw [List.length_map] at h1; simp only [maxLen]; omega))
                          clear e hlt5 htt
                          cases ok with
                          | false =>
                            obtain rfl : bb = false := by rw [hp3]; rfl
                            clear hp3
                            go_wp2_with fail
                            go_roundw
                            case rel => exact ⟨ii + 1, q5, HLI.out, by go_num, rfl⟩
                            case measure => have := HLI.out; simp [intOf]; omega
                          | true =>
                            by_cases p1 : x.v.rank = rk
                            · have e1 : (x.v.rank == rk) = true := by simp [p1]
                              rw [decide_eq_true p1] at hp3
                              clear p1
                              by_cases p2 : x.v.key = ky
                              · obtain rfl : bb = true := by rw [hp3, decide_eq_true p2]; rfl
                                rw [decide_eq_true p2] at HSB
                                clear hp3 p2
                                go_wp2_with fail
                                refine HSB.out.mono ?_
                                rintro e w16 ⟨rfl, q16, rfl⟩
                                go_wp2_with fail
                                go_roundw
                                case rel => exact ⟨ii + 1, q5 + q16, HLI.out, by go_num, by first | rfl | exact World.drewN_drewN _ _ _⟩
                                case measure => have := HLI.out; simp [intOf]; omega
                              · obtain rfl : bb = false := by rw [hp3, decide_eq_false p2]; rfl
                                rw [decide_eq_false p2] at HSB
                                clear hp3 p2
                                go_wp2_with fail
                                refine HSB.out.mono ?_
                                rintro e w16 ⟨rfl, q16, rfl⟩
                                go_wp2_with fail
                                go_roundw
                                case rel => exact ⟨ii + 1, q5 + q16, HLI.out, by go_num, by first | rfl | exact World.drewN_drewN _ _ _⟩
                                case measure => have := HLI.out; simp [intOf]; omega
                            · have e1 : (x.v.rank == rk) = false := by simp [p1]
                              obtain rfl : bb = false := by rw [hp3, decide_eq_false p1]; rfl
                              clear hp3 p1
                              go_wp2_with fail
                              go_roundw
                              case rel => exact ⟨ii + 1, q5, HLI.out, by go_num, rfl⟩
                              case measure => have := HLI.out; simp [intOf]; omega
            · have HBQ := Lib.hid (below_drewN HBF.out q)
              have y2 : ¬ (ii : Int) < (n' : Int) := by omega
              cases ok with
              | true =>
                go_wp2_with fail
                go_ret
                exact ⟨rfl, HBQ.out⟩
              | false =>
                obtain ⟨r1, r2, r3⟩ := HAF.out.p4 rfl
                subst r1 r2 r3
                have h1 : m12 = 0 := HWL.out.symm
                have h2 : n12 = 0 := HK12.out.len.symm
                subst h1 h2
                go_wp2_with fail
                go_ret
                exact ⟨rfl, HBQ.out⟩
end Go.Proofs.Ytckmjpbkcpmdpaa
