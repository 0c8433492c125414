/-
  TallyOnce: the law's walk. No statement.
-/
import Derived.Test.YtckmjpbkcpmdpaaTallyLaw2
import Derived.Deep.RegionHeld3
import Derived.Deep.CutRange
import Derived.Deep.RegionWith
namespace Go.Proofs.Ytckmjpbkcpmdpaa
open Go.RowKit Go.Sort Go.Shelf
set_option linter.unusedVariables false
set_option maxRecDepth 100000

set_option maxHeartbeats 6400000 in
theorem tallyOnce_walk (w : World) (n : Int) (hn0 : (Lit.int .i64 n).wf = true) (v : Value) (ops : List Ov) (hv : InOvs w v ops) (k : Int) (hk0 : (Lit.int .i64 k).wf = true) :
    Calls Try.prog 7 #[.int .i64 n, v, .int .i64 k] w (Tr w) := by
  obtain ⟨A, m, c, rfl, hmc, hcm, hro, _⟩ := hv
  have hn := wf_i64 hn0
  have hk := wf_i64 hk0
  simp only [maxLen] at hcm
  have hm63 : m ≤ 9223372036854775807 := by omega
  have HR := Lib.hid hro
  have HAL := Lib.hid (alive_votes w)
  clear hro hn0 hk0 hmc hcm
  go_enter Try.func7, Try.ntmps7
  go_wp2_with fail
  refine HAL.out.mono ?_
  rintro e w1 ⟨rfl, hb1⟩
  have HB1 := Lib.hid hb1
  have HG := Lib.hid (great_votes A m c ops w1 (HR.out.below hb1) hm63)
  clear hb1
  go_wp2_with fail
  refine HG.out.mono ?_
  rintro e w2 ⟨b, q2, rfl, hsz, rfl⟩
  have HB2 := Lib.hid (below_drewN HB1.out q2)
  cases b with
  | true =>
    clear hsz
    go_wp2_with fail
    go_ret
    exact ⟨rfl, HB2.out⟩
  | false =>
    have HSZ := Lib.hid (hsz rfl)
    clear hsz
    have HNW := Lib.hid (new_tally n (w1.drewN q2) hn)
    have hm200 : m ≤ 200 := by have := HSZ.out.2; have := HR.out.1; omega
    go_wp2_with fail
    refine HNW.out.mono ?_
    rintro e w3 hmd
    obtain ⟨g, F, rfl, hon, _, _⟩ := MadeT.on HB2.out HB2.out.size hmd
    have HNN := Lib.hid (show ∀ a : Int, (0 ≤ a ∧ a < tyVoters n) ↔ (0 ≤ a ∧ a < n ∧ a < 64) by intro a; unfold tyVoters; omega)
    generalize tyVoters n = N at *
    have HON := Lib.hid hon
    clear hmd hon HNW HG HAL
    go_wp2_with fail
    go_loopw [8, 9, 10, 11, 12, 13, 14, 15, 16] (fun i _ _ _ _ _ _ _ _ wr => ∃ (j : Nat) (F : Nat → Prop) (vs : List Vo), j ≤ m ∧ i = .int .i64 j ∧ TOn w.heap.size w wr F g N vs) (fun i _ _ _ _ _ _ _ _ _ => m - (intOf i).toNat)
    case atStart => exact ⟨0, F, [], by omega, rfl, HON.out⟩
    case round =>
      obtain ⟨j, F3, vs, hj, rfl, hon3⟩ := hrel
      by_cases hlt : j < m
      · have hjx : j < ops.length := by have := HR.out.1; omega
        have hx : ops[j]? = some ops[j] := List.getElem?_eq_getElem hjx
        obtain ⟨x, B, p, pc, C, q, qc, rfl, hf, hok⟩ := HR.out.at_ hx
        have hkl := ovW_mem (List.getElem_mem hjx)
        have HW := Lib.hid (show ops[j].key.length ≤ 4000 ∧ ops[j].load.length ≤ 4000 by have := HSZ.out.1; omega)
        generalize ops[j] = o at *
        have HF4 := Lib.hid hf
        have HOK := Lib.hid hok
        have hfr := hf.below hon3.be
        obtain ⟨c0, c1, c2, c3, _, _⟩ := hfr
        have hxl := cell_lt c0
        have kb0 := Bk.new wr 33 [.int .i64 o.voter, .int .i64 o.rank, .slice B p pc, .slice C q qc]
        have HKB := Lib.hid (show Bk (wr.alloc (.cells #[.int .i64 o.voter, .int .i64 o.rank, .slice B p pc, .slice C q qc] 33)) wr.heap.size 33 [.int .i64 o.voter, .int .i64 o.rank, .slice B p pc, .slice C q qc] from kb0)
        have HON3 := Lib.hid (hon3.alloc (.cells #[.int .i64 o.voter, .int .i64 o.rank, .slice B p pc, .slice C q qc] 33))
        have HNF := Lib.hid (show ¬ F3 wr.heap.size from fun hf => by have := hon3.lt _ hf; omega)
        have HRA := Lib.hid (rank_any o.voter F3 g N vs _ HON3.out.tl)
        have HAF := Lib.hid (once_known HON3.out.good o HW.out HOK.out.2.1.2)
        have y1 : (0 : Int) ≤ (j : Int) := by omega
        have y2 : (j : Int) < (m : Int) := by omega
        have w1' : IntKind.i64.wrap ((j : Int) + 1) = (j : Int) + 1 := by simp only [IntKind.wrap, IntKind.bits, IntKind.signed]; simp; omega
        clear hf hok hkl hx hjx hon3 kb0
        go_wp2_with fail
        refine HRA.out.mono ?_
        rintro e w3' ⟨rfl, hb3⟩
        have HON3b := Lib.hid (HON3.out.kept hb3)
        have HKB3 := Lib.hid (HKB.out.kept hb3)
        obtain ⟨k0, k1, k2, k3⟩ := HKB3.out.four
        have HLD := Lib.hid (load_any o.voter F3 g N vs _ HON3b.out.tl)
        clear hb3 c0 c1 c2 c3
        go_wp2_with fail
        refine HLD.out.mono ?_
        rintro e w4 ⟨A4, n4, c4, rfl, hk4, hb4⟩
        have HK4 := Lib.hid (hk4.more (Nat.le_refl _))
        have HON4 := Lib.hid (HON3b.out.kept hb4)
        have kb := HKB3.out.kept hb4
        clear hk4 hb4 k0 k1 k2 k3
        go_wp2_with fail
        have HRK := Lib.hid (HF4.out.kB.rd.below HON4.out.be)
        have HRL := Lib.hid (HF4.out.kC.rd.below HON4.out.be)
        have hw := Below.refl w4.heap.size w4
        go_region_held3 (fun w' => w'.cell? ⟨wr.heap.size, 0, none⟩ = some (.int .i64 o.voter) ∧ w'.cell? ⟨wr.heap.size, 1, none⟩ = some (.int .i64 o.rank) ∧ w'.cell? ⟨wr.heap.size, 2, none⟩ = some (.slice B p pc) ∧ w'.cell? ⟨wr.heap.size, 3, none⟩ = some (.slice C q qc)) (first | with_reducible exact (bk_drew kb).four | with_reducible exact kb.four | go_keep)
          (first
          | (go_at_call 16; with_reducible refine (copy_in HRK.out HW.out.1 ?_).mono ?_
             focus first | with_reducible exact hw | with_reducible exact below_drew hw
             rintro e w5 ⟨A5, n5, c5, rfl, ho5, hw', hx⟩
             first | replace kb := kb.kept hx | replace kb := bk_keptD kb hx
             replace hw := hw'
             clear hw' hx)
          | (go_at_call 16; with_reducible refine (copy_in HRL.out HW.out.2 ?_).mono ?_
             focus first | with_reducible exact hw | with_reducible exact below_drew hw
             rintro e w6 ⟨A6, n6, c6, rfl, ho6, hw', hx⟩
             first | replace kb := kb.kept hx | replace kb := bk_keptD kb hx
             first | replace ho5 := ho5.below hx | replace ho5 := ownB_belowD ho5 hx
             replace hw := hw'
             clear hw' hx)
          | (go_at_call 15; with_reducible refine (put_in HON4.out o HOK.out HW.out ?_ ?_ ?_).mono ?_
             focus with_reducible exact hw
             focus with_reducible exact ho5
             focus with_reducible exact ho6
             rintro e w7 ⟨rfl, hb7, F7, hon7, hF7, hc7⟩
             replace kb := hc7.bk kb (fun hf => HNF.out hf)
             have HK7 := Lib.hid (hc7.ownB (HK4.out.below hw) (fun i hi hf => by have h1 := (World.ownsRow.lt HK4.out i hi).1; have h2 := HON3b.out.lt _ hf; omega))
             clear hb7 hw ho5 ho6 hF7 hc7))

        all_goals
          have HON7 := Lib.hid hon7
          have HKB7 := Lib.hid kb
          have HRA2 := Lib.hid (rank_any o.voter F7 g N _ w7 hon7.tl)
          obtain ⟨k0, k1, k2, k3⟩ := kb.four
          clear hon7 kb
          go_wp2_with fail
          refine HRA2.out.mono ?_
          rintro e w8 ⟨rfl, hb8⟩
          have HON8 := Lib.hid (HON7.out.kept hb8)
          have HKB8 := Lib.hid (HKB7.out.kept hb8)
          have HK8 := Lib.hid (HK7.out.below hb8)
          have HLL8 := Lib.hid (HF4.out.kC.rd.below HON8.out.be)
          have HLD2 := Lib.hid (show ∀ X, Below w8.heap.size w8 X → Calls Try.prog 25 #[.pointer (some ⟨g, 0, none⟩), .int .i64 o.voter] X (fun e w' => ∃ A n c, e = .returned (.slice A n c) ∧ OwnB w' w8.heap.size A n c ((tyKnown (tyAfter N vs o.vo) o.voter).getD default).load ∧ Below w8.heap.size w8 w' ∧ Below X.heap.size X w') from
            fun X hX => (load_any o.voter F7 g N _ X (HON8.out.kept hX).tl).mono fun e w' ⟨A, n, c, he, ho, hb⟩ => ⟨A, n, c, he, ho.more hX.size, below_next hX hb hX.size, hb⟩)
          clear hb8 k0 k1 k2 k3 HLD HRA HRA2 HK7 HKB7 HON7
          obtain ⟨k0, k1, k2, k3⟩ := HKB8.out.four
          have hA1 := HAF.out.1
          have hA2 := HAF.out.2
          have hTK := show tyTakes N vs o.voter o.rank = (decide (0 ≤ o.voter) && decide (o.voter < N) && decide (0 ≤ o.rank) && (!(tyKnown vs o.voter).isSome || decide (((tyKnown vs o.voter).getD default).rank < o.rank))) from once_takes N vs o.voter o.rank
          clear HAF
          generalize ((tyKnown (tyAfter N vs o.vo) o.voter).getD default).load = ll2 at *
          generalize ((tyKnown (tyAfter N vs o.vo) o.voter).getD default).rank = r2 at *
          generalize (tyKnown (tyAfter N vs o.vo) o.voter).isSome = b2 at *
          generalize ((tyKnown vs o.voter).getD default).load = ll1 at *
          generalize ((tyKnown vs o.voter).getD default).rank = r1 at *
          generalize (tyKnown vs o.voter).isSome = b1 at *
          generalize tyTakes N vs o.voter o.rank = T at *
          have HAA := Lib.hid (And.intro hA1 hA2)
          have hT : (T = true ∧ 0 ≤ o.voter ∧ o.voter < n ∧ o.voter < 64 ∧ 0 ≤ o.rank ∧ (b1 = false ∨ (b1 = true ∧ r1 < o.rank))) ∨ (T = false ∧ (o.voter < 0 ∨ (0 ≤ o.voter ∧ n ≤ o.voter) ∨ (0 ≤ o.voter ∧ o.voter < n ∧ 64 ≤ o.voter) ∨ (0 ≤ o.voter ∧ o.voter < n ∧ o.voter < 64 ∧ o.rank < 0) ∨ (0 ≤ o.voter ∧ o.voter < n ∧ o.voter < 64 ∧ 0 ≤ o.rank ∧ b1 = true ∧ o.rank ≤ r1))) := by
            have e1 := HNN.out o.voter
            rw [hTK]
            by_cases h1 : 0 ≤ o.voter ∧ o.voter < N
            · have h2 := e1.1 h1
              by_cases h3 : 0 ≤ o.rank
              · cases b1 with
                | false => left; simp [h1, h2, h3]
                | true =>
                  by_cases h4 : r1 < o.rank
                  · left; simp [h1, h2, h3, h4]
                  · right; refine ⟨by simp [h1, h3, h4], ?_⟩; exact .inr (.inr (.inr (.inr ⟨h2.1, h2.2.1, h2.2.2, h3, rfl, by omega⟩)))
              · right; refine ⟨by simp [h1, h3], ?_⟩; exact .inr (.inr (.inr (.inl ⟨h2.1, h2.2.1, h2.2.2, by omega⟩)))
            · right
              refine ⟨?_, ?_⟩
              · by_cases h5 : 0 ≤ o.voter
                · have h6 : ¬ o.voter < N := fun q => h1 ⟨h5, q⟩
                  simp [h6]
                · simp [h5]
              · have h7 : ¬ (0 ≤ o.voter ∧ o.voter < n ∧ o.voter < 64) := fun q => h1 (e1.2 q)
                omega
          clear hTK hA1 hA2
          go_upto_region 16 with (fail)
          have hth : (0 ≤ o.voter ∧ o.voter < n ∧ o.voter < 64) ∨ ¬ (0 ≤ o.voter ∧ o.voter < n ∧ o.voter < 64) := Classical.em _
          go_cut [16] from 65 to 78 (fun s wx => s = .bool (decide (0 ≤ o.voter ∧ o.voter < n ∧ o.voter < 64)) ∧ wx = w8)
          case first =>
            by_cases h1 : 0 ≤ o.voter
            · by_cases h2 : o.voter < n
              · by_cases h3 : o.voter < 64
                · have hd := Lib.hid (show decide (0 ≤ o.voter ∧ o.voter < n ∧ o.voter < 64) = true by simp [h1, h2, h3])
                  go_wp2_with fail
                  go_meet
                  exact ⟨by rw [hd.out], rfl⟩
                · have hd := Lib.hid (show decide (0 ≤ o.voter ∧ o.voter < n ∧ o.voter < 64) = false by simp [h3])
                  go_wp2_with fail
                  go_meet
                  exact ⟨by rw [hd.out], rfl⟩
              · have hd := Lib.hid (show decide (0 ≤ o.voter ∧ o.voter < n ∧ o.voter < 64) = false by simp [h2])
                go_wp2_with fail
                go_meet
                exact ⟨by rw [hd.out], rfl⟩
            · have hd := Lib.hid (show decide (0 ≤ o.voter ∧ o.voter < n ∧ o.voter < 64) = false by simp [h1])
              go_wp2_with fail
              go_meet
              exact ⟨by rw [hd.out], rfl⟩
          case rest =>
            obtain ⟨rfl, rfl⟩ := hcut
            clear hth
            have hT' : (T = true ∧ decide (0 ≤ o.voter ∧ o.voter < n ∧ o.voter < 64) = true ∧ 0 ≤ o.rank ∧ (b1 = false ∨ (b1 = true ∧ r1 < o.rank))) ∨ (T = false ∧ (decide (0 ≤ o.voter ∧ o.voter < n ∧ o.voter < 64) = false ∨ (decide (0 ≤ o.voter ∧ o.voter < n ∧ o.voter < 64) = true ∧ (o.rank < 0 ∨ (0 ≤ o.rank ∧ b1 = true ∧ o.rank ≤ r1))))) := by
              rcases hT with ⟨e, h1, h2, h3, h4, h5⟩ | ⟨e, h1 | ⟨h1, h2⟩ | ⟨h1, h2, h3⟩ | ⟨h1, h2, h3, h4⟩ | ⟨h1, h2, h3, h4, h5, h6⟩⟩
              · exact .inl ⟨e, by simp [h1, h2, h3], h4, h5⟩
              · exact .inr ⟨e, .inl (by simp; omega)⟩
              · exact .inr ⟨e, .inl (by simp; omega)⟩
              · exact .inr ⟨e, .inl (by simp; omega)⟩
              · exact .inr ⟨e, .inr ⟨by simp [h1, h2, h3], .inl h4⟩⟩
              · exact .inr ⟨e, .inr ⟨by simp [h1, h2, h3], .inr ⟨h4, h5, h6⟩⟩⟩
            clear hT
            generalize decide (0 ≤ o.voter ∧ o.voter < n ∧ o.voter < 64) = th at *
            go_upto_region 17 with (fail)
            go_cut [96] from 79 to 96 (fun s wx => s = .bool false ∧ wx = wc)
            case first =>
              rcases hT' with ⟨rfl, rfl, h4, rfl | ⟨rfl, h5⟩⟩ | ⟨rfl, rfl | ⟨rfl, h4 | ⟨h4, rfl, h5⟩⟩⟩
              · go_wp2_with fail
                go_meet
                exact ⟨rfl, rfl⟩
              · go_wp2_with fail
                go_meet
                exact ⟨rfl, rfl⟩
              · go_wp2_with fail
                go_meet
                exact ⟨rfl, rfl⟩
              · have g3 : ¬ 0 ≤ o.rank := by omega
                go_wp2_with fail
                go_meet
                exact ⟨rfl, rfl⟩
              · have g3 : ¬ r1 < o.rank := by omega
                go_wp2_with fail
                go_meet
                exact ⟨rfl, rfl⟩
            case rest =>
            obtain ⟨rfl, rfl⟩ := hcut
            clear hT'
            have hTT : T = true ∨ T = false := by cases T <;> simp
            rcases hTT with rfl | rfl
            · obtain ⟨rfl, rfl, rfl⟩ := HAA.out.1 rfl
              have HSB := Lib.hid (show ∀ X A6 n6 c6, Below wc.heap.size wc X → OwnB X wc.heap.size A6 n6 c6 o.load → Calls Try.prog 17 #[.slice A6 n6 c6, .slice C q qc] X (fun e w' => e = .returned (.bool true) ∧ ∃ k, w' = X.drewN k) from
                fun X A6 n6 c6 hX ho => sameBytes_self A6 C n6 q c6 qc X o.load ho.rd (HLL8.out.below hX) (Nat.le_trans (own_cap ho).1 (own_cap ho).2))
              have g1 : (o.rank != o.rank) = false := by simp
              have kb := HKB8.out
              have hw := Below.refl wc.heap.size wc
              go_wp2_with fail
              refine wp_region_noPanic ?_
              refine wp_region_held_drew (S := fun w' => w'.cell? ⟨wr.heap.size, 0, none⟩ = some (.int .i64 o.voter) ∧ w'.cell? ⟨wr.heap.size, 1, none⟩ = some (.int .i64 o.rank) ∧ w'.cell? ⟨wr.heap.size, 2, none⟩ = some (.slice B p pc) ∧ w'.cell? ⟨wr.heap.size, 3, none⟩ = some (.slice C q qc)) (by kernel_rfl) (bk_drew kb).four (fun hHeld => ?_)
              refine wpAnyH_take (i := 0) (oi := ({ dst := some 97, op := Op.move (Operand.tmp 13), type := 4, pos := "law.go:205", after := #[], guard := none } : Oper)) (v := .bool true) rfl (by kernel_rfl) (by kernel_rfl) (by kernel_rfl) (fun _ _ _ h => h) (Or.inl ⟨by rfl, by (intro w hSw; (try dsimp only at hSw); go_simp)⟩) (by assumption) ?_
              simp only [Act.put, List.setIfInBounds_toArray, List.set_cons_zero, List.set_cons_succ]
              refine wpAnyH_take (i := 1) (oi := ({ dst := some 98, op := Op.move (Operand.tmp 97), type := 4, pos := "law.go:205", after := #[{ on := 0, ground := Ground.data }], guard := none } : Oper)) (v := .bool true) rfl (by kernel_rfl) (by kernel_rfl) (by kernel_rfl) (fun _ _ _ h => h) (Or.inl ⟨by rfl, by (intro w hSw; (try dsimp only at hSw); go_simp)⟩) (by assumption) ?_
              simp only [Act.put, List.setIfInBounds_toArray, List.set_cons_zero, List.set_cons_succ]
              refine wpAnyH_take (i := 2) (oi := ({ dst := some 99, op := Op.move (Operand.tmp 15), type := 4, pos := "law.go:205", after := #[{ on := 1, ground := Ground.guard }], guard := some (1, true) } : Oper)) (v := .bool true) rfl (by kernel_rfl) (by kernel_rfl) (by kernel_rfl) (fun _ _ _ h => h) (Or.inl ⟨by rfl, by (intro w hSw; (try dsimp only at hSw); go_simp)⟩) (by assumption) ?_
              simp only [Act.put, List.setIfInBounds_toArray, List.set_cons_zero, List.set_cons_succ]
              refine wpAnyH_take (i := 3) (oi := ({ dst := some 100, op := Op.unOp UnOp.not 4 (Operand.tmp 99), type := 4, pos := "law.go:205", after := #[{ on := 2, ground := Ground.data }, { on := 1, ground := Ground.guard }], guard := some (1, true) } : Oper)) (v := .bool false) rfl (by kernel_rfl) (by kernel_rfl) (by kernel_rfl) (fun _ _ _ h => h) (Or.inl ⟨by rfl, by (intro w hSw; (try dsimp only at hSw); go_simp)⟩) (by assumption) ?_
              simp only [Act.put, List.setIfInBounds_toArray, List.set_cons_zero, List.set_cons_succ]
              refine wpAnyH_take (i := 4) (oi := ({ dst := some 101, op := Op.move (Operand.tmp 100), type := 4, pos := "law.go:205", after := #[{ on := 3, ground := Ground.data }, { on := 1, ground := Ground.chain }, { on := 1, ground := Ground.guard }], guard := some (1, true) } : Oper)) (v := .bool false) rfl (by kernel_rfl) (by kernel_rfl) (by kernel_rfl) (fun _ _ _ h => h) (Or.inl ⟨by rfl, by (intro w hSw; (try dsimp only at hSw); go_simp)⟩) (by assumption) ?_
              simp only [Act.put, List.setIfInBounds_toArray, List.set_cons_zero, List.set_cons_succ]
              refine wpAnyH_take (i := 5) (oi := ({ dst := some 102, op := Op.move (Operand.tmp 14), type := 3, pos := "law.go:205", after := #[{ on := 4, ground := Ground.guard }], guard := some (4, false) } : Oper)) (v := .int .i64 o.rank) rfl (by kernel_rfl) (by kernel_rfl) (by kernel_rfl) (fun _ _ _ h => h) (Or.inl ⟨by rfl, by (intro w hSw; (try dsimp only at hSw); go_simp)⟩) (by assumption) ?_
              simp only [Act.put, List.setIfInBounds_toArray, List.set_cons_zero, List.set_cons_succ]
              refine wpAnyH_take (i := 6) (oi := ({ dst := some 103, op := Op.fieldAddr 33 (Operand.tmp 9) 1, type := 0, pos := "law.go:205", after := #[{ on := 4, ground := Ground.guard }], guard := some (4, false) } : Oper)) (v := .pointer (some ⟨wr.heap.size, 1, none⟩)) rfl (by kernel_rfl) (by kernel_rfl) (by kernel_rfl) (fun _ _ _ h => h) (Or.inl ⟨by rfl, by (intro w hSw; (try dsimp only at hSw); go_simp)⟩) (by assumption) ?_
              simp only [Act.put, List.setIfInBounds_toArray, List.set_cons_zero, List.set_cons_succ]
              refine wpAnyH_take (i := 7) (oi := ({ dst := some 104, op := Op.load 3 (Operand.tmp 103), type := 3, pos := "law.go:205", after := #[{ on := 6, ground := Ground.data }, { on := 4, ground := Ground.guard }], guard := some (4, false) } : Oper)) (v := .int .i64 o.rank) rfl (by kernel_rfl) (by kernel_rfl) (by kernel_rfl) (fun _ _ _ h => h) (Or.inl ⟨by rfl, by (rintro w ⟨k0, k1, k2, k3⟩; go_simp)⟩) (by assumption) ?_
              simp only [Act.put, List.setIfInBounds_toArray, List.set_cons_zero, List.set_cons_succ]
              refine wpAnyH_take (i := 8) (oi := ({ dst := some 105, op := Op.binOp BinOp.neq 3 (Operand.tmp 102) (Operand.tmp 104) 3, type := 4, pos := "law.go:205", after := #[{ on := 5, ground := Ground.data }, { on := 7, ground := Ground.data }, { on := 4, ground := Ground.guard }], guard := some (4, false) } : Oper)) (v := .bool false) rfl (by kernel_rfl) (by kernel_rfl) (by kernel_rfl) (fun _ _ _ h => h) (Or.inl ⟨by rfl, by (intro w hSw; (try dsimp only at hSw); go_simp)⟩) (by assumption) ?_
              simp only [Act.put, List.setIfInBounds_toArray, List.set_cons_zero, List.set_cons_succ]
              refine wpAnyH_take (i := 9) (oi := ({ dst := some 106, op := Op.pick (Operand.tmp 101) (Operand.const (Value.bool true)) (Operand.tmp 105), type := 4, pos := "law.go:205", after := #[{ on := 4, ground := Ground.data }, { on := 8, ground := Ground.data }, { on := 1, ground := Ground.guard }], guard := some (1, true) } : Oper)) (v := .bool false) rfl (by kernel_rfl) (by kernel_rfl) (by kernel_rfl) (fun _ _ _ h => h) (Or.inl ⟨by rfl, by (intro w hSw; (try dsimp only at hSw); go_simp)⟩) (by assumption) ?_
              simp only [Act.put, List.setIfInBounds_toArray, List.set_cons_zero, List.set_cons_succ]
              refine wpAnyH_take (i := 10) (oi := ({ dst := some 107, op := Op.move (Operand.tmp 106), type := 4, pos := "law.go:205", after := #[{ on := 9, ground := Ground.data }, { on := 4, ground := Ground.chain }, { on := 1, ground := Ground.guard }], guard := some (1, true) } : Oper)) (v := .bool false) rfl (by kernel_rfl) (by kernel_rfl) (by kernel_rfl) (fun _ _ _ h => h) (Or.inl ⟨by rfl, by (intro w hSw; (try dsimp only at hSw); go_simp)⟩) (by assumption) ?_
              simp only [Act.put, List.setIfInBounds_toArray, List.set_cons_zero, List.set_cons_succ]
              refine wpAnyH_take (i := 11) (oi := ({ dst := some 108, op := Op.move (Operand.tmp 7), type := 25, pos := "law.go:205", after := #[{ on := 10, ground := Ground.guard }], guard := some (10, false) } : Oper)) (v := .pointer (some ⟨g, 0, none⟩)) rfl (by kernel_rfl) (by kernel_rfl) (by kernel_rfl) (fun _ _ _ h => h) (Or.inl ⟨by rfl, by (intro w hSw; (try dsimp only at hSw); go_simp)⟩) (by assumption) ?_
              simp only [Act.put, List.setIfInBounds_toArray, List.set_cons_zero, List.set_cons_succ]
              refine wpAnyH_take (i := 12) (oi := ({ dst := some 109, op := Op.fieldAddr 33 (Operand.tmp 9) 0, type := 0, pos := "law.go:205", after := #[{ on := 10, ground := Ground.guard }], guard := some (10, false) } : Oper)) (v := .pointer (some ⟨wr.heap.size, 0, none⟩)) rfl (by kernel_rfl) (by kernel_rfl) (by kernel_rfl) (fun _ _ _ h => h) (Or.inl ⟨by rfl, by (intro w hSw; (try dsimp only at hSw); go_simp)⟩) (by assumption) ?_
              simp only [Act.put, List.setIfInBounds_toArray, List.set_cons_zero, List.set_cons_succ]
              refine wpAnyH_take (i := 13) (oi := ({ dst := some 110, op := Op.load 3 (Operand.tmp 109), type := 3, pos := "law.go:205", after := #[{ on := 12, ground := Ground.data }, { on := 10, ground := Ground.guard }], guard := some (10, false) } : Oper)) (v := .int .i64 o.voter) rfl (by kernel_rfl) (by kernel_rfl) (by kernel_rfl) (fun _ _ _ h => h) (Or.inl ⟨by rfl, by (rintro w ⟨k0, k1, k2, k3⟩; go_simp)⟩) (by assumption) ?_
              simp only [Act.put, List.setIfInBounds_toArray, List.set_cons_zero, List.set_cons_succ]
              refine wpAnyH_take (i := 15) (oi := ({ dst := some 112, op := Op.fieldAddr 33 (Operand.tmp 9) 3, type := 0, pos := "law.go:205", after := #[{ on := 10, ground := Ground.guard }], guard := some (10, false) } : Oper)) (v := .pointer (some ⟨wr.heap.size, 3, none⟩)) rfl (by kernel_rfl) (by kernel_rfl) (by kernel_rfl) (fun _ _ _ h => h) (Or.inl ⟨by rfl, by (intro w hSw; (try dsimp only at hSw); go_simp)⟩) (by assumption) ?_
              simp only [Act.put, List.setIfInBounds_toArray, List.set_cons_zero, List.set_cons_succ]
              refine wpAnyH_take (i := 16) (oi := ({ dst := some 113, op := Op.load 31 (Operand.tmp 112), type := 31, pos := "law.go:205", after := #[{ on := 15, ground := Ground.data }, { on := 10, ground := Ground.guard }], guard := some (10, false) } : Oper)) (v := .slice C q qc) rfl (by kernel_rfl) (by kernel_rfl) (by kernel_rfl) (fun _ _ _ h => h) (Or.inl ⟨by rfl, by (rintro w ⟨k0, k1, k2, k3⟩; go_simp)⟩) (by assumption) ?_
              simp only [Act.put, List.setIfInBounds_toArray, List.set_cons_zero, List.set_cons_succ]
              refine wpAnyH_ready (rs := [14]) (by kernel_rfl) (by simp) ?_
              refine AllReadyH.cons (o := ({ dst := some 111, op := Op.call { callee := Callee.value (Operand.func 25), args := #[Operand.tmp 108, Operand.tmp 110], argTypes := #[25, 3] }, type := 31, pos := "law.go:205", after := #[{ on := 11, ground := Ground.data }, { on := 13, ground := Ground.data }, { on := 10, ground := Ground.chain }, { on := 10, ground := Ground.guard }], guard := some (10, false) } : Oper)) rfl (fun K hK => ?_) AllReadyH.nil
              go_simp
              refine (HLD2.out _ (below_drew hw)).mono ?_
              rintro e w6 ⟨A6, n6, c6, rfl, ho6, hw', hx⟩
              replace kb := bk_keptD kb hx
              clear hx hw
              go_wp2_with fail
              refine hK.out _ _ kb.four (fun hHeld => ?_)
              clear hK K
              try simp only [Act.put, List.setIfInBounds_toArray, List.set_cons_zero, List.set_cons_succ]
              refine wpAnyH_ready (rs := [17]) (by kernel_rfl) (by simp) ?_
              refine AllReadyH.cons (o := ({ dst := some 114, op := Op.call { callee := Callee.value (Operand.func 17), args := #[Operand.tmp 111, Operand.tmp 113], argTypes := #[31, 31] }, type := 4, pos := "law.go:205", after := #[{ on := 14, ground := Ground.data }, { on := 16, ground := Ground.data }, { on := 14, ground := Ground.chain }, { on := 10, ground := Ground.guard }], guard := some (10, false) } : Oper)) rfl (fun K hK => ?_) AllReadyH.nil
              go_simp
              refine (HSB.out _ _ _ _ hw' ho6).mono ?_
              rintro e w7' ⟨rfl, q7, rfl⟩
              replace hw' := below_drewN hw' q7
              replace kb := kb.drewN q7
              clear ho6
              go_wp2_with fail
              refine hK.out _ _ kb.four (fun hHeld => ?_)
              clear hK K
              try simp only [Act.put, List.setIfInBounds_toArray, List.set_cons_zero, List.set_cons_succ]
              refine wpAnyH_take (i := 18) (oi := ({ dst := some 115, op := Op.unOp UnOp.not 4 (Operand.tmp 114), type := 4, pos := "law.go:205", after := #[{ on := 17, ground := Ground.data }, { on := 10, ground := Ground.guard }], guard := some (10, false) } : Oper)) (v := .bool false) rfl (by kernel_rfl) (by kernel_rfl) (by kernel_rfl) (fun _ _ _ h => h) (Or.inl ⟨by rfl, by (intro w hSw; (try dsimp only at hSw); go_simp)⟩) (by assumption) ?_
              simp only [Act.put, List.setIfInBounds_toArray, List.set_cons_zero, List.set_cons_succ]
              refine wpAnyH_take (i := 19) (oi := ({ dst := some 116, op := Op.pick (Operand.tmp 107) (Operand.const (Value.bool true)) (Operand.tmp 115), type := 4, pos := "law.go:205", after := #[{ on := 10, ground := Ground.data }, { on := 18, ground := Ground.data }, { on := 1, ground := Ground.guard }], guard := some (1, true) } : Oper)) (v := .bool false) rfl (by kernel_rfl) (by kernel_rfl) (by kernel_rfl) (fun _ _ _ h => h) (Or.inl ⟨by rfl, by (intro w hSw; (try dsimp only at hSw); go_simp)⟩) (by assumption) ?_
              simp only [Act.put, List.setIfInBounds_toArray, List.set_cons_zero, List.set_cons_succ]
              refine wpAnyH_take (i := 20) (oi := ({ dst := some 117, op := Op.pick (Operand.tmp 98) (Operand.tmp 116) (Operand.const (Value.bool false)), type := 4, pos := "law.go:205", after := #[{ on := 1, ground := Ground.data }, { on := 19, ground := Ground.data }], guard := none } : Oper)) (v := .bool false) rfl (by kernel_rfl) (by kernel_rfl) (by kernel_rfl) (fun _ _ _ h => h) (Or.inl ⟨by rfl, by (intro w hSw; (try dsimp only at hSw); go_simp)⟩) (by assumption) ?_
              simp only [Act.put, List.setIfInBounds_toArray, List.set_cons_zero, List.set_cons_succ]
              refine wpAnyH_take (i := 21) (oi := ({ dst := some 118, op := Op.move (Operand.tmp 117), type := 4, pos := "law.go:205", after := #[{ on := 20, ground := Ground.data }, { on := 17, ground := Ground.chain }], guard := none } : Oper)) (v := .bool false) rfl (by kernel_rfl) (by kernel_rfl) (by kernel_rfl) (fun _ _ _ h => h) (Or.inl ⟨by rfl, by (intro w hSw; (try dsimp only at hSw); go_simp)⟩) (by assumption) ?_
              simp only [Act.put, List.setIfInBounds_toArray, List.set_cons_zero, List.set_cons_succ]
              refine wpAnyH_take (i := 22) (oi := ({ dst := some 119, op := Op.move (Operand.tmp 13), type := 4, pos := "law.go:205", after := #[{ on := 21, ground := Ground.guard }], guard := some (21, false) } : Oper)) (v := .bool true) rfl (by kernel_rfl) (by kernel_rfl) (by kernel_rfl) (fun _ _ _ h => h) (Or.inl ⟨by rfl, by (intro w hSw; (try dsimp only at hSw); go_simp)⟩) (by assumption) ?_
              simp only [Act.put, List.setIfInBounds_toArray, List.set_cons_zero, List.set_cons_succ]
              refine wpAnyH_take (i := 23) (oi := ({ dst := some 120, op := Op.unOp UnOp.not 4 (Operand.tmp 119), type := 4, pos := "law.go:205", after := #[{ on := 22, ground := Ground.data }, { on := 21, ground := Ground.guard }], guard := some (21, false) } : Oper)) (v := .bool false) rfl (by kernel_rfl) (by kernel_rfl) (by kernel_rfl) (fun _ _ _ h => h) (Or.inl ⟨by rfl, by (intro w hSw; (try dsimp only at hSw); go_simp)⟩) (by assumption) ?_
              simp only [Act.put, List.setIfInBounds_toArray, List.set_cons_zero, List.set_cons_succ]
              refine wpAnyH_take (i := 24) (oi := ({ dst := some 121, op := Op.move (Operand.tmp 120), type := 4, pos := "law.go:205", after := #[{ on := 23, ground := Ground.data }, { on := 21, ground := Ground.chain }, { on := 21, ground := Ground.guard }], guard := some (21, false) } : Oper)) (v := .bool false) rfl (by kernel_rfl) (by kernel_rfl) (by kernel_rfl) (fun _ _ _ h => h) (Or.inl ⟨by rfl, by (intro w hSw; (try dsimp only at hSw); go_simp)⟩) (by assumption) ?_
              simp only [Act.put, List.setIfInBounds_toArray, List.set_cons_zero, List.set_cons_succ]
              refine wpAnyH_take (i := 25) (oi := ({ dst := some 122, op := Op.move (Operand.tmp 15), type := 4, pos := "law.go:205", after := #[{ on := 24, ground := Ground.guard }], guard := some (24, true) } : Oper)) (v := undef) rfl (by kernel_rfl) (by kernel_rfl) (by kernel_rfl) (fun _ _ _ h => h) (Or.inr ⟨by rfl, rfl⟩) (by assumption) ?_
              simp only [Act.put, List.setIfInBounds_toArray, List.set_cons_zero, List.set_cons_succ]
              refine wpAnyH_take (i := 26) (oi := ({ dst := some 123, op := Op.move (Operand.tmp 11), type := 4, pos := "law.go:205", after := #[{ on := 24, ground := Ground.guard }], guard := some (24, true) } : Oper)) (v := undef) rfl (by kernel_rfl) (by kernel_rfl) (by kernel_rfl) (fun _ _ _ h => h) (Or.inr ⟨by rfl, rfl⟩) (by assumption) ?_
              simp only [Act.put, List.setIfInBounds_toArray, List.set_cons_zero, List.set_cons_succ]
              refine wpAnyH_take (i := 27) (oi := ({ dst := some 124, op := Op.binOp BinOp.neq 4 (Operand.tmp 122) (Operand.tmp 123) 4, type := 4, pos := "law.go:205", after := #[{ on := 25, ground := Ground.data }, { on := 26, ground := Ground.data }, { on := 24, ground := Ground.guard }], guard := some (24, true) } : Oper)) (v := undef) rfl (by kernel_rfl) (by kernel_rfl) (by kernel_rfl) (fun _ _ _ h => h) (Or.inr ⟨by rfl, rfl⟩) (by assumption) ?_
              simp only [Act.put, List.setIfInBounds_toArray, List.set_cons_zero, List.set_cons_succ]
              refine wpAnyH_take (i := 28) (oi := ({ dst := some 125, op := Op.move (Operand.tmp 124), type := 4, pos := "law.go:205", after := #[{ on := 27, ground := Ground.data }, { on := 24, ground := Ground.chain }, { on := 24, ground := Ground.guard }], guard := some (24, true) } : Oper)) (v := undef) rfl (by kernel_rfl) (by kernel_rfl) (by kernel_rfl) (fun _ _ _ h => h) (Or.inr ⟨by rfl, rfl⟩) (by assumption) ?_
              simp only [Act.put, List.setIfInBounds_toArray, List.set_cons_zero, List.set_cons_succ]
              refine wpAnyH_take (i := 29) (oi := ({ dst := some 126, op := Op.move (Operand.tmp 14), type := 3, pos := "law.go:205", after := #[{ on := 28, ground := Ground.guard }], guard := some (28, false) } : Oper)) (v := undef) rfl (by kernel_rfl) (by kernel_rfl) (by kernel_rfl) (fun _ _ _ h => h) (Or.inr ⟨by rfl, rfl⟩) (by assumption) ?_
              simp only [Act.put, List.setIfInBounds_toArray, List.set_cons_zero, List.set_cons_succ]
              refine wpAnyH_take (i := 30) (oi := ({ dst := some 127, op := Op.move (Operand.tmp 10), type := 3, pos := "law.go:205", after := #[{ on := 28, ground := Ground.guard }], guard := some (28, false) } : Oper)) (v := undef) rfl (by kernel_rfl) (by kernel_rfl) (by kernel_rfl) (fun _ _ _ h => h) (Or.inr ⟨by rfl, rfl⟩) (by assumption) ?_
              simp only [Act.put, List.setIfInBounds_toArray, List.set_cons_zero, List.set_cons_succ]
              refine wpAnyH_take (i := 31) (oi := ({ dst := some 128, op := Op.binOp BinOp.neq 3 (Operand.tmp 126) (Operand.tmp 127) 3, type := 4, pos := "law.go:205", after := #[{ on := 29, ground := Ground.data }, { on := 30, ground := Ground.data }, { on := 28, ground := Ground.guard }], guard := some (28, false) } : Oper)) (v := undef) rfl (by kernel_rfl) (by kernel_rfl) (by kernel_rfl) (fun _ _ _ h => h) (Or.inr ⟨by rfl, rfl⟩) (by assumption) ?_
              simp only [Act.put, List.setIfInBounds_toArray, List.set_cons_zero, List.set_cons_succ]
              refine wpAnyH_take (i := 32) (oi := ({ dst := some 129, op := Op.pick (Operand.tmp 125) (Operand.const (Value.bool true)) (Operand.tmp 128), type := 4, pos := "law.go:205", after := #[{ on := 28, ground := Ground.data }, { on := 31, ground := Ground.data }, { on := 24, ground := Ground.guard }], guard := some (24, true) } : Oper)) (v := undef) rfl (by kernel_rfl) (by kernel_rfl) (by kernel_rfl) (fun _ _ _ h => h) (Or.inr ⟨by rfl, rfl⟩) (by assumption) ?_
              simp only [Act.put, List.setIfInBounds_toArray, List.set_cons_zero, List.set_cons_succ]
              refine wpAnyH_take (i := 33) (oi := ({ dst := some 130, op := Op.move (Operand.tmp 129), type := 4, pos := "law.go:205", after := #[{ on := 32, ground := Ground.data }, { on := 28, ground := Ground.chain }, { on := 24, ground := Ground.guard }], guard := some (24, true) } : Oper)) (v := undef) rfl (by kernel_rfl) (by kernel_rfl) (by kernel_rfl) (fun _ _ _ h => h) (Or.inr ⟨by rfl, rfl⟩) (by assumption) ?_
              simp only [Act.put, List.setIfInBounds_toArray, List.set_cons_zero, List.set_cons_succ]
              refine wpAnyH_take (i := 34) (oi := ({ dst := some 131, op := Op.move (Operand.tmp 7), type := 25, pos := "law.go:205", after := #[{ on := 33, ground := Ground.guard }], guard := some (33, false) } : Oper)) (v := undef) rfl (by kernel_rfl) (by kernel_rfl) (by kernel_rfl) (fun _ _ _ h => h) (Or.inr ⟨by rfl, rfl⟩) (by assumption) ?_
              simp only [Act.put, List.setIfInBounds_toArray, List.set_cons_zero, List.set_cons_succ]
              refine wpAnyH_take (i := 35) (oi := ({ dst := some 132, op := Op.fieldAddr 33 (Operand.tmp 9) 0, type := 0, pos := "law.go:205", after := #[{ on := 33, ground := Ground.guard }], guard := some (33, false) } : Oper)) (v := undef) rfl (by kernel_rfl) (by kernel_rfl) (by kernel_rfl) (fun _ _ _ h => h) (Or.inr ⟨by rfl, rfl⟩) (by assumption) ?_
              simp only [Act.put, List.setIfInBounds_toArray, List.set_cons_zero, List.set_cons_succ]
              refine wpAnyH_take (i := 36) (oi := ({ dst := some 133, op := Op.load 3 (Operand.tmp 132), type := 3, pos := "law.go:205", after := #[{ on := 35, ground := Ground.data }, { on := 33, ground := Ground.guard }], guard := some (33, false) } : Oper)) (v := undef) rfl (by kernel_rfl) (by kernel_rfl) (by kernel_rfl) (fun _ _ _ h => h) (Or.inr ⟨by rfl, rfl⟩) (by assumption) ?_
              simp only [Act.put, List.setIfInBounds_toArray, List.set_cons_zero, List.set_cons_succ]
              refine wpAnyH_take (i := 37) (oi := ({ dst := some 134, op := Op.call { callee := Callee.value (Operand.func 25), args := #[Operand.tmp 131, Operand.tmp 133], argTypes := #[25, 3] }, type := 31, pos := "law.go:205", after := #[{ on := 34, ground := Ground.data }, { on := 36, ground := Ground.data }, { on := 33, ground := Ground.chain }, { on := 33, ground := Ground.guard }], guard := some (33, false) } : Oper)) (v := undef) rfl (by kernel_rfl) (by kernel_rfl) (by kernel_rfl) (fun _ _ _ h => h) (Or.inr ⟨by rfl, rfl⟩) (by assumption) ?_
              simp only [Act.put, List.setIfInBounds_toArray, List.set_cons_zero, List.set_cons_succ]
              refine wpAnyH_take (i := 38) (oi := ({ dst := some 135, op := Op.move (Operand.tmp 12), type := 31, pos := "law.go:205", after := #[{ on := 33, ground := Ground.guard }], guard := some (33, false) } : Oper)) (v := undef) rfl (by kernel_rfl) (by kernel_rfl) (by kernel_rfl) (fun _ _ _ h => h) (Or.inr ⟨by rfl, rfl⟩) (by assumption) ?_
              simp only [Act.put, List.setIfInBounds_toArray, List.set_cons_zero, List.set_cons_succ]
              refine wpAnyH_take (i := 39) (oi := ({ dst := some 136, op := Op.call { callee := Callee.value (Operand.func 17), args := #[Operand.tmp 134, Operand.tmp 135], argTypes := #[31, 31] }, type := 4, pos := "law.go:205", after := #[{ on := 37, ground := Ground.data }, { on := 38, ground := Ground.data }, { on := 37, ground := Ground.chain }, { on := 33, ground := Ground.guard }], guard := some (33, false) } : Oper)) (v := undef) rfl (by kernel_rfl) (by kernel_rfl) (by kernel_rfl) (fun _ _ _ h => h) (Or.inr ⟨by rfl, rfl⟩) (by assumption) ?_
              simp only [Act.put, List.setIfInBounds_toArray, List.set_cons_zero, List.set_cons_succ]
              refine wpAnyH_take (i := 40) (oi := ({ dst := some 137, op := Op.unOp UnOp.not 4 (Operand.tmp 136), type := 4, pos := "law.go:205", after := #[{ on := 39, ground := Ground.data }, { on := 33, ground := Ground.guard }], guard := some (33, false) } : Oper)) (v := undef) rfl (by kernel_rfl) (by kernel_rfl) (by kernel_rfl) (fun _ _ _ h => h) (Or.inr ⟨by rfl, rfl⟩) (by assumption) ?_
              simp only [Act.put, List.setIfInBounds_toArray, List.set_cons_zero, List.set_cons_succ]
              refine wpAnyH_take (i := 41) (oi := ({ dst := some 138, op := Op.pick (Operand.tmp 130) (Operand.const (Value.bool true)) (Operand.tmp 137), type := 4, pos := "law.go:205", after := #[{ on := 33, ground := Ground.data }, { on := 40, ground := Ground.data }, { on := 24, ground := Ground.guard }], guard := some (24, true) } : Oper)) (v := undef) rfl (by kernel_rfl) (by kernel_rfl) (by kernel_rfl) (fun _ _ _ h => h) (Or.inr ⟨by rfl, rfl⟩) (by assumption) ?_
              simp only [Act.put, List.setIfInBounds_toArray, List.set_cons_zero, List.set_cons_succ]
              refine wpAnyH_take (i := 42) (oi := ({ dst := some 139, op := Op.pick (Operand.tmp 121) (Operand.tmp 138) (Operand.const (Value.bool false)), type := 4, pos := "law.go:205", after := #[{ on := 24, ground := Ground.data }, { on := 41, ground := Ground.data }, { on := 21, ground := Ground.guard }], guard := some (21, false) } : Oper)) (v := .bool false) rfl (by kernel_rfl) (by kernel_rfl) (by kernel_rfl) (fun _ _ _ h => h) (Or.inl ⟨by rfl, by (intro w hSw; (try dsimp only at hSw); go_simp)⟩) (by assumption) ?_
              simp only [Act.put, List.setIfInBounds_toArray, List.set_cons_zero, List.set_cons_succ]
              refine wpAnyH_take (i := 43) (oi := ({ dst := some 140, op := Op.pick (Operand.tmp 118) (Operand.const (Value.bool true)) (Operand.tmp 139), type := 4, pos := "law.go:205", after := #[{ on := 21, ground := Ground.data }, { on := 42, ground := Ground.data }], guard := none } : Oper)) (v := .bool false) rfl (by kernel_rfl) (by kernel_rfl) (by kernel_rfl) (fun _ _ _ h => h) (Or.inl ⟨by rfl, by (intro w hSw; (try dsimp only at hSw); go_simp)⟩) (by assumption) ?_
              simp only [Act.put, List.setIfInBounds_toArray, List.set_cons_zero, List.set_cons_succ]
              refine wpAnyH_done (by kernel_rfl) ?_ _
              refine NoPanic.normal ?_
              have HE := Lib.hid (HON8.out.kept hw')
              clear hw' kb
              go_wp2_with fail
              go_roundw
              case rel => exact ⟨j + 1, F7, _, by omega, by go_num, HE.out⟩
              case measure => simp [intOf]; omega
            · have HQ := HAA.out.2 rfl
              obtain ⟨e1, e2, e3⟩ := HQ
              subst b2 r2 ll2
              have HSB := Lib.hid (show ∀ X A6 n6 c6, Below wc.heap.size wc X → OwnB X wc.heap.size A6 n6 c6 ll1 → Calls Try.prog 17 #[.slice A6 n6 c6, .slice A4 n4 c4] X (fun e w' => e = .returned (.bool true) ∧ ∃ k, w' = X.drewN k) from
                fun X A6 n6 c6 hX ho => sameBytes_self A6 A4 n6 n4 c6 c4 X ll1 ho.rd (HK8.out.below hX).rd (Nat.le_trans (own_cap ho).1 (own_cap ho).2))
              have g1 : (r1 != r1) = false := by simp
              have g2 : (b1 != b1) = false := by simp
              have kb := HKB8.out
              have hw := Below.refl wc.heap.size wc
              go_wp2_with fail
              refine wp_region_noPanic ?_
              refine wp_region_held_drew (S := fun w' => w'.cell? ⟨wr.heap.size, 0, none⟩ = some (.int .i64 o.voter)) (by kernel_rfl) ((bk_drew kb).at_ (i := 0) rfl) (fun hHeld => ?_)
              refine wpAnyH_take (i := 0) (oi := ({ dst := some 97, op := Op.move (Operand.tmp 13), type := 4, pos := "law.go:205", after := #[], guard := none } : Oper)) (v := .bool false) rfl (by kernel_rfl) (by kernel_rfl) (by kernel_rfl) (fun _ _ _ h => h) (Or.inl ⟨by rfl, by (intro w hSw; (try dsimp only at hSw); go_simp)⟩) (by assumption) ?_
              simp only [Act.put, List.setIfInBounds_toArray, List.set_cons_zero, List.set_cons_succ]
              refine wpAnyH_take (i := 1) (oi := ({ dst := some 98, op := Op.move (Operand.tmp 97), type := 4, pos := "law.go:205", after := #[{ on := 0, ground := Ground.data }], guard := none } : Oper)) (v := .bool false) rfl (by kernel_rfl) (by kernel_rfl) (by kernel_rfl) (fun _ _ _ h => h) (Or.inl ⟨by rfl, by (intro w hSw; (try dsimp only at hSw); go_simp)⟩) (by assumption) ?_
              simp only [Act.put, List.setIfInBounds_toArray, List.set_cons_zero, List.set_cons_succ]
              refine wpAnyH_take (i := 2) (oi := ({ dst := some 99, op := Op.move (Operand.tmp 15), type := 4, pos := "law.go:205", after := #[{ on := 1, ground := Ground.guard }], guard := some (1, true) } : Oper)) (v := undef) rfl (by kernel_rfl) (by kernel_rfl) (by kernel_rfl) (fun _ _ _ h => h) (Or.inr ⟨by rfl, rfl⟩) (by assumption) ?_
              simp only [Act.put, List.setIfInBounds_toArray, List.set_cons_zero, List.set_cons_succ]
              refine wpAnyH_take (i := 3) (oi := ({ dst := some 100, op := Op.unOp UnOp.not 4 (Operand.tmp 99), type := 4, pos := "law.go:205", after := #[{ on := 2, ground := Ground.data }, { on := 1, ground := Ground.guard }], guard := some (1, true) } : Oper)) (v := undef) rfl (by kernel_rfl) (by kernel_rfl) (by kernel_rfl) (fun _ _ _ h => h) (Or.inr ⟨by rfl, rfl⟩) (by assumption) ?_
              simp only [Act.put, List.setIfInBounds_toArray, List.set_cons_zero, List.set_cons_succ]
              refine wpAnyH_take (i := 4) (oi := ({ dst := some 101, op := Op.move (Operand.tmp 100), type := 4, pos := "law.go:205", after := #[{ on := 3, ground := Ground.data }, { on := 1, ground := Ground.chain }, { on := 1, ground := Ground.guard }], guard := some (1, true) } : Oper)) (v := undef) rfl (by kernel_rfl) (by kernel_rfl) (by kernel_rfl) (fun _ _ _ h => h) (Or.inr ⟨by rfl, rfl⟩) (by assumption) ?_
              simp only [Act.put, List.setIfInBounds_toArray, List.set_cons_zero, List.set_cons_succ]
              refine wpAnyH_take (i := 5) (oi := ({ dst := some 102, op := Op.move (Operand.tmp 14), type := 3, pos := "law.go:205", after := #[{ on := 4, ground := Ground.guard }], guard := some (4, false) } : Oper)) (v := undef) rfl (by kernel_rfl) (by kernel_rfl) (by kernel_rfl) (fun _ _ _ h => h) (Or.inr ⟨by rfl, rfl⟩) (by assumption) ?_
              simp only [Act.put, List.setIfInBounds_toArray, List.set_cons_zero, List.set_cons_succ]
              refine wpAnyH_take (i := 6) (oi := ({ dst := some 103, op := Op.fieldAddr 33 (Operand.tmp 9) 1, type := 0, pos := "law.go:205", after := #[{ on := 4, ground := Ground.guard }], guard := some (4, false) } : Oper)) (v := undef) rfl (by kernel_rfl) (by kernel_rfl) (by kernel_rfl) (fun _ _ _ h => h) (Or.inr ⟨by rfl, rfl⟩) (by assumption) ?_
              simp only [Act.put, List.setIfInBounds_toArray, List.set_cons_zero, List.set_cons_succ]
              refine wpAnyH_take (i := 7) (oi := ({ dst := some 104, op := Op.load 3 (Operand.tmp 103), type := 3, pos := "law.go:205", after := #[{ on := 6, ground := Ground.data }, { on := 4, ground := Ground.guard }], guard := some (4, false) } : Oper)) (v := undef) rfl (by kernel_rfl) (by kernel_rfl) (by kernel_rfl) (fun _ _ _ h => h) (Or.inr ⟨by rfl, rfl⟩) (by assumption) ?_
              simp only [Act.put, List.setIfInBounds_toArray, List.set_cons_zero, List.set_cons_succ]
              refine wpAnyH_take (i := 8) (oi := ({ dst := some 105, op := Op.binOp BinOp.neq 3 (Operand.tmp 102) (Operand.tmp 104) 3, type := 4, pos := "law.go:205", after := #[{ on := 5, ground := Ground.data }, { on := 7, ground := Ground.data }, { on := 4, ground := Ground.guard }], guard := some (4, false) } : Oper)) (v := undef) rfl (by kernel_rfl) (by kernel_rfl) (by kernel_rfl) (fun _ _ _ h => h) (Or.inr ⟨by rfl, rfl⟩) (by assumption) ?_
              simp only [Act.put, List.setIfInBounds_toArray, List.set_cons_zero, List.set_cons_succ]
              refine wpAnyH_take (i := 9) (oi := ({ dst := some 106, op := Op.pick (Operand.tmp 101) (Operand.const (Value.bool true)) (Operand.tmp 105), type := 4, pos := "law.go:205", after := #[{ on := 4, ground := Ground.data }, { on := 8, ground := Ground.data }, { on := 1, ground := Ground.guard }], guard := some (1, true) } : Oper)) (v := undef) rfl (by kernel_rfl) (by kernel_rfl) (by kernel_rfl) (fun _ _ _ h => h) (Or.inr ⟨by rfl, rfl⟩) (by assumption) ?_
              simp only [Act.put, List.setIfInBounds_toArray, List.set_cons_zero, List.set_cons_succ]
              refine wpAnyH_take (i := 10) (oi := ({ dst := some 107, op := Op.move (Operand.tmp 106), type := 4, pos := "law.go:205", after := #[{ on := 9, ground := Ground.data }, { on := 4, ground := Ground.chain }, { on := 1, ground := Ground.guard }], guard := some (1, true) } : Oper)) (v := undef) rfl (by kernel_rfl) (by kernel_rfl) (by kernel_rfl) (fun _ _ _ h => h) (Or.inr ⟨by rfl, rfl⟩) (by assumption) ?_
              simp only [Act.put, List.setIfInBounds_toArray, List.set_cons_zero, List.set_cons_succ]
              refine wpAnyH_take (i := 11) (oi := ({ dst := some 108, op := Op.move (Operand.tmp 7), type := 25, pos := "law.go:205", after := #[{ on := 10, ground := Ground.guard }], guard := some (10, false) } : Oper)) (v := undef) rfl (by kernel_rfl) (by kernel_rfl) (by kernel_rfl) (fun _ _ _ h => h) (Or.inr ⟨by rfl, rfl⟩) (by assumption) ?_
              simp only [Act.put, List.setIfInBounds_toArray, List.set_cons_zero, List.set_cons_succ]
              refine wpAnyH_take (i := 12) (oi := ({ dst := some 109, op := Op.fieldAddr 33 (Operand.tmp 9) 0, type := 0, pos := "law.go:205", after := #[{ on := 10, ground := Ground.guard }], guard := some (10, false) } : Oper)) (v := undef) rfl (by kernel_rfl) (by kernel_rfl) (by kernel_rfl) (fun _ _ _ h => h) (Or.inr ⟨by rfl, rfl⟩) (by assumption) ?_
              simp only [Act.put, List.setIfInBounds_toArray, List.set_cons_zero, List.set_cons_succ]
              refine wpAnyH_take (i := 13) (oi := ({ dst := some 110, op := Op.load 3 (Operand.tmp 109), type := 3, pos := "law.go:205", after := #[{ on := 12, ground := Ground.data }, { on := 10, ground := Ground.guard }], guard := some (10, false) } : Oper)) (v := undef) rfl (by kernel_rfl) (by kernel_rfl) (by kernel_rfl) (fun _ _ _ h => h) (Or.inr ⟨by rfl, rfl⟩) (by assumption) ?_
              simp only [Act.put, List.setIfInBounds_toArray, List.set_cons_zero, List.set_cons_succ]
              refine wpAnyH_take (i := 14) (oi := ({ dst := some 111, op := Op.call { callee := Callee.value (Operand.func 25), args := #[Operand.tmp 108, Operand.tmp 110], argTypes := #[25, 3] }, type := 31, pos := "law.go:205", after := #[{ on := 11, ground := Ground.data }, { on := 13, ground := Ground.data }, { on := 10, ground := Ground.chain }, { on := 10, ground := Ground.guard }], guard := some (10, false) } : Oper)) (v := undef) rfl (by kernel_rfl) (by kernel_rfl) (by kernel_rfl) (fun _ _ _ h => h) (Or.inr ⟨by rfl, rfl⟩) (by assumption) ?_
              simp only [Act.put, List.setIfInBounds_toArray, List.set_cons_zero, List.set_cons_succ]
              refine wpAnyH_take (i := 15) (oi := ({ dst := some 112, op := Op.fieldAddr 33 (Operand.tmp 9) 3, type := 0, pos := "law.go:205", after := #[{ on := 10, ground := Ground.guard }], guard := some (10, false) } : Oper)) (v := undef) rfl (by kernel_rfl) (by kernel_rfl) (by kernel_rfl) (fun _ _ _ h => h) (Or.inr ⟨by rfl, rfl⟩) (by assumption) ?_
              simp only [Act.put, List.setIfInBounds_toArray, List.set_cons_zero, List.set_cons_succ]
              refine wpAnyH_take (i := 16) (oi := ({ dst := some 113, op := Op.load 31 (Operand.tmp 112), type := 31, pos := "law.go:205", after := #[{ on := 15, ground := Ground.data }, { on := 10, ground := Ground.guard }], guard := some (10, false) } : Oper)) (v := undef) rfl (by kernel_rfl) (by kernel_rfl) (by kernel_rfl) (fun _ _ _ h => h) (Or.inr ⟨by rfl, rfl⟩) (by assumption) ?_
              simp only [Act.put, List.setIfInBounds_toArray, List.set_cons_zero, List.set_cons_succ]
              refine wpAnyH_take (i := 17) (oi := ({ dst := some 114, op := Op.call { callee := Callee.value (Operand.func 17), args := #[Operand.tmp 111, Operand.tmp 113], argTypes := #[31, 31] }, type := 4, pos := "law.go:205", after := #[{ on := 14, ground := Ground.data }, { on := 16, ground := Ground.data }, { on := 14, ground := Ground.chain }, { on := 10, ground := Ground.guard }], guard := some (10, false) } : Oper)) (v := undef) rfl (by kernel_rfl) (by kernel_rfl) (by kernel_rfl) (fun _ _ _ h => h) (Or.inr ⟨by rfl, rfl⟩) (by assumption) ?_
              simp only [Act.put, List.setIfInBounds_toArray, List.set_cons_zero, List.set_cons_succ]
              refine wpAnyH_take (i := 18) (oi := ({ dst := some 115, op := Op.unOp UnOp.not 4 (Operand.tmp 114), type := 4, pos := "law.go:205", after := #[{ on := 17, ground := Ground.data }, { on := 10, ground := Ground.guard }], guard := some (10, false) } : Oper)) (v := undef) rfl (by kernel_rfl) (by kernel_rfl) (by kernel_rfl) (fun _ _ _ h => h) (Or.inr ⟨by rfl, rfl⟩) (by assumption) ?_
              simp only [Act.put, List.setIfInBounds_toArray, List.set_cons_zero, List.set_cons_succ]
              refine wpAnyH_take (i := 19) (oi := ({ dst := some 116, op := Op.pick (Operand.tmp 107) (Operand.const (Value.bool true)) (Operand.tmp 115), type := 4, pos := "law.go:205", after := #[{ on := 10, ground := Ground.data }, { on := 18, ground := Ground.data }, { on := 1, ground := Ground.guard }], guard := some (1, true) } : Oper)) (v := undef) rfl (by kernel_rfl) (by kernel_rfl) (by kernel_rfl) (fun _ _ _ h => h) (Or.inr ⟨by rfl, rfl⟩) (by assumption) ?_
              simp only [Act.put, List.setIfInBounds_toArray, List.set_cons_zero, List.set_cons_succ]
              refine wpAnyH_take (i := 20) (oi := ({ dst := some 117, op := Op.pick (Operand.tmp 98) (Operand.tmp 116) (Operand.const (Value.bool false)), type := 4, pos := "law.go:205", after := #[{ on := 1, ground := Ground.data }, { on := 19, ground := Ground.data }], guard := none } : Oper)) (v := .bool false) rfl (by kernel_rfl) (by kernel_rfl) (by kernel_rfl) (fun _ _ _ h => h) (Or.inl ⟨by rfl, by (intro w hSw; (try dsimp only at hSw); go_simp)⟩) (by assumption) ?_
              simp only [Act.put, List.setIfInBounds_toArray, List.set_cons_zero, List.set_cons_succ]
              refine wpAnyH_take (i := 21) (oi := ({ dst := some 118, op := Op.move (Operand.tmp 117), type := 4, pos := "law.go:205", after := #[{ on := 20, ground := Ground.data }, { on := 17, ground := Ground.chain }], guard := none } : Oper)) (v := .bool false) rfl (by kernel_rfl) (by kernel_rfl) (by kernel_rfl) (fun _ _ _ h => h) (Or.inl ⟨by rfl, by (intro w hSw; (try dsimp only at hSw); go_simp)⟩) (by assumption) ?_
              simp only [Act.put, List.setIfInBounds_toArray, List.set_cons_zero, List.set_cons_succ]
              refine wpAnyH_take (i := 22) (oi := ({ dst := some 119, op := Op.move (Operand.tmp 13), type := 4, pos := "law.go:205", after := #[{ on := 21, ground := Ground.guard }], guard := some (21, false) } : Oper)) (v := .bool false) rfl (by kernel_rfl) (by kernel_rfl) (by kernel_rfl) (fun _ _ _ h => h) (Or.inl ⟨by rfl, by (intro w hSw; (try dsimp only at hSw); go_simp)⟩) (by assumption) ?_
              simp only [Act.put, List.setIfInBounds_toArray, List.set_cons_zero, List.set_cons_succ]
              refine wpAnyH_take (i := 23) (oi := ({ dst := some 120, op := Op.unOp UnOp.not 4 (Operand.tmp 119), type := 4, pos := "law.go:205", after := #[{ on := 22, ground := Ground.data }, { on := 21, ground := Ground.guard }], guard := some (21, false) } : Oper)) (v := .bool true) rfl (by kernel_rfl) (by kernel_rfl) (by kernel_rfl) (fun _ _ _ h => h) (Or.inl ⟨by rfl, by (intro w hSw; (try dsimp only at hSw); go_simp)⟩) (by assumption) ?_
              simp only [Act.put, List.setIfInBounds_toArray, List.set_cons_zero, List.set_cons_succ]
              refine wpAnyH_take (i := 24) (oi := ({ dst := some 121, op := Op.move (Operand.tmp 120), type := 4, pos := "law.go:205", after := #[{ on := 23, ground := Ground.data }, { on := 21, ground := Ground.chain }, { on := 21, ground := Ground.guard }], guard := some (21, false) } : Oper)) (v := .bool true) rfl (by kernel_rfl) (by kernel_rfl) (by kernel_rfl) (fun _ _ _ h => h) (Or.inl ⟨by rfl, by (intro w hSw; (try dsimp only at hSw); go_simp)⟩) (by assumption) ?_
              simp only [Act.put, List.setIfInBounds_toArray, List.set_cons_zero, List.set_cons_succ]
              refine wpAnyH_take (i := 25) (oi := ({ dst := some 122, op := Op.move (Operand.tmp 15), type := 4, pos := "law.go:205", after := #[{ on := 24, ground := Ground.guard }], guard := some (24, true) } : Oper)) (v := .bool b1) rfl (by kernel_rfl) (by kernel_rfl) (by kernel_rfl) (fun _ _ _ h => h) (Or.inl ⟨by rfl, by (intro w hSw; (try dsimp only at hSw); go_simp)⟩) (by assumption) ?_
              simp only [Act.put, List.setIfInBounds_toArray, List.set_cons_zero, List.set_cons_succ]
              refine wpAnyH_take (i := 26) (oi := ({ dst := some 123, op := Op.move (Operand.tmp 11), type := 4, pos := "law.go:205", after := #[{ on := 24, ground := Ground.guard }], guard := some (24, true) } : Oper)) (v := .bool b1) rfl (by kernel_rfl) (by kernel_rfl) (by kernel_rfl) (fun _ _ _ h => h) (Or.inl ⟨by rfl, by (intro w hSw; (try dsimp only at hSw); go_simp)⟩) (by assumption) ?_
              simp only [Act.put, List.setIfInBounds_toArray, List.set_cons_zero, List.set_cons_succ]
              refine wpAnyH_take (i := 27) (oi := ({ dst := some 124, op := Op.binOp BinOp.neq 4 (Operand.tmp 122) (Operand.tmp 123) 4, type := 4, pos := "law.go:205", after := #[{ on := 25, ground := Ground.data }, { on := 26, ground := Ground.data }, { on := 24, ground := Ground.guard }], guard := some (24, true) } : Oper)) (v := .bool false) rfl (by kernel_rfl) (by kernel_rfl) (by kernel_rfl) (fun _ _ _ h => h) (Or.inl ⟨by rfl, by (intro w hSw; (try dsimp only at hSw); go_simp)⟩) (by assumption) ?_
              simp only [Act.put, List.setIfInBounds_toArray, List.set_cons_zero, List.set_cons_succ]
              refine wpAnyH_take (i := 28) (oi := ({ dst := some 125, op := Op.move (Operand.tmp 124), type := 4, pos := "law.go:205", after := #[{ on := 27, ground := Ground.data }, { on := 24, ground := Ground.chain }, { on := 24, ground := Ground.guard }], guard := some (24, true) } : Oper)) (v := .bool false) rfl (by kernel_rfl) (by kernel_rfl) (by kernel_rfl) (fun _ _ _ h => h) (Or.inl ⟨by rfl, by (intro w hSw; (try dsimp only at hSw); go_simp)⟩) (by assumption) ?_
              simp only [Act.put, List.setIfInBounds_toArray, List.set_cons_zero, List.set_cons_succ]
              refine wpAnyH_take (i := 29) (oi := ({ dst := some 126, op := Op.move (Operand.tmp 14), type := 3, pos := "law.go:205", after := #[{ on := 28, ground := Ground.guard }], guard := some (28, false) } : Oper)) (v := .int .i64 r1) rfl (by kernel_rfl) (by kernel_rfl) (by kernel_rfl) (fun _ _ _ h => h) (Or.inl ⟨by rfl, by (intro w hSw; (try dsimp only at hSw); go_simp)⟩) (by assumption) ?_
              simp only [Act.put, List.setIfInBounds_toArray, List.set_cons_zero, List.set_cons_succ]
              refine wpAnyH_take (i := 30) (oi := ({ dst := some 127, op := Op.move (Operand.tmp 10), type := 3, pos := "law.go:205", after := #[{ on := 28, ground := Ground.guard }], guard := some (28, false) } : Oper)) (v := .int .i64 r1) rfl (by kernel_rfl) (by kernel_rfl) (by kernel_rfl) (fun _ _ _ h => h) (Or.inl ⟨by rfl, by (intro w hSw; (try dsimp only at hSw); go_simp)⟩) (by assumption) ?_
              simp only [Act.put, List.setIfInBounds_toArray, List.set_cons_zero, List.set_cons_succ]
              refine wpAnyH_take (i := 31) (oi := ({ dst := some 128, op := Op.binOp BinOp.neq 3 (Operand.tmp 126) (Operand.tmp 127) 3, type := 4, pos := "law.go:205", after := #[{ on := 29, ground := Ground.data }, { on := 30, ground := Ground.data }, { on := 28, ground := Ground.guard }], guard := some (28, false) } : Oper)) (v := .bool false) rfl (by kernel_rfl) (by kernel_rfl) (by kernel_rfl) (fun _ _ _ h => h) (Or.inl ⟨by rfl, by (intro w hSw; (try dsimp only at hSw); go_simp)⟩) (by assumption) ?_
              simp only [Act.put, List.setIfInBounds_toArray, List.set_cons_zero, List.set_cons_succ]
              refine wpAnyH_take (i := 32) (oi := ({ dst := some 129, op := Op.pick (Operand.tmp 125) (Operand.const (Value.bool true)) (Operand.tmp 128), type := 4, pos := "law.go:205", after := #[{ on := 28, ground := Ground.data }, { on := 31, ground := Ground.data }, { on := 24, ground := Ground.guard }], guard := some (24, true) } : Oper)) (v := .bool false) rfl (by kernel_rfl) (by kernel_rfl) (by kernel_rfl) (fun _ _ _ h => h) (Or.inl ⟨by rfl, by (intro w hSw; (try dsimp only at hSw); go_simp)⟩) (by assumption) ?_
              simp only [Act.put, List.setIfInBounds_toArray, List.set_cons_zero, List.set_cons_succ]
              refine wpAnyH_take (i := 33) (oi := ({ dst := some 130, op := Op.move (Operand.tmp 129), type := 4, pos := "law.go:205", after := #[{ on := 32, ground := Ground.data }, { on := 28, ground := Ground.chain }, { on := 24, ground := Ground.guard }], guard := some (24, true) } : Oper)) (v := .bool false) rfl (by kernel_rfl) (by kernel_rfl) (by kernel_rfl) (fun _ _ _ h => h) (Or.inl ⟨by rfl, by (intro w hSw; (try dsimp only at hSw); go_simp)⟩) (by assumption) ?_
              simp only [Act.put, List.setIfInBounds_toArray, List.set_cons_zero, List.set_cons_succ]
              refine wpAnyH_take (i := 34) (oi := ({ dst := some 131, op := Op.move (Operand.tmp 7), type := 25, pos := "law.go:205", after := #[{ on := 33, ground := Ground.guard }], guard := some (33, false) } : Oper)) (v := .pointer (some ⟨g, 0, none⟩)) rfl (by kernel_rfl) (by kernel_rfl) (by kernel_rfl) (fun _ _ _ h => h) (Or.inl ⟨by rfl, by (intro w hSw; (try dsimp only at hSw); go_simp)⟩) (by assumption) ?_
              simp only [Act.put, List.setIfInBounds_toArray, List.set_cons_zero, List.set_cons_succ]
              refine wpAnyH_take (i := 35) (oi := ({ dst := some 132, op := Op.fieldAddr 33 (Operand.tmp 9) 0, type := 0, pos := "law.go:205", after := #[{ on := 33, ground := Ground.guard }], guard := some (33, false) } : Oper)) (v := .pointer (some ⟨wr.heap.size, 0, none⟩)) rfl (by kernel_rfl) (by kernel_rfl) (by kernel_rfl) (fun _ _ _ h => h) (Or.inl ⟨by rfl, by (intro w hSw; (try dsimp only at hSw); go_simp)⟩) (by assumption) ?_
              simp only [Act.put, List.setIfInBounds_toArray, List.set_cons_zero, List.set_cons_succ]
              refine wpAnyH_take (i := 36) (oi := ({ dst := some 133, op := Op.load 3 (Operand.tmp 132), type := 3, pos := "law.go:205", after := #[{ on := 35, ground := Ground.data }, { on := 33, ground := Ground.guard }], guard := some (33, false) } : Oper)) (v := .int .i64 o.voter) rfl (by kernel_rfl) (by kernel_rfl) (by kernel_rfl) (fun _ _ _ h => h) (Or.inl ⟨by rfl, by (intro w hSw; (try dsimp only at hSw); go_simp)⟩) (by assumption) ?_
              simp only [Act.put, List.setIfInBounds_toArray, List.set_cons_zero, List.set_cons_succ]
              refine wpAnyH_take (i := 38) (oi := ({ dst := some 135, op := Op.move (Operand.tmp 12), type := 31, pos := "law.go:205", after := #[{ on := 33, ground := Ground.guard }], guard := some (33, false) } : Oper)) (v := .slice A4 n4 c4) rfl (by kernel_rfl) (by kernel_rfl) (by kernel_rfl) (fun _ _ _ h => h) (Or.inl ⟨by rfl, by (intro w hSw; (try dsimp only at hSw); go_simp)⟩) (by assumption) ?_
              simp only [Act.put, List.setIfInBounds_toArray, List.set_cons_zero, List.set_cons_succ]
              refine wpAnyH_ready (rs := [37]) (by kernel_rfl) (by simp) ?_
              refine AllReadyH.cons (o := ({ dst := some 134, op := Op.call { callee := Callee.value (Operand.func 25), args := #[Operand.tmp 131, Operand.tmp 133], argTypes := #[25, 3] }, type := 31, pos := "law.go:205", after := #[{ on := 34, ground := Ground.data }, { on := 36, ground := Ground.data }, { on := 33, ground := Ground.chain }, { on := 33, ground := Ground.guard }], guard := some (33, false) } : Oper)) rfl (fun K hK => ?_) AllReadyH.nil
              go_simp
              refine (HLD2.out _ (below_drew hw)).mono ?_
              rintro e w6 ⟨A6, n6, c6, rfl, ho6, hw', hx⟩
              replace kb := bk_keptD kb hx
              clear hx hw
              go_wp2_with fail
              refine hK.out _ _ (kb.at_ (i := 0) rfl) (fun hHeld => ?_)
              clear hK K
              try simp only [Act.put, List.setIfInBounds_toArray, List.set_cons_zero, List.set_cons_succ]
              refine wpAnyH_ready (rs := [39]) (by kernel_rfl) (by simp) ?_
              refine AllReadyH.cons (o := ({ dst := some 136, op := Op.call { callee := Callee.value (Operand.func 17), args := #[Operand.tmp 134, Operand.tmp 135], argTypes := #[31, 31] }, type := 4, pos := "law.go:205", after := #[{ on := 37, ground := Ground.data }, { on := 38, ground := Ground.data }, { on := 37, ground := Ground.chain }, { on := 33, ground := Ground.guard }], guard := some (33, false) } : Oper)) rfl (fun K hK => ?_) AllReadyH.nil
              go_simp
              refine (HSB.out _ _ _ _ hw' ho6).mono ?_
              rintro e w7' ⟨rfl, q7, rfl⟩
              replace hw' := below_drewN hw' q7
              replace kb := kb.drewN q7
              clear ho6
              go_wp2_with fail
              refine hK.out _ _ (kb.at_ (i := 0) rfl) (fun hHeld => ?_)
              clear hK K
              try simp only [Act.put, List.setIfInBounds_toArray, List.set_cons_zero, List.set_cons_succ]
              refine wpAnyH_take (i := 40) (oi := ({ dst := some 137, op := Op.unOp UnOp.not 4 (Operand.tmp 136), type := 4, pos := "law.go:205", after := #[{ on := 39, ground := Ground.data }, { on := 33, ground := Ground.guard }], guard := some (33, false) } : Oper)) (v := .bool false) rfl (by kernel_rfl) (by kernel_rfl) (by kernel_rfl) (fun _ _ _ h => h) (Or.inl ⟨by rfl, by (intro w hSw; (try dsimp only at hSw); go_simp)⟩) (by assumption) ?_
              simp only [Act.put, List.setIfInBounds_toArray, List.set_cons_zero, List.set_cons_succ]
              refine wpAnyH_take (i := 41) (oi := ({ dst := some 138, op := Op.pick (Operand.tmp 130) (Operand.const (Value.bool true)) (Operand.tmp 137), type := 4, pos := "law.go:205", after := #[{ on := 33, ground := Ground.data }, { on := 40, ground := Ground.data }, { on := 24, ground := Ground.guard }], guard := some (24, true) } : Oper)) (v := .bool false) rfl (by kernel_rfl) (by kernel_rfl) (by kernel_rfl) (fun _ _ _ h => h) (Or.inl ⟨by rfl, by (intro w hSw; (try dsimp only at hSw); go_simp)⟩) (by assumption) ?_
              simp only [Act.put, List.setIfInBounds_toArray, List.set_cons_zero, List.set_cons_succ]
              refine wpAnyH_take (i := 42) (oi := ({ dst := some 139, op := Op.pick (Operand.tmp 121) (Operand.tmp 138) (Operand.const (Value.bool false)), type := 4, pos := "law.go:205", after := #[{ on := 24, ground := Ground.data }, { on := 41, ground := Ground.data }, { on := 21, ground := Ground.guard }], guard := some (21, false) } : Oper)) (v := .bool false) rfl (by kernel_rfl) (by kernel_rfl) (by kernel_rfl) (fun _ _ _ h => h) (Or.inl ⟨by rfl, by (intro w hSw; (try dsimp only at hSw); go_simp)⟩) (by assumption) ?_
              simp only [Act.put, List.setIfInBounds_toArray, List.set_cons_zero, List.set_cons_succ]
              refine wpAnyH_take (i := 43) (oi := ({ dst := some 140, op := Op.pick (Operand.tmp 118) (Operand.const (Value.bool true)) (Operand.tmp 139), type := 4, pos := "law.go:205", after := #[{ on := 21, ground := Ground.data }, { on := 42, ground := Ground.data }], guard := none } : Oper)) (v := .bool false) rfl (by kernel_rfl) (by kernel_rfl) (by kernel_rfl) (fun _ _ _ h => h) (Or.inl ⟨by rfl, by (intro w hSw; (try dsimp only at hSw); go_simp)⟩) (by assumption) ?_
              simp only [Act.put, List.setIfInBounds_toArray, List.set_cons_zero, List.set_cons_succ]
              refine wpAnyH_done (by kernel_rfl) ?_ _
              refine NoPanic.normal ?_
              have HE := Lib.hid (HON8.out.kept hw')
              clear hw' kb
              go_wp2_with fail
              go_roundw
              case rel => exact ⟨j + 1, F7, _, by omega, by go_num, HE.out⟩
              case measure => simp [intOf]; omega
      · have HB := Lib.hid hon3.be
        clear hon3
        go_wp2_with fail
        go_ret
        exact ⟨rfl, HB.out⟩
end Go.Proofs.Ytckmjpbkcpmdpaa
