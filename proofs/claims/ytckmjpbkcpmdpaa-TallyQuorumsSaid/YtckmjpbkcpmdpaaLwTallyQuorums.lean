/-
  TallyQuorums: the law's walk. No statement.
-/
import Derived.Test.YtckmjpbkcpmdpaaTallyLaw2
import Derived.Deep.RegionHeld3
namespace Go.Proofs.Ytckmjpbkcpmdpaa
open Go.RowKit Go.Sort Go.Shelf
set_option linter.unusedVariables false
set_option maxRecDepth 100000

set_option maxHeartbeats 6400000 in
theorem tallyQuorums_walk (w : World) (n : Int) (hn0 : (Lit.int .i64 n).wf = true) (v : Value) (ops : List Ov) (hv : InOvs w v ops) (k : Int) (hk0 : (Lit.int .i64 k).wf = true) :
    Calls Try.prog 5 #[.int .i64 n, v, .int .i64 k] w (Tr w) := by
  obtain ⟨A, m, c, rfl, hmc, hcm, hro, _⟩ := hv
  have hn := wf_i64 hn0
  have hk := wf_i64 hk0
  simp only [maxLen] at hcm
  have hm63 : m ≤ 9223372036854775807 := by omega
  have HR := Lib.hid hro
  have HAL := Lib.hid (alive_votes w)
  clear hro hn0 hk0 hmc hcm
  go_enter Try.func5, Try.ntmps5
  go_wp2_with fail
  refine HAL.out.mono ?_
  rintro e w1 ⟨rfl, hb1⟩
  have HB1 := Lib.hid hb1
  have HG := Lib.hid (great_votes A m c ops w1 (HR.out.below hb1) hm63)
  clear hb1
  go_wp2_with fail
  refine HG.out.mono ?_
  rintro e w2 ⟨b, q2, rfl, hsz, rfl⟩
  have HB2 := Lib.hid (below_drewN HB1.out q2)
  cases b with
  | true =>
    clear hsz
    go_wp2_with fail
    go_ret
    exact ⟨rfl, HB2.out⟩
  | false =>
    have HSZ := Lib.hid (hsz rfl)
    clear hsz
    by_cases k1 : n < 1
    · go_wp2_with fail
      go_ret
      exact ⟨rfl, HB2.out⟩
    by_cases k2 : 64 < n
    · go_wp2_with fail
      go_ret
      exact ⟨rfl, HB2.out⟩
    have hq : Int.tdiv n 2 = n / 2 := Int.tdiv_eq_ediv_of_nonneg (by omega)
    by_cases k3 : k ≤ n / 2
    · go_wp2_with fail
      go_ret
      exact ⟨rfl, HB2.out⟩
    by_cases k4 : n < k
    · go_wp2_with fail
      go_ret
      exact ⟨rfl, HB2.out⟩
    have HNW := Lib.hid (new_tally n (w1.drewN q2) hn)
    have hm200 : m ≤ 200 := by have := HSZ.out.2; have := HR.out.1; omega
    go_wp2_with fail
    refine HNW.out.mono ?_
    rintro e w3 hmd
    obtain ⟨g, F, rfl, hon, _, _⟩ := MadeT.on HB2.out HB2.out.size hmd
    have hNk : tyVoters n < 2 * k := by unfold tyVoters; omega
    generalize tyVoters n = N at *
    have HNK := Lib.hid hNk
    have HON := Lib.hid hon
    clear hmd hon HNW HG HAL hNk hq
    go_wp2_with fail
    go_loopw [8, 9] (fun i _ wr => ∃ (j : Nat) (F : Nat → Prop) (vs : List Vo), j ≤ m ∧ i = .int .i64 j ∧ TOn w.heap.size w wr F g N vs) (fun i _ _ => m - (intOf i).toNat)
    case atStart => exact ⟨0, F, [], by omega, rfl, HON.out⟩
    case round =>
      obtain ⟨j, F3, vs, hj, rfl, hon3⟩ := hrel
      by_cases hlt : j < m
      · have hjx : j < ops.length := by have := HR.out.1; omega
        have hx : ops[j]? = some ops[j] := List.getElem?_eq_getElem hjx
        obtain ⟨x, B, p, pc, C, q, qc, rfl, hf, hok⟩ := HR.out.at_ hx
        have hkl := ovW_mem (List.getElem_mem hjx)
        have HW := Lib.hid (show ops[j].key.length ≤ 4000 ∧ ops[j].load.length ≤ 4000 by have := HSZ.out.1; omega)
        generalize ops[j] = o at *
        have HF4 := Lib.hid hf
        have HOK := Lib.hid hok
        have hfr := hf.below hon3.be
        obtain ⟨c0, c1, c2, c3, _, _⟩ := hfr
        have hxl := cell_lt c0
        have kb0 := Bk.new wr 33 [.int .i64 o.voter, .int .i64 o.rank, .slice B p pc, .slice C q qc]
        have HKB := Lib.hid (show Bk (wr.alloc (.cells #[.int .i64 o.voter, .int .i64 o.rank, .slice B p pc, .slice C q qc] 33)) wr.heap.size 33 [.int .i64 o.voter, .int .i64 o.rank, .slice B p pc, .slice C q qc] from kb0)
        have HON3 := Lib.hid (hon3.alloc (.cells #[.int .i64 o.voter, .int .i64 o.rank, .slice B p pc, .slice C q qc] 33))
        have HNF := Lib.hid (show ¬ F3 wr.heap.size from fun hf => by have := hon3.lt _ hf; omega)
        have HAG := Lib.hid (agree_any k F3 g N vs _ HON3.out.tl hk)
        have y1 : (0 : Int) ≤ (j : Int) := by omega
        have y2 : (j : Int) < (m : Int) := by omega
        have w1' : IntKind.i64.wrap ((j : Int) + 1) = (j : Int) + 1 := by simp only [IntKind.wrap, IntKind.bits, IntKind.signed]; simp; omega
        clear hf hok hkl hx hjx hon3 kb0
        go_wp2_with fail
        refine HAG.out.mono ?_
        rintro e w4 ⟨A4, n4, c4, B4, m4, q4, rfl, hk4, hi4, hb4⟩
        have HK4 := Lib.hid hk4
        have HON4 := Lib.hid (HON3.out.kept hb4)
        have kb := HKB.out.kept hb4
        have HKB4 := Lib.hid kb
        clear hk4 hi4 hb4 c0 c1 c2 c3
        go_wp2_with fail
        have HRK := Lib.hid (HF4.out.kB.rd.below HON4.out.be)
        have HRL := Lib.hid (HF4.out.kC.rd.below HON4.out.be)
        have hw := Below.refl w4.heap.size w4
        go_region_held3 (fun w' => w'.cell? ⟨wr.heap.size, 0, none⟩ = some (.int .i64 o.voter) ∧ w'.cell? ⟨wr.heap.size, 1, none⟩ = some (.int .i64 o.rank) ∧ w'.cell? ⟨wr.heap.size, 2, none⟩ = some (.slice B p pc) ∧ w'.cell? ⟨wr.heap.size, 3, none⟩ = some (.slice C q qc)) (first | with_reducible exact (bk_drew kb).four | with_reducible exact kb.four | go_keep)
          (first
          | (go_at_call 16; with_reducible refine (copy_in HRK.out HW.out.1 ?_).mono ?_
             focus first | with_reducible exact hw | with_reducible exact below_drew hw
             rintro e w5 ⟨A5, n5, c5, rfl, ho5, hw', hx⟩
             first | replace kb := kb.kept hx | replace kb := bk_keptD kb hx
             replace hw := hw'
             clear hw' hx)
          | (go_at_call 16; with_reducible refine (copy_in HRL.out HW.out.2 ?_).mono ?_
             focus first | with_reducible exact hw | with_reducible exact below_drew hw
             rintro e w6 ⟨A6, n6, c6, rfl, ho6, hw', hx⟩
             first | replace kb := kb.kept hx | replace kb := bk_keptD kb hx
             first | replace ho5 := ho5.below hx | replace ho5 := ownB_belowD ho5 hx
             replace hw := hw'
             clear hw' hx)
          | (go_at_call 15; with_reducible refine (put_in HON4.out o HOK.out HW.out ?_ ?_ ?_).mono ?_
             focus with_reducible exact hw
             focus with_reducible exact ho5
             focus with_reducible exact ho6
             rintro e w7 ⟨rfl, hb7, F7, hon7, hF7, hc7⟩
             replace kb := hc7.bk kb (fun hf => HNF.out hf)
             have HK7 := Lib.hid (hc7.ownB (HK4.out.below hw) (fun i hi hf => by have h1 := (World.ownsRow.lt HK4.out i hi).1; have h2 := HON3.out.lt _ hf; omega))
             clear hb7 hw ho5 ho6 hF7 hc7))

        all_goals
          have HON7 := Lib.hid hon7
          have HGA := Lib.hid (HON3.out.good.after (o := o) HW.out HOK.out.2.1.2)
          have HAG2 := Lib.hid (agree_any k F7 g N _ w7 hon7.tl hk)
          clear hon7 kb
          go_wp2_with fail
          refine HAG2.out.mono ?_
          rintro e w8 ⟨A8, n8, c8, B8, m8, q8, rfl, hk8, hi8, hb8⟩
          have HON8 := Lib.hid (HON7.out.kept hb8)
          have hF1 : (tyAgree vs k).isSome = true → (tyAgree (tyAfter N vs o.vo) k).isSome = true → ((tyAgree vs k).getD default).rank = ((tyAgree (tyAfter N vs o.vo) k).getD default).rank → ((tyAgree vs k).getD default).key = ((tyAgree (tyAfter N vs o.vo) k).getD default).key := fun h1 h2 h3 => by
            cases e1 : tyAgree vs k with
            | none => rw [e1] at h1; cases h1
            | some u =>
              cases e2 : tyAgree (tyAfter N vs o.vo) k with
              | none => rw [e2] at h2; cases h2
              | some z =>
                rw [e1, e2] at h3
                exact quorums_one HON3.out.good HGA.out HNK.out e1 e2 h3
          have HSB := Lib.hid (fun (h : ((tyAgree vs k).getD default).key = ((tyAgree (tyAfter N vs o.vo) k).getD default).key) => sameBytes_self A4 A8 n4 n8 c4 c8 w8 ((tyAgree vs k).getD default).key (HK7.out.below hb8).rd (by rw [h]; exact hk8.rd) (by have h1 := (own_cap HK7.out).1; have h2 := (own_cap HK7.out).2; omega))
          clear hk8 hi8 hb8 HAG HAG2 HK4 HK7
          generalize ((tyAgree vs k).getD default).key = x1 at *
          generalize ((tyAgree (tyAfter N vs o.vo) k).getD default).key = x2 at *
          generalize ((tyAgree vs k).getD default).rank = r1 at *
          generalize ((tyAgree (tyAfter N vs o.vo) k).getD default).rank = r2 at *
          generalize (tyAgree vs k).isSome = b1 at *
          generalize (tyAgree (tyAfter N vs o.vo) k).isSome = b2 at *
          cases b1 with
          | false =>
            clear hF1
            go_wp2_with fail
            go_roundw
            case rel => exact ⟨j + 1, F7, _, by omega, by go_num, HON8.out⟩
            case measure => simp [intOf]; omega
          | true =>
            cases b2 with
            | false =>
              clear hF1
              go_wp2_with fail
              go_roundw
              case rel => exact ⟨j + 1, F7, _, by omega, by go_num, HON8.out⟩
              case measure => simp [intOf]; omega
            | true =>
              by_cases hr : r1 = r2
              · have HS := Lib.hid (HSB.out (hF1 rfl rfl hr))
                subst hr
                clear hF1
                have z1 : (r1 == r1) = true := by simp
                go_wp2_with fail
                refine HS.out.mono ?_
                rintro e w9 ⟨rfl, q9, rfl⟩
                have HON9 := Lib.hid (HON8.out.drewN q9)
                go_wp2_with fail
                go_roundw
                case rel => exact ⟨j + 1, F7, _, by omega, by go_num, HON9.out⟩
                case measure => simp [intOf]; omega
              · have z1 : (r1 == r2) = false := by simp [hr]
                clear hF1 hr
                go_wp2_with fail
                go_roundw
                case rel => exact ⟨j + 1, F7, _, by omega, by go_num, HON8.out⟩
                case measure => simp [intOf]; omega
      · have HB := Lib.hid hon3.be
        clear hon3
        go_wp2_with fail
        go_ret
        exact ⟨rfl, HB.out⟩
end Go.Proofs.Ytckmjpbkcpmdpaa
