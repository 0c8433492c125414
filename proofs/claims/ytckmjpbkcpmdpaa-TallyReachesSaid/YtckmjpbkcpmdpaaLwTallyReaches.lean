/-
  TallyReaches: the law's walk. No statement.
-/
import Derived.Test.YtckmjpbkcpmdpaaTallyLaw
import Derived.Test.YtckmjpbkcpmdpaaTallyFacts
import Derived.Deep.RegionHeld3
namespace Go.Proofs.Ytckmjpbkcpmdpaa
open Go.RowKit Go.Sort Go.Shelf
set_option linter.unusedVariables false
set_option maxRecDepth 100000

set_option maxHeartbeats 6400000 in
theorem tallyReaches_walk (w : World) (n : Int) (hn0 : (Lit.int .i64 n).wf = true) (v : Value) (ops : List Ov) (hv : InOvs w v ops) (k : Int) (hk0 : (Lit.int .i64 k).wf = true) :
    Calls Try.prog 8 #[.int .i64 n, v, .int .i64 k] w (Tr w) := by
  obtain ⟨A, m, c, rfl, hmc, hcm, hro, _⟩ := hv
  have hn := wf_i64 hn0
  have hk := wf_i64 hk0
  simp only [maxLen] at hcm
  have hm63 : m ≤ 9223372036854775807 := by omega
  have HR := Lib.hid hro
  have HAL := Lib.hid (alive_votes w)
  clear hro hn0 hk0 hmc hcm
  go_enter Try.func8, Try.ntmps8
  go_wp2_with fail
  refine HAL.out.mono ?_
  rintro e w1 ⟨rfl, hb1⟩
  have HB1 := Lib.hid hb1
  have HG := Lib.hid (great_votes A m c ops w1 (HR.out.below hb1) hm63)
  clear hb1
  go_wp2_with fail
  refine HG.out.mono ?_
  rintro e w2 ⟨b, q2, rfl, hsz, rfl⟩
  have HB2 := Lib.hid (below_drewN HB1.out q2)
  cases b with
  | true =>
    clear hsz
    go_wp2_with fail
    go_ret
    exact ⟨rfl, HB2.out⟩
  | false =>
    have HSZ := Lib.hid (hsz rfl)
    clear hsz
    by_cases k1 : k < 1
    · go_wp2_with fail
      go_ret
      exact ⟨rfl, HB2.out⟩
    · by_cases k2 : 100 < k
      · go_wp2_with fail
        go_ret
        exact ⟨rfl, HB2.out⟩
      · have HNW := Lib.hid (new_tally n (w1.drewN q2) hn)
        have hm200 : m ≤ 200 := by have := HSZ.out.2; have := HR.out.1; omega
        go_wp2_with fail
        refine HNW.out.mono ?_
        rintro e w3 hmd
        obtain ⟨g, F, rfl, hon, _, _⟩ := MadeT.on HB2.out HB2.out.size hmd
        generalize tyVoters n = N at *
        have HON := Lib.hid hon
        clear hmd hon HNW HG HAL
        go_wp2_with fail
        go_loopw [8] (fun i wr => ∃ (j : Nat) (F : Nat → Prop) (vs : List Vo), j ≤ m ∧ i = .int .i64 j ∧ TOn w.heap.size w wr F g N vs) (fun i _ => m - (intOf i).toNat)
        case atStart => exact ⟨0, F, [], by omega, rfl, HON.out⟩
        case round =>
          obtain ⟨j, F3, vs, hj, rfl, hon3⟩ := hrel
          by_cases hlt : j < m
          · have hjx : j < ops.length := by have := HR.out.1; omega
            have hx : ops[j]? = some ops[j] := List.getElem?_eq_getElem hjx
            obtain ⟨x, B, p, pc, C, q, qc, rfl, hf, hok⟩ := HR.out.at_ hx
            have hkl := ovW_mem (List.getElem_mem hjx)
            have HW := Lib.hid (show ops[j].key.length ≤ 4000 ∧ ops[j].load.length ≤ 4000 by have := HSZ.out.1; omega)
            generalize ops[j] = o at *
            have hb := hon3.be
            have hw := Below.refl wr.heap.size wr
            have HF4 := Lib.hid hf
            have HS := Lib.hid (show ∀ X, Below w.heap.size w X → X.cell? (x.add (j * 4)) = some (.int .i64 o.voter) ∧ X.cell? ⟨(x.add (j * 4)).block, (x.add (j * 4)).off + 1, none⟩ = some (.int .i64 o.rank) ∧ X.cell? ⟨(x.add (j * 4)).block, (x.add (j * 4)).off + 2, none⟩ = some (.slice B p pc) from fun X hX => ⟨(HF4.out.below hX).c0, (HF4.out.below hX).c1, (HF4.out.below hX).c2⟩)
            have hp : p ≤ 1099511627776 := by have := HF4.out.kB.len; have := HW.out; omega
            have HCB := Lib.hid (show ∀ X, Below w.heap.size w X → Below wr.heap.size wr X → Calls Try.prog 16 #[.slice B p pc] X (fun e w' => ∃ A n c, e = .returned (.slice A n c) ∧ OwnB w' wr.heap.size A n c o.key ∧ Below w.heap.size w w' ∧ Below wr.heap.size wr w') from
              fun X hX hY => (copyBytes_any B p pc o.key X (HF4.out.kB.rd.below hX) hp).mono fun e w' ⟨A, n, c, he, ho, hb⟩ => ⟨A, n, c, he, ho.more hY.size, below_next hX hb hX.size, below_next hY hb hY.size⟩)
            have HON3 := Lib.hid hon3
            have HPU := Lib.hid (show ∀ X A5 n5 c5, Below wr.heap.size wr X → OwnB X wr.heap.size A5 n5 c5 o.key → Calls Try.prog 15 #[.pointer (some ⟨g, 0, none⟩), .int .i64 o.voter, .int .i64 o.rank, .slice A5 n5 c5, .slice none 0 0] X (fun e w' => e = .returned (.bool (tyTakes N vs o.voter o.rank)) ∧ Below w.heap.size w w' ∧ ∃ F' vs', TOn w.heap.size w w' F' g N vs') from
              fun X A5 n5 c5 hX ho => (put_any o.voter o.rank o.key [] A5 n5 c5 none 0 0 F3 g N vs X (HON3.out.kept hX).tl ho.rd (off_lt HON3.out.lt (fun b e => (ho.block b.block (by rw [e]; rfl)))) (Rd.nil_ _ _) (fun b e => by cases e) (by have := HW.out; omega) (by simp) hok.2.1.2).mono fun e w' hd => by
                obtain ⟨he, F', h1, _, _⟩ := (HON3.out.kept hX).put hd
                exact ⟨he, h1.be, F', _, h1⟩)
            have y1 : (0 : Int) ≤ (j : Int) := by omega
            have y2 : (j : Int) < (m : Int) := by omega
            have w1' : IntKind.i64.wrap ((j : Int) + 1) = (j : Int) + 1 := by simp only [IntKind.wrap, IntKind.bits, IntKind.signed]; simp; omega
            clear hf hkl hx hjx hok hon3
            go_wp2_with fail
            go_region_held3 (fun w' => w'.cell? (x.add (j * 4)) = some (.int .i64 o.voter) ∧ w'.cell? ⟨(x.add (j * 4)).block, (x.add (j * 4)).off + 1, none⟩ = some (.int .i64 o.rank) ∧ w'.cell? ⟨(x.add (j * 4)).block, (x.add (j * 4)).off + 2, none⟩ = some (.slice B p pc)) (first | with_reducible exact HS.out _ hb | with_reducible exact HS.out _ (below_drew hb) | go_keep)
              (first
              | (go_at_call 16; with_reducible refine (HCB.out _ ?_ ?_).mono ?_
                 focus first | with_reducible exact hb | with_reducible exact below_drew hb
                 focus first | with_reducible exact hw | with_reducible exact below_drew hw
                 rintro e w5 ⟨A5, n5, c5, rfl, ho5, hb', hw'⟩
                 replace hb := hb'
                 replace hw := hw'
                 clear hb' hw')
              | (go_at_call 15; with_reducible refine (HPU.out _ _ _ _ ?_ ?_).mono ?_
                 focus first | with_reducible exact hw | with_reducible exact below_drew hw
                 focus with_reducible exact ho5
                 rintro e w6 ⟨rfl, hb', F6, vs6, hon6⟩
                 replace hb := hb'
                 clear hb' hw ho5))
            all_goals
              have HON6 := Lib.hid hon6
              clear hb hon6
              go_wp2_with fail
              go_roundw
              case rel => exact ⟨j + 1, F6, vs6, by omega, by go_num, HON6.out⟩
              case measure => simp [intOf]; omega
          · have HRE := Lib.hid (reach_any k F3 g N vs wr hon3.tl hk)
            have HON3 := Lib.hid hon3
            have HSR := Lib.hid hon3.good.srt
            have w1' : IntKind.i64.wrap (k + 1) = k + 1 := by simp only [IntKind.wrap, IntKind.bits, IntKind.signed]; simp; omega
            clear hon3
            go_wp2_with fail
            refine HRE.out.mono ?_
            rintro e w5 ⟨rfl, hb5⟩
            have HON5 := Lib.hid (HON3.out.kept hb5)
            have HRE2 := Lib.hid (reach_any (k + 1) F3 g N vs w5 HON5.out.tl (by omega))
            clear hb5
            go_wp2_with fail
            refine HRE2.out.mono ?_
            rintro e w6 ⟨rfl, hb6⟩
            have HON6 := Lib.hid (HON5.out.kept hb6)
            have HAG := Lib.hid (agree_any k F3 g N vs w6 HON6.out.tl hk)
            clear hb6
            go_wp2_with fail
            refine HAG.out.mono ?_
            rintro e w7 ⟨A7, n7, c7, B7, m7, q7, rfl, hk7, hi7, hb7⟩
            have HON7 := Lib.hid (HON6.out.kept hb7)
            have hF1 := fun h => reach_more HSR.out (k := k) (by omega) h
            have hF2 : (tyAgree vs k).isSome = true → (tyReach vs k).isSome = true ∧ ((tyAgree vs k).getD default).rank ≤ (tyReach vs k).getD 0 ∧ k ≤ (m7 : Int) := fun h => by
              cases e : tyAgree vs k with
              | none => rw [e] at h; cases h
              | some v =>
                rw [e] at hi7
                have h1 := agree_reach HSR.out (k := k) (by omega) e
                have h2 : (tyHaves vs v.rank v.key).length = m7 := hi7.len
                rw [h2] at h1
                exact h1
            clear hk7 hi7 hb7 HRE HRE2 HAG
            generalize (tyReach vs (k + 1)).isSome = b2 at *
            generalize (tyReach vs (k + 1)).getD 0 = r2 at *
            generalize (tyReach vs k).isSome = b1 at *
            generalize (tyReach vs k).getD 0 = r1 at *
            generalize (tyAgree vs k).isSome = b3 at *
            generalize ((tyAgree vs k).getD default).rank = r3 at *
            have h2 : b2 = false ∨ (b2 = true ∧ b1 = true ∧ r2 ≤ r1) := by
              cases b2 with
              | false => exact .inl rfl
              | true => exact .inr ⟨rfl, hF1 rfl⟩
            have h3 : b3 = false ∨ (b3 = true ∧ b1 = true ∧ r3 ≤ r1 ∧ k ≤ (m7 : Int)) := by
              cases b3 with
              | false => exact .inl rfl
              | true => exact .inr ⟨rfl, hF2 rfl⟩
            clear hF1 hF2
            rcases h2 with rfl | ⟨rfl, rfl, g2⟩
            · rcases h3 with rfl | ⟨rfl, rfl, g3, g4⟩
              · go_wp2_with fail
                go_ret
                exact ⟨rfl, HON7.out.be⟩
              · go_wp2_with fail
                go_ret
                exact ⟨rfl, HON7.out.be⟩
            · rcases h3 with rfl | ⟨rfl, _, g3, g4⟩
              · go_wp2_with fail
                go_ret
                exact ⟨rfl, HON7.out.be⟩
              · go_wp2_with fail
                go_ret
                exact ⟨rfl, HON7.out.be⟩
end Go.Proofs.Ytckmjpbkcpmdpaa
