/-
  The document's own tally: Agree. A walk; no statement.
-/
import Derived.Test.YtckmjpbkcpmdpaaTallyRef2
import Derived.Test.YtckmjpbkcpmdpaaTallyRefPlain3
import Derived.Test.YtckmjpbkcpmdpaaTallyDev3
import Derived.Deep.CutRange
import Derived.Deep.RegionHeld3
import Derived.BigQuiet
namespace Go.Proofs.Ytckmjpbkcpmdpaa
open Go.RowKit Go.Sort
set_option linter.unusedVariables false
set_option maxRecDepth 100000

theorem RefAt.at3 {w : World} {G : Nat → Prop} {g n c : Nat} {xs : List Vr} (h : RefAt w G (some ⟨g, 0, none⟩) n c xs) {k : Nat} {x : Vr} (hx : xs[k]? = some x) :
    w.cell? ⟨g, k * 4, none⟩ = some (.bool x.has) ∧ w.cell? ⟨g, k * 4 + 1, none⟩ = some (.int .i64 x.rank) ∧ w.cell? ⟨g, k * 4 + 2, none⟩ = some (.slice x.ka x.kn x.kc) ∧ w.cell? ⟨g, k * 4 + 3, none⟩ = some (.slice x.la x.ln x.lc) := by
  obtain ⟨g', e, _, c0, c1, c2, c3⟩ := h.row.at_ hx
  obtain rfl : g = g' := by injection e with e; injection e
  exact ⟨c0, c1, c2, c3⟩
theorem copy_in2 {Y X : World} {A : Option Addr} {p pc : Nat} {l : List UInt8} (h : Rd Y A p (l.map bv)) (hl : l.length ≤ 1099511627776) (hX : Below Y.heap.size Y X) :
    Calls Try.prog 16 #[.slice A p pc] X (fun e w' => ∃ A n c, e = .returned (.slice A n c) ∧ OwnB w' Y.heap.size A n c l ∧ Below Y.heap.size Y w' ∧ Below X.heap.size X w') :=
  (copyBytes_any A p pc l X (h.below hX) (by have := h.1; rw [List.length_map] at this; omega)).mono fun e w' ⟨A, n, c, he, ho, hb⟩ => ⟨A, n, c, he, ho.more hX.size, below_next hX hb hX.size, hb⟩
/-- the voters of a rank and key, somewhere later -/
theorem with_in {Y X : World} {G : Nat → Prop} {A : Option Addr} {n c : Nat} {xs : List Vr} (h : RefAt Y G A n c xs) (hn64 : n ≤ 64) (hrg : ∀ x ∈ xs, x.key.length ≤ 1099511627776) (hb0 : Bool) (r : Int) (K : Option Addr) (kn kc : Nat) (key : List UInt8) (L : Option Addr) (ln lc : Nat) (hk : Rd Y K kn (key.map bv)) (hX : Below Y.heap.size Y X) :
    Calls Try.prog 35 #[.agg #[.slice A n c], .agg #[.bool hb0, .int .i64 r, .slice K kn kc, .slice L ln lc]] X (fun e w' => ∃ A n c, e = .returned (.slice A n c) ∧ OwnI w' Y.heap.size A n c (vrHaves xs r key) ∧ Below Y.heap.size Y w' ∧ Below X.heap.size X w') :=
  (refWith_at hb0 r K kn kc key L ln lc G A n c xs X (h.kept hX) hn64 hrg (hk.below hX)).mono fun e w' ⟨A, n, c, he, ho, hb⟩ => ⟨A, n, c, he, ho.more hX.size, below_next hX hb hX.size, hb⟩
set_option maxHeartbeats 12800000 in
theorem refAgree_any (z : Int) (G : Nat → Prop) (A : Option Addr) (n c : Nat) (N : Int) (vs : List Vo) (w : World) (h : RefM w G A n c N vs) (hn64 : n ≤ 64) (hz : -9223372036854775808 ≤ z ∧ z ≤ 9223372036854775807) :
    Calls Try.prog 19 #[.agg #[.slice A n c], .int .i64 z] w (AgreeP vs (tyAgree vs z) w) := by
  obtain ⟨hg, xs, h, ho⟩ := h
  have hl := h.row.len
  have HL := Lib.hid hl
  have HT := Lib.hid h
  have HRG := Lib.hid (fun x hx => (ho.rng x hx).1)
  have HH := Lib.hid (fun r key => ho.haves hg.srt r key)
  have HEND := Lib.hid (fun b => ABest.end_ (k := z) (b := b) ho hg.srt)
  have hb1 := (Below.refl w.heap.size w).alloc (Nat.le_refl _) (.cells #[.slice A n c] 29)
  have HB := Lib.hid hb1
  have HK := Lib.hid (Bk.new w 29 [.slice A n c])
  have hkk : 1 ≤ max z 1 ∧ max z 1 ≤ 9223372036854775807 := by omega
  have hcase : (z < 1 ∧ max z 1 = 1) ∨ (¬ z < 1 ∧ max z 1 = z) := by omega
  clear h ho hg hb1 hl
  rcases hcase with ⟨h1, he⟩ | ⟨h1, he⟩
  all_goals
    have HE := Lib.hid he
    clear he hkk
    go_enter Try.func19, Try.ntmps19
    go_wp2_with fail
    go_loopw [8, 9, 10] (fun b i _ wr => ∃ (k : Nat) (bi : Int), k ≤ n ∧ b = .int .i64 bi ∧ i = .int .i64 k ∧ ABest xs z k bi ∧ Below w.heap.size w wr ∧ Bk wr w.heap.size 29 [.slice A n c]) (fun _ i _ _ => n - (intOf i).toNat)
    case atStart => exact ⟨0, -1, by omega, rfl, rfl, ABest.zero _ _, HB.out, HK.out⟩
    case round =>
      obtain ⟨k, bi, hk, rfl, rfl, hbest, hb, kt⟩ := hrel
      have t0 := kt.at_ (i := 0) rfl
      by_cases hlt : k < n
      · have hkx : k < xs.length := by have := HL.out; omega
        have hx : xs[k]? = some xs[k] := List.getElem?_eq_getElem hkx
        have hmem : xs[k] ∈ xs := List.getElem_mem _
        have hT := HT.out.kept hb
        obtain ⟨g', rfl, hb', c0, c1, c2, c3⟩ := hT.row.at_ hx
        have HX := Lib.hid hx
        have HMEM := Lib.hid hmem
        have HBE := Lib.hid hbest
        have HLT := Lib.hid hlt
        have hks := (hT.rds _ hmem).1
        generalize xs[k] = x at *
        have hba := (Below.refl wr.heap.size wr).alloc (Nat.le_refl _) (.cells #[.bool x.has, .int .i64 x.rank, .slice x.ka x.kn x.kc, .slice x.la x.ln x.lc] 53)
        have HB2 := Lib.hid (below_next hb hba hb.size)
        have HK2 := Lib.hid (kt.kept hba)
        have HKV := Lib.hid (Bk.new wr 53 [.bool x.has, .int .i64 x.rank, .slice x.ka x.kn x.kc, .slice x.la x.ln x.lc])
        have HKS := Lib.hid (hks.below hba)
        have HTA := Lib.hid (hT.kept hba)
        have HW := Lib.hid (with_in HTA.out hn64 HRG.out x.has x.rank x.ka x.kn x.kc x.key x.la x.ln x.lc HKS.out (Below.refl _ _))
        have y1 : (0 : Int) ≤ (k : Int) := by omega
        have y2 : (k : Int) < (n : Int) := by omega
        have w1 : IntKind.i64.wrap ((k : Int) + 1) = (k : Int) + 1 := by simp only [IntKind.wrap, IntKind.bits, IntKind.signed]; simp; omega
        have hs0 := hb.size
        clear hb kt hbest hx hkx hmem hT hks hba
        cases hhas : x.has with
        | false =>
          have HN := Lib.hid (HBE.out.skip HX.out (fun q => by rw [q.1] at hhas; cases hhas))
          rw [hhas] at c0 HB2 HK2
          clear hhas
          go_wp2_with fail
          go_roundw
          case rel => exact ⟨k + 1, bi, HLT.out, rfl, by go_num, HN.out, HB2.out, HK2.out⟩
          case measure => have := HLT.out; simp [intOf]; omega
        | true =>
          have HHAS := Lib.hid hhas
          rw [hhas] at c0 HB2 HK2 HKV HTA HKS HW
          clear hhas
          have t1 := HK2.out.at_ (i := 0) rfl
          go_wp2_with fail
          refine HW.out.mono ?_
          rintro e w3 ⟨A3, n3, c3', rfl, ho3, hb3, _⟩
          have hl3 := ho3.len
          have HB3 := Lib.hid (below_next HB2.out hb3 HB2.out.size)
          have HK3 := Lib.hid (HK2.out.kept hb3)
          obtain ⟨v0, v1, v2, v3⟩ := (HKV.out.kept hb3).four
          have HT3 := Lib.hid (HTA.out.kept hb3)
          have hkd := HKS.out.below hb3
          have HCX := Lib.hid (fun q => conv_rd x.ka x.kn x.kc x.key (w3.drewN q) hkd)
          have t3 := HK3.out.at_ (i := 0) rfl
          have hcd : (max z 1 ≤ (n3 : Int)) → Cand xs z x := fun q => ⟨HHAS.out, by rw [hl3]; exact q⟩
          have hcn : (¬ max z 1 ≤ (n3 : Int)) → ¬ Cand xs z x := fun q p => q (by rw [← hl3]; exact p.2)
          have hz3 : n3 ≤ 64 := by rw [← hl3]; have := vrHaves_len xs xs.length x.rank x.key; rw [List.take_of_length_le (Nat.le_refl _)] at this; have := HL.out; omega
          by_cases q : max z 1 ≤ (n3 : Int)
          · have hcand := hcd q
            have a1 : ¬ (n3 : Int) < 1 := by omega
            have a2 : ¬ (n3 : Int) < z := by omega
            have hd : bi = -1 ∨ ∃ (m : Nat) (y : Vr), bi = (m : Int) ∧ m < k ∧ xs[m]? = some y := by
              rcases HBE.out with ⟨q2, _⟩ | ⟨m, y, q2, q3, q4, _⟩
              · exact .inl q2
              · exact .inr ⟨m, y, q2, q3, q4⟩
            rcases hd with rfl | ⟨m, y, rfl, hm, hy⟩
            · have HN := Lib.hid (HBE.out.take HX.out hcand (.inl rfl))
              clear q hcand hcd hcn ho3 hb3 hkd
              go_wp2_with fail
              go_quiet (fail)
              go_wp2_with fail
              go_roundw
              case rel => exact ⟨k + 1, _, HLT.out, rfl, by go_num, HN.out, below_drewN HB3.out _, HK3.out.drewN _⟩
              case measure => have := HLT.out; simp [intOf]; omega
            · obtain ⟨m0, m1, m2, m3⟩ := HT3.out.at3 hy
              have hyk := (HT3.out.rds _ (List.mem_of_getElem? hy)).1
              have HCY := Lib.hid (fun q => conv_rd y.ka y.kn y.kc y.key (w3.drewN q) hyk)
              have u2 : (0 : Int) ≤ (m : Int) := by omega
              have u3 : (m : Int) < (n : Int) := by omega
              have u4 : ¬ (m : Int) < 0 := by omega
              have u5 : decide ((m : Int) < 0) = false := decide_eq_false u4
              have hq : y.rank < x.rank ∨ (¬ y.rank < x.rank ∧ (x.rank == y.rank) = true ∧ cb x.key y.key < 0) ∨ (¬ y.rank < x.rank ∧ (x.rank == y.rank) = true ∧ ¬ cb x.key y.key < 0) ∨ (¬ y.rank < x.rank ∧ (x.rank == y.rank) = false) := by
                by_cases p1 : y.rank < x.rank
                · exact .inl p1
                · by_cases p2 : x.rank = y.rank
                  · have p3 : (x.rank == y.rank) = true := by simp [p2]
                    by_cases p4 : cb x.key y.key < 0
                    · exact .inr (.inl ⟨p1, p3, p4⟩)
                    · exact .inr (.inr (.inl ⟨p1, p3, p4⟩))
                  · exact .inr (.inr (.inr ⟨p1, by simp [p2]⟩))
              rcases hq with q5 | ⟨q5, q6, q7⟩ | ⟨q5, q6, q7⟩ | ⟨q5, q6⟩
              · have HN := Lib.hid (HBE.out.take HX.out hcand (.inr ⟨m, y, rfl, hy, .inl q5⟩))
                have d5 : decide (y.rank < x.rank) = true := decide_eq_true q5
                clear q hcand hcd hcn ho3 hb3 hkd hy hyk hm
                go_wp2_with fail
                go_quiet (fail)
                go_wp2_with fail
                go_roundw
                case rel => exact ⟨k + 1, _, HLT.out, rfl, by go_num, HN.out, below_drewN HB3.out _, HK3.out.drewN _⟩
                case measure => have := HLT.out; simp [intOf]; omega
              · have HN := Lib.hid (HBE.out.take HX.out hcand (.inr ⟨m, y, rfl, hy, .inr ⟨by have := eq_of_beq q6; omega, q7⟩⟩))
                have d5 : decide (y.rank < x.rank) = false := decide_eq_false q5
                have d7 : Op.bytesLess x.key y.key = true := by rw [less_cb]; exact decide_eq_true q7
                have cx := HCX.out
                have cy := HCY.out
                clear q hcand hcd hcn ho3 hb3 hkd hy hyk hm
                go_wp2_with fail
                go_quiet (fail)
                go_wp2_with fail
                go_roundw
                case rel => exact ⟨k + 1, _, HLT.out, rfl, by go_num, HN.out, below_drewN HB3.out _, HK3.out.drewN _⟩
                case measure => have := HLT.out; simp [intOf]; omega
              · have HN := Lib.hid (HBE.out.stay HX.out hy (.inr ⟨eq_of_beq q6, by have := cb_swap x.key y.key; omega⟩))
                have d5 : decide (y.rank < x.rank) = false := decide_eq_false q5
                have d7 : Op.bytesLess x.key y.key = false := by rw [less_cb]; exact decide_eq_false q7
                have cx := HCX.out
                have cy := HCY.out
                clear q hcand hcd hcn ho3 hb3 hkd hy hyk hm
                go_wp2_with fail
                go_quiet (fail)
                go_wp2_with fail
                go_roundw
                case rel => exact ⟨k + 1, _, HLT.out, rfl, by go_num, HN.out, below_drewN HB3.out _, HK3.out.drewN _⟩
                case measure => have := HLT.out; simp [intOf]; omega
              · have HN := Lib.hid (HBE.out.stay HX.out hy (.inl (by have p : x.rank ≠ y.rank := by { intro e; rw [e] at q6; simp at q6 }; omega)))
                have d5 : decide (y.rank < x.rank) = false := decide_eq_false q5
                clear q hcand hcd hcn ho3 hb3 hkd hy hyk hm
                go_wp2_with fail
                go_quiet (fail)
                go_wp2_with fail
                go_roundw
                case rel => exact ⟨k + 1, _, HLT.out, rfl, by go_num, HN.out, below_drewN HB3.out _, HK3.out.drewN _⟩
                case measure => have := HLT.out; simp [intOf]; omega
          · have HN := Lib.hid (HBE.out.skip HX.out (hcn q))
            have a1 : (n3 : Int) < max z 1 := by omega
            rw [HE.out] at a1
            clear q hcd hcn ho3 hb3 hkd
            go_wp2_with fail
            go_roundw
            case rel => exact ⟨k + 1, bi, HLT.out, rfl, by go_num, HN.out, HB3.out, HK3.out⟩
            case measure => have := HLT.out; simp [intOf]; omega
      · have e : k = xs.length := by have := HL.out; omega
        have z2 : ¬ (k : Int) < (n : Int) := by omega
        have HB4 := Lib.hid hb
        rcases HEND.out bi (by rw [← e]; exact hbest) with ⟨rfl, he⟩ | ⟨m, y, v, rfl, hy, he, he2, he3⟩
        · have HE2 := Lib.hid he
          clear hb kt hbest he
          go_wp2_with fail
          refine bodyPost_ret_by (results_tmp4 rfl _ _ _) rfl ?_
          rw [HE2.out]
          exact ⟨none, 0, 0, none, 0, 0, rfl, OwnB.nil_ _ _, OwnI.nil_ _ _, HB4.out⟩
        · have hT := HT.out.kept hb
          have HE2 := Lib.hid (And.intro he (And.intro he2 he3))
          obtain ⟨g', rfl, hb', c0, c1, c2, c3⟩ := hT.row.at_ hy
          have hmx := (List.getElem?_eq_some_iff.1 hy).1
          have hmem := List.mem_of_getElem? hy
          have m2 : (0 : Int) ≤ (m : Int) := by omega
          have m3 : (m : Int) < (n : Int) := by omega
          have m4 : ¬ (m : Int) < 0 := by omega
          have hba := (Below.refl wr.heap.size wr).alloc (Nat.le_refl _) (.cells #[.bool y.has, .int .i64 y.rank, .slice y.ka y.kn y.kc, .slice y.la y.ln y.lc] 53)
          have HBA := Lib.hid (below_next hb hba hb.size)
          have HTA := Lib.hid (hT.kept hba)
          have HKS := Lib.hid ((hT.rds _ hmem).1.below hba)
          have HKL := Lib.hid (HRG.out y hmem)
          have hs0 := hb.size
          have kv := Bk.new wr 53 [.bool y.has, .int .i64 y.rank, .slice y.ka y.kn y.kc, .slice y.la y.ln y.lc]
          have kt2 := kt.kept hba
          clear hb kt hbest he hy he2 he3 hT hmem hba
          go_wp2_with fail
          have hw := Below.refl (wr.alloc (.cells #[.bool y.has, .int .i64 y.rank, .slice y.ka y.kn y.kc, .slice y.la y.ln y.lc] 53)).heap.size (wr.alloc (.cells #[.bool y.has, .int .i64 y.rank, .slice y.ka y.kn y.kc, .slice y.la y.ln y.lc] 53))
          go_region_held3 (fun w' => w'.cell? ⟨w.heap.size, 0, none⟩ = some (.slice (some ⟨g', 0, none⟩) n c) ∧ w'.cell? ⟨wr.heap.size, 0, none⟩ = some (.bool y.has) ∧ w'.cell? ⟨wr.heap.size, 1, none⟩ = some (.int .i64 y.rank) ∧ w'.cell? ⟨wr.heap.size, 2, none⟩ = some (.slice y.ka y.kn y.kc) ∧ w'.cell? ⟨wr.heap.size, 3, none⟩ = some (.slice y.la y.ln y.lc))
            (first | with_reducible exact ⟨(bk_drew kt2).at_ (i := 0) rfl, (bk_drew kv).four⟩ | with_reducible exact ⟨kt2.at_ (i := 0) rfl, kv.four⟩ | go_keep)
            (first
            | (go_at_call 16; with_reducible refine (copy_in2 HKS.out HKL.out ?_).mono ?_
               focus first | with_reducible exact hw | with_reducible exact below_drew hw
               rintro e w5 ⟨A5, n5, c5, rfl, ho5, hw', hx⟩
               first | replace kv := kv.kept hx | replace kv := bk_keptD kv hx
               first | replace kt2 := kt2.kept hx | replace kt2 := bk_keptD kt2 hx
               first | replace ho6 := ho6.below hx | skip
               replace hw := hw'
               clear hw' hx)
            | (go_at_call 35; with_reducible refine (with_in HTA.out hn64 HRG.out y.has y.rank y.ka y.kn y.kc y.key y.la y.ln y.lc HKS.out ?_).mono ?_
               focus first | with_reducible exact hw | with_reducible exact below_drew hw
               rintro e w6 ⟨A6, n6, c6, rfl, ho6, hw', hx⟩
               first | replace kv := kv.kept hx | replace kv := bk_keptD kv hx
               first | replace kt2 := kt2.kept hx | replace kt2 := bk_keptD kt2 hx
               first | replace ho5 := ho5.below hx | replace ho5 := ownB_belowD ho5 hx | skip
               replace hw := hw'
               clear hw' hx))
          all_goals
            go_wp2_with fail
            refine bodyPost_ret_by (results_tmp4 rfl _ _ _) rfl ?_
            rw [HE2.out.1]
            exact ⟨_, _, _, _, _, _, by rw [show ((some v : Option Vo).getD default).rank = y.rank from HE2.out.2.1]; rfl, by rw [show ((some v : Option Vo).getD default).key = y.key from HE2.out.2.2]; exact ho5.more (by simp; omega), by
              show OwnI _ _ _ _ _ (tyHaves vs v.rank v.key)
              rw [HE2.out.2.1, HE2.out.2.2, ← HH.out]
              exact ho6.more (by simp; omega), below_next HBA.out hw HBA.out.size⟩
end Go.Proofs.Ytckmjpbkcpmdpaa
