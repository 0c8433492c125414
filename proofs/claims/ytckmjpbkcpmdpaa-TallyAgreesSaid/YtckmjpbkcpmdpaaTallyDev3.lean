/-
  tally: Agree. A walk over the plain words; no statement.
-/
import Derived.Test.YtckmjpbkcpmdpaaTallyDev2
namespace Go.Proofs.Ytckmjpbkcpmdpaa
open Go.RowKit Go.Sort Go.Shelf
set_option linter.unusedVariables false

theorem results_tmp4 {fn : Func} {t u v x : Tmp} (h : fn.results = #[.tmp t, .tmp u, .tmp v, .tmp x]) (tmps : Array Value) (P : Program) (w : World) :
    (results fn tmps).run P w = .ok (.tuple #[tmps.getD t undef, tmps.getD u undef, tmps.getD v undef, tmps.getD x undef]) w := by
  simp [results, h]
/-- what Agree answers -/
def AgreeP (vs : List Vo) (o : Option Vo) (w : World) (e : Ending) (w' : World) : Prop :=
  ∃ A n c B m q, e = .returned (.tuple #[.int .i64 (o.getD default).rank, .slice A n c, .slice B m q, .bool o.isSome]) ∧ OwnB w' w.heap.size A n c (o.getD default).key ∧
    OwnI w' w.heap.size B m q (match o with | some v => tyHaves vs v.rank v.key | none => []) ∧ Below w.heap.size w w'
theorem agree_next {vs : List Vo} {b k i : Nat} (hi : i = k) (hlt : k + b < vs.length) (hno : ∀ j, j < k → tySame (vs.getD (j + b) default) (vs.getD j default) = false) (hs : tySame (vs.getD (k + b) default) (vs.getD k default) = true) :
    (List.range (vs.length - b)).find? (fun i => tySame (vs.getD (i + b) default) (vs.getD i default)) = some k := by
  rw [List.find?_range_eq_some]
  refine ⟨hs, by rw [List.mem_range]; omega, fun j hj => by rw [hno j hj]; rfl⟩
theorem agree_no {vs : List Vo} {b : Nat} (hno : ∀ j, j + b < vs.length → tySame (vs.getD (j + b) default) (vs.getD j default) = false) :
    (List.range (vs.length - b)).find? (fun i => tySame (vs.getD (i + b) default) (vs.getD i default)) = none := by
  rw [List.find?_eq_none]
  intro j hj
  rw [List.mem_range] at hj
  rw [hno j (by omega)]
  simp
theorem ownB_belowD {w w' : World} {base : Nat} {A : Option Addr} {n c : Nat} {l : List UInt8} (h : OwnB w base A n c l) (hb : Below w.drew.heap.size w.drew w') : OwnB w' base A n c l := OwnB.below (w := w.drew) h hb
set_option maxHeartbeats 3200000 in
/-- Agree -/
theorem agree_any (k : Int) (F : Nat → Prop) (g : Nat) (N : Int) (vs : List Vo) (w : World) (h : Tl w F g N vs) (hk : -9223372036854775808 ≤ k ∧ k ≤ 9223372036854775807) :
    Calls Try.prog 18 #[.pointer (some ⟨g, 0, none⟩), .int .i64 k] w (AgreeP vs (tyAgree vs k) w) := by
  have HTL := Lib.hid h
  obtain ⟨hgd, xs, A, n, c, h, e⟩ := h
  have hl := h.row.len
  have hl64 := hgd.len
  have hvl : vs.length = xs.length := by rw [e, List.length_map]
  have hb1 := (tyBehind_one k).symm
  have hb2 : max k 1 ≤ 9223372036854775807 ∧ 1 ≤ max k 1 := by omega
  unfold tyAgree
  generalize tyBehind k = b at *
  have hb3 : (b : Int) ≤ 9223372036854775806 := by omega
  have hn64 : n ≤ 64 := by omega
  have w0 : IntKind.i64.wrap ((n : Int) - (b : Int)) = (n : Int) - (b : Int) := by simp only [IntKind.wrap, IntKind.bits, IntKind.signed]; simp; omega
  obtain ⟨q0, q1⟩ := h.bk.two
  have HT := Lib.hid h
  have HG := Lib.hid hgd
  have HE := Lib.hid e
  have HL := Lib.hid (show vs.length = n ∧ xs.length = n from ⟨by omega, hl⟩)
  obtain ⟨o, ho⟩ : ∃ o, o = ((List.range (vs.length - b)).find? (fun i => tySame (vs.getD (i + b) default) (vs.getD i default))).map (fun i => vs.getD i default) := ⟨_, rfl⟩
  rw [← ho]
  have HOO := Lib.hid ho
  clear h hl hl64 hgd hvl e hk ho
  go_enter Try.func18, Try.ntmps18
  go_wp2_with fail
  go_loopw [9, 10, 21] (fun _ _ i wr => ∃ (j : Nat), (j : Int) ≤ max ((n : Int) - b) 0 ∧ i = .int .i64 j ∧ (∀ a, a < j → tySame (vs.getD (a + b) default) (vs.getD a default) = false) ∧ Below w.heap.size w wr) (fun _ _ i _ => n - (intOf i).toNat)
  case atStart => exact ⟨0, by omega, rfl, fun a ha => by omega, Below.refl _ _⟩
  case round =>
    obtain ⟨j, hj, rfl, hno, hb⟩ := hrel
    have hs := hb.size
    have HNO := Lib.hid hno
    clear hno
    by_cases hlt : (j : Int) < (n : Int) - b
    · obtain ⟨m, hm⟩ : ∃ m, m = j + b := ⟨_, rfl⟩
      have hjx : j < xs.length := by have := HL.out; omega
      have hmx : m < xs.length := by have := HL.out; omega
      have ex : xs[j]? = some xs[j] := List.getElem?_eq_getElem hjx
      have ey : xs[m]? = some xs[m] := List.getElem?_eq_getElem hmx
      have mx : xs[j] ∈ xs := List.getElem_mem _
      have my : xs[m] ∈ xs := List.getElem_mem _
      have HVX := Lib.hid (show vs.getD j default = xs[j].v by rw [HE.out]; simp [List.getD, hjx])
      have HVY := Lib.hid (show vs.getD (j + b) default = xs[m].v by rw [HE.out, ← hm]; simp [List.getD, hmx])
      have hT := HT.out.kept hb
      have HTR := Lib.hid hT
      have hg := hT.lt g hT.mine
      obtain ⟨g', rfl, hb', c0, c1, c2, c3⟩ := hT.row.at_ ex
      obtain ⟨q0', q1'⟩ := hT.bk.two
      have HRX := Lib.hid (hT.rds _ mx)
      have HRY := Lib.hid (hT.rds _ my)
      have HKX := Lib.hid (show xs[j].kn ≤ 1099511627776 by
        have h1 := (hT.rds _ mx).1.1
        rw [List.length_map] at h1
        have h2 := (HG.out.rng xs[j].v (by rw [HE.out]; exact List.mem_map.2 ⟨_, mx, rfl⟩)).2.2.2.2.1
        omega)
      have HMX := Lib.hid (show ∀ X, Below w.heap.size w X → Rd X xs[j].ka xs[j].kn (xs[j].v.key.map bv) from fun X hX => (HT.out.rds _ mx).1.below hX)
      generalize xs[j] = x at *
      generalize xs[m] = y at *
      have T1 := HTR.out.kept ((Below.refl wr.heap.size wr).alloc (Nat.le_refl _) (.cells #[.int .i64 x.v.voter, .int .i64 x.v.rank, .slice x.ka x.kn x.kc, .slice x.la x.ln x.lc] 55))
      obtain ⟨_, eg1, hb1', d0, d1, d2, d3⟩ := T1.row.at_ ey
      obtain ⟨rfl⟩ : g' = _ := by injection eg1 with eg1; injection eg1
      obtain ⟨_, q1⟩ := T1.bk.two
      have HSY := Lib.hid (says_any y x.v.rank x.ka x.kn x.kc x.v.key ((wr.alloc (.cells #[.int .i64 x.v.voter, .int .i64 x.v.rank, .slice x.ka x.kn x.kc, .slice x.la x.ln x.lc] 55)).drew) (((HRY.out.1).alloc _).drew) (((HRX.out.1).alloc _).drew))
      have KB := Bk.new wr 55 [.int .i64 x.v.voter, .int .i64 x.v.rank, .slice x.ka x.kn x.kc, .slice x.la x.ln x.lc]
      have HKB := Lib.hid (bk_drew KB)
      have HB := Lib.hid (below_drew (hb.alloc hb.size (.cells #[.int .i64 x.v.voter, .int .i64 x.v.rank, .slice x.ka x.kn x.kc, .slice x.la x.ln x.lc] 55)))
      have HJ := Lib.hid (show m = j + b ∧ m < n ∧ j < n ∧ (j : Int) < (n : Int) - b from ⟨hm, by have := HL.out; omega, by have := HL.out; omega, hlt⟩)
      have y1 : (0 : Int) ≤ (j : Int) := by omega
      have y2 : (j : Int) < (n : Int) := by have := HJ.out; omega
      have y3 : (0 : Int) ≤ (m : Int) := by omega
      have y4 : (m : Int) < (n : Int) := by have := HJ.out; omega
      have y5 : (j : Int) + (b : Int) = (m : Int) := by omega
      have w5 : IntKind.i64.wrap (m : Int) = (m : Int) := by simp only [IntKind.wrap, IntKind.bits, IntKind.signed]; simp; omega
      have w1 : IntKind.i64.wrap ((j : Int) + 1) = (j : Int) + 1 := by simp only [IntKind.wrap, IntKind.bits, IntKind.signed]; simp; omega
      obtain ⟨_, k1, k2, _⟩ := KB.four
      clear hT ex ey mx my hjx hmx hb KB q0 hm hj T1 eg1
      have HSE := Lib.hid (show tySame (vs.getD (j + b) default) (vs.getD j default) = (decide (y.v.rank = x.v.rank) && decide (y.v.key = x.v.key)) by rw [HVX.out, HVY.out]; rfl)
      by_cases hp : (decide (y.v.rank = x.v.rank) && decide (y.v.key = x.v.key)) = true
      · rw [hp] at HSY HSE
        clear hp
        have HR := Lib.hid (show ((List.range (vs.length - b)).find? (fun i => tySame (vs.getD (i + b) default) (vs.getD i default))).map (fun i => vs.getD i default) = some x.v by
          rw [agree_next rfl (by have := HL.out; have := HJ.out; omega) HNO.out HSE.out, Option.map_some, HVX.out])
        clear HSE HNO
        go_upto_region 6 with (fail)
        generalize hW1 : wr.alloc (.cells #[.int .i64 x.v.voter, .int .i64 x.v.rank, .slice x.ka x.kn x.kc, .slice x.la x.ln x.lc] 55) = W1 at d0 d1 d2 d3 q1 k1 k2 HSY HB HKB ⊢
        clear hW1
        go_still_tail 13, (by kernel_rfl)
        change wpList _ _ _ _ _ W1.drew
        go_wp2_with fail
        refine HSY.out.mono ?_
        rintro e w2 ⟨rfl, hb2⟩
        have HB2 := Lib.hid (below_next HB.out hb2 HB.out.size)
        have kb := HKB.out.kept hb2
        have HT2 := Lib.hid (HT.out.kept HB2.out)
        have hw := Below.refl w2.heap.size w2
        have HRX2 := Lib.hid (show Rd w2 x.ka x.kn (x.v.key.map bv) from HMX.out w2 HB2.out)
        have HCL := Lib.hid (show ∀ X, Below w2.heap.size w2 X → Calls Try.prog 32 #[.slice x.ka x.kn x.kc] X (fun e w' => ∃ A n c, e = .returned (.slice A n c) ∧ OwnB w' w2.heap.size A n c x.v.key ∧ Below w2.heap.size w2 w' ∧ Below X.heap.size X w') from
          fun X hX => (clone_any x.ka x.kn x.kc x.v.key X (HRX2.out.below hX) HKX.out).mono fun e w' ⟨A, n, c, he, ho, hb⟩ => ⟨A, n, c, he, ho.more hX.size, below_next hX hb hX.size, hb⟩)
        have HHV := Lib.hid (show ∀ X, Below w2.heap.size w2 X → Calls Try.prog 27 #[.pointer (some ⟨g, 0, none⟩), .int .i64 x.v.rank, .slice x.ka x.kn x.kc] X (fun e w' => ∃ A n c, e = .returned (.slice A n c) ∧ OwnI w' w2.heap.size A n c (vcHaves xs x.v.rank x.v.key) ∧ Below w2.heap.size w2 w' ∧ Below X.heap.size X w') from
          fun X hX => (have_at x.v.rank x.ka x.kn x.kc x.v.key F g N xs _ n c X (HT2.out.kept hX) (by have := HL.out; omega) (HRX2.out.below hX)).mono fun e w' ⟨A, n, c, he, ho, hb⟩ => ⟨A, n, c, he, ho.more hX.size, below_next hX hb hX.size, hb⟩)
        clear hb2 d0 d1 d2 d3 q1 k1 k2
        go_wp2_with fail
        go_region_held3 (fun w' => w'.cell? ⟨wr.heap.size, 1, none⟩ = some (.int .i64 x.v.rank) ∧ w'.cell? ⟨wr.heap.size, 2, none⟩ = some (.slice x.ka x.kn x.kc)) (first | with_reducible exact ⟨(bk_drew kb).four.2.1, (bk_drew kb).four.2.2.1⟩ | with_reducible exact ⟨kb.four.2.1, kb.four.2.2.1⟩ | go_keep)
          (first
          | (go_at_call 32; with_reducible refine (HCL.out _ ?_).mono ?_
             focus first | with_reducible exact hw | with_reducible exact below_drew hw
             rintro e w' ⟨A5, n5, c5, rfl, ho5, hw', hx⟩
             first | replace kb := kb.kept hx | replace kb := bk_keptD kb hx
             replace hw := hw'
             clear hw' hx)
          | (go_at_call 27; with_reducible refine (HHV.out _ ?_).mono ?_
             focus first | with_reducible exact hw | with_reducible exact below_drew hw
             rintro e w' ⟨B6, n6, c6, rfl, ho6, hw', hx⟩
             first | replace kb := kb.kept hx | replace kb := bk_keptD kb hx
             first | replace ho5 := ho5.below hx | replace ho5 := ownB_belowD ho5 hx
             replace hw := hw'
             clear hw' hx))
        all_goals
          have HW := Lib.hid hw
          have HO5 := Lib.hid ho5
          have HO6 := Lib.hid ho6
          clear hw ho5 ho6 kb
          go_wp2_with fail
          (try simp only [Exit.inBlock, Exit.then])
          refine bodyPost_ret (results_tmp4 rfl _ _ _) rfl ?_
          rw [HOO.out, HR.out]
          exact ⟨A5, n5, c5, B6, n6, c6, rfl, HO5.out.more HB2.out.size, by
            show OwnI _ _ _ _ _ (tyHaves vs x.v.rank x.v.key)
            rw [HE.out, vcHaves_v]
            exact HO6.out.more HB2.out.size, below_next HB2.out HW.out HB2.out.size⟩
      · have hp' : (decide (y.v.rank = x.v.rank) && decide (y.v.key = x.v.key)) = false := by simpa using hp
        rw [hp'] at HSY HSE
        clear hp hp'
        go_upto_region 6 with (fail)
        generalize hW1 : wr.alloc (.cells #[.int .i64 x.v.voter, .int .i64 x.v.rank, .slice x.ka x.kn x.kc, .slice x.la x.ln x.lc] 55) = W1 at d0 d1 d2 d3 q1 k1 k2 HSY HB HKB ⊢
        clear hW1
        go_still_tail 13, (by kernel_rfl)
        change wpList _ _ _ _ _ W1.drew
        go_wp2_with fail
        refine HSY.out.mono ?_
        rintro e w2 ⟨rfl, hb2⟩
        have HB2 := Lib.hid (below_next HB.out hb2 HB.out.size)
        clear hb2
        go_wp2_with fail
        go_roundw
        case rel => exact ⟨j + 1, by have := HJ.out; omega, by go_num, fun a ha => by
          rcases Nat.lt_or_ge a j with q | q
          · exact HNO.out a q
          · obtain rfl : a = j := by omega
            exact HSE.out, HB2.out⟩
        case measure => have := HJ.out; simp [intOf]; omega
    · have HR := Lib.hid (show ((List.range (vs.length - b)).find? (fun i => tySame (vs.getD (i + b) default) (vs.getD i default))).map (fun i => vs.getD i default) = none by
        rw [agree_no (fun a ha => HNO.out a (by have := HL.out; omega)), Option.map_none])
      have HB := Lib.hid hb
      clear hb hj HNO
      go_wp2_with fail
      (try simp only [Exit.inBlock, Exit.then])
      refine bodyPost_ret (results_tmp4 rfl _ _ _) rfl ?_
      rw [HOO.out, HR.out]
      exact ⟨none, 0, 0, none, 0, 0, rfl, OwnB.nil_ _ _, OwnI.nil_ _ _, HB.out⟩
end Go.Proofs.Ytckmjpbkcpmdpaa
