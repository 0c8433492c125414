/-
  ConfMeets: the walk of the law. No statement.
-/
import Derived.Test.YtmeojepffnoceaaConfLaw
import Derived.Test.YtmeojepffnoceaaOpenConf
namespace Go.Proofs.Ytmeojepffnoceaa
open Go.RowKit
set_option linter.unusedVariables false

set_option maxHeartbeats 3200000 in
theorem confMeets_any (u r p wi ev pa : Int) (A : Option Addr) (n c : Nat) (w : World) :
    Calls Try.prog 5 #[.agg #[.int .i64 u, .int .i64 r, .int .i64 p, .int .i64 wi, .int .i64 ev, .int .i64 pa, .slice A n c]] w (Tr w) := by
  have HK := Lib.hid (Bk.new w 24 [.int .i64 u, .int .i64 r, .int .i64 p, .int .i64 wi, .int .i64 ev, .int .i64 pa, .slice A n c])
  have HB := Lib.hid ((Below.refl w.heap.size w).alloc (Nat.le_refl _) (.cells #[.int .i64 u, .int .i64 r, .int .i64 p, .int .i64 wi, .int .i64 ev, .int .i64 pa, .slice A n c] 24))
  have HA := Lib.hid (alive_ok (w.alloc (.cells #[.int .i64 u, .int .i64 r, .int .i64 p, .int .i64 wi, .int .i64 ev, .int .i64 pa, .slice A n c] 24)))
  by_cases h : Cf.Ok ⟨u, r, p, wi, ev, pa, n⟩
  · have v1 := Lib.hid (show Cf.err ⟨u, r, p, wi, ev, pa, n⟩ = 0 by unfold Cf.err; rw [if_pos h])
    have v2 := Lib.hid (show Cf.quorum ⟨u, r, p, wi, ev, pa, n⟩ = u + r + 1 by unfold Cf.quorum; rw [if_pos h])
    have v3 := Lib.hid (show Cf.proof ⟨u, r, p, wi, ev, pa, n⟩ = r + 1 by unfold Cf.proof; rw [if_pos h])
    have v4 := Lib.hid (show Cf.count ⟨u, r, p, wi, ev, pa, n⟩ 1 = 2 * u + r + 1 by rw [Cf.count_ok h]; simp)
    have v5 := Lib.hid (show Cf.count ⟨u, r, p, wi, ev, pa, n⟩ 2 = 2 * u + r + 1 by rw [Cf.count_ok h]; simp)
    have v6 := Lib.hid (show Cf.count ⟨u, r, p, wi, ev, pa, n⟩ 3 = u + r + 1 by rw [Cf.count_ok h]; simp)
    obtain ⟨y1, y2, y3, y4, y5, y6⟩ := h
    simp only at y1 y2 y3 y4 y5
    clear y6
    go_enter Try.func5, Try.ntmps5
    go_wp2_with fail
    refine (HA.out).mono ?_
    rintro e w1 ⟨rfl, hb1⟩
    have HK1 := Lib.hid (HK.out.kept hb1)
    have HB1 := Lib.hid (below_next HB.out hb1 HB.out.size)
    clear hb1
    try clear c0 c1 c2 c3 c4 c5 c6
    obtain ⟨c0, c1, c2, c3, c4, c5, c6⟩ := HK1.out.seven
    go_wp2_with fail
    refine (check_any u r p wi ev pa A n c _).mono ?_
    rintro e w2 ⟨rfl, hb2⟩
    rw [v1.out]
    have HK2 := Lib.hid (HK1.out.kept hb2)
    have HB2 := Lib.hid (below_next HB1.out hb2 HB1.out.size)
    clear hb2
    try clear c0 c1 c2 c3 c4 c5 c6
    obtain ⟨c0, c1, c2, c3, c4, c5, c6⟩ := HK2.out.seven
    go_wp2_with fail
    refine (quorum_any u r p wi ev pa A n c _).mono ?_
    rintro e w3 ⟨rfl, hb3⟩
    rw [v2.out]
    have HK3 := Lib.hid (HK2.out.kept hb3)
    have HB3 := Lib.hid (below_next HB2.out hb3 HB2.out.size)
    clear hb3
    try clear c0 c1 c2 c3 c4 c5 c6
    obtain ⟨c0, c1, c2, c3, c4, c5, c6⟩ := HK3.out.seven
    go_wp2_with fail
    refine (proof_any u r p wi ev pa A n c _).mono ?_
    rintro e w4 ⟨rfl, hb4⟩
    rw [v3.out]
    have HK4 := Lib.hid (HK3.out.kept hb4)
    have HB4 := Lib.hid (below_next HB3.out hb4 HB3.out.size)
    clear hb4
    try clear c0 c1 c2 c3 c4 c5 c6
    obtain ⟨c0, c1, c2, c3, c4, c5, c6⟩ := HK4.out.seven
    go_wp2_with fail
    go_loopw [5] (fun i wr => (i = .int .i64 1 ∨ i = .int .i64 2 ∨ i = .int .i64 3) ∧ Below w.heap.size w wr ∧ Bk wr w.heap.size 24 [.int .i64 u, .int .i64 r, .int .i64 p, .int .i64 wi, .int .i64 ev, .int .i64 pa, .slice A n c]) (fun i _ => 3 - (intOf i).toNat)
    case atStart => exact ⟨.inl rfl, HB4.out, HK4.out⟩
    case round =>
      obtain ⟨hi, hb, kc⟩ := hrel
      have HB5 := Lib.hid hb
      have HK5 := Lib.hid kc
      clear c0 c1 c2 c3 c4 c5 c6
      obtain ⟨c0, c1, c2, c3, c4, c5, c6⟩ := kc.seven
      clear hb kc
      rcases hi with rfl | rfl | rfl
      · go_wp2_with fail
        refine (count_any u r p wi ev pa A n c _ 1).mono ?_
        rintro e w6 ⟨rfl, hb6⟩
        rw [v4.out]
        have HK6 := Lib.hid (HK5.out.kept hb6)
        have HB6 := Lib.hid (below_next HB5.out hb6 HB5.out.size)
        clear hb6 c0 c1 c2 c3 c4 c5 c6
        obtain ⟨c0, c1, c2, c3, c4, c5, c6⟩ := HK6.out.seven
        have z1 : ¬ (2 * (u + r + 1) - (2 * u + r + 1) < r + 1) := by omega
        have z2 : ¬ (2 * u + r + 1 - u < u + r + 1) := by omega
        go_wp2_with fail
        go_roundw
        case rel => exact ⟨.inr (.inl rfl), HB6.out, HK6.out⟩
        case measure => simp [intOf]
      · go_wp2_with fail
        refine (count_any u r p wi ev pa A n c _ 2).mono ?_
        rintro e w6 ⟨rfl, hb6⟩
        rw [v5.out]
        have HK6 := Lib.hid (HK5.out.kept hb6)
        have HB6 := Lib.hid (below_next HB5.out hb6 HB5.out.size)
        clear hb6 c0 c1 c2 c3 c4 c5 c6
        obtain ⟨c0, c1, c2, c3, c4, c5, c6⟩ := HK6.out.seven
        have z1 : ¬ (2 * (u + r + 1) - (2 * u + r + 1) < r + 1) := by omega
        have z2 : ¬ (2 * u + r + 1 - u < u + r + 1) := by omega
        go_wp2_with fail
        go_roundw
        case rel => exact ⟨.inr (.inr rfl), HB6.out, HK6.out⟩
        case measure => simp [intOf]
      · go_wp2_with fail
        have hw := HB5.out
        have kc := HK5.out
        have HC := Lib.hid (show ∀ X, Below w.heap.size w X → Calls Try.prog 12 #[.agg #[.int .i64 u, .int .i64 r, .int .i64 p, .int .i64 wi, .int .i64 ev, .int .i64 pa, .slice A n c], .int .i64 3] X (fun e w' => e = .returned (.int .i64 (u + r + 1)) ∧ Below w.heap.size w w' ∧ Below X.heap.size X w') from
          fun X hw => (count_any u r p wi ev pa A n c X 3).mono fun e w' ⟨he, hb⟩ => ⟨by rw [he, v6.out], below_next hw hb hw.size, hb⟩)
        have e1 : IntKind.i64.wrap (u + r + 1 - u) = r + 1 := by simp only [IntKind.wrap, IntKind.bits, IntKind.signed]; simp; omega
        have e2 : IntKind.i64.wrap (u + r + 1 - r) = u + 1 := by simp only [IntKind.wrap, IntKind.bits, IntKind.signed]; simp; omega
        have e3 : IntKind.i64.wrap (r + 1 - r) = 1 := by simp only [IntKind.wrap, IntKind.bits, IntKind.signed]; simp; omega
        have e4 : IntKind.i64.wrap (u + 1) = u + 1 := by simp only [IntKind.wrap, IntKind.bits, IntKind.signed]; simp; omega
        go_region_held3 (fun w' => w'.cell? ⟨w.heap.size, 0, none⟩ = some (.int .i64 u) ∧ w'.cell? ⟨w.heap.size, 1, none⟩ = some (.int .i64 r) ∧ w'.cell? ⟨w.heap.size, 2, none⟩ = some (.int .i64 p) ∧ w'.cell? ⟨w.heap.size, 3, none⟩ = some (.int .i64 wi) ∧ w'.cell? ⟨w.heap.size, 4, none⟩ = some (.int .i64 ev) ∧ w'.cell? ⟨w.heap.size, 5, none⟩ = some (.int .i64 pa) ∧ w'.cell? ⟨w.heap.size, 6, none⟩ = some (.slice A n c)) (first | with_reducible exact (bk_drew kc).seven | with_reducible exact kc.seven | go_keep)
          (first
          | (go_at_call 12; with_reducible refine (HC.out _ ?_).mono ?_
             focus first | with_reducible exact hw | with_reducible exact below_drew hw
             rintro e w' ⟨rfl, hw', hx⟩
             first | replace kc := kc.kept hx | replace kc := bk_keptD kc hx
             replace hw := hw'
             clear hw' hx))
        all_goals
          go_wp2_with fail
          go_ret
          exact ⟨rfl, hw⟩
  · have v1 := Lib.hid (show Cf.err ⟨u, r, p, wi, ev, pa, n⟩ = 60 by unfold Cf.err; rw [if_neg h])
    have v2 := Lib.hid (show Cf.quorum ⟨u, r, p, wi, ev, pa, n⟩ = 0 by unfold Cf.quorum; rw [if_neg h])
    have v3 := Lib.hid (show Cf.proof ⟨u, r, p, wi, ev, pa, n⟩ = 0 by unfold Cf.proof; rw [if_neg h])
    have v4 := Lib.hid (Cf.ids_no h [1, 2, 3, 4])
    clear h
    go_enter Try.func5, Try.ntmps5
    go_wp2_with fail
    refine (HA.out).mono ?_
    rintro e w1 ⟨rfl, hb1⟩
    have HK1 := Lib.hid (HK.out.kept hb1)
    have HB1 := Lib.hid (below_next HB.out hb1 HB.out.size)
    clear hb1
    try clear c0 c1 c2 c3 c4 c5 c6
    obtain ⟨c0, c1, c2, c3, c4, c5, c6⟩ := HK1.out.seven
    go_wp2_with fail
    refine (check_any u r p wi ev pa A n c _).mono ?_
    rintro e w2 ⟨rfl, hb2⟩
    rw [v1.out]
    have HK2 := Lib.hid (HK1.out.kept hb2)
    have HB2 := Lib.hid (below_next HB1.out hb2 HB1.out.size)
    clear hb2
    try clear c0 c1 c2 c3 c4 c5 c6
    obtain ⟨c0, c1, c2, c3, c4, c5, c6⟩ := HK2.out.seven
    go_wp2_with fail
    refine (quorum_any u r p wi ev pa A n c _).mono ?_
    rintro e w3 ⟨rfl, hb3⟩
    rw [v2.out]
    have HK3 := Lib.hid (HK2.out.kept hb3)
    have HB3 := Lib.hid (below_next HB2.out hb3 HB2.out.size)
    clear hb3
    try clear c0 c1 c2 c3 c4 c5 c6
    obtain ⟨c0, c1, c2, c3, c4, c5, c6⟩ := HK3.out.seven
    go_wp2_with fail
    refine (proof_any u r p wi ev pa A n c _).mono ?_
    rintro e w4 ⟨rfl, hb4⟩
    rw [v3.out]
    have HK4 := Lib.hid (HK3.out.kept hb4)
    have HB4 := Lib.hid (below_next HB3.out hb4 HB3.out.size)
    clear hb4
    try clear c0 c1 c2 c3 c4 c5 c6
    obtain ⟨c0, c1, c2, c3, c4, c5, c6⟩ := HK4.out.seven
    go_wp2_with fail
    refine (ids_any u r p wi ev pa A n c (some ⟨w4.heap.size, 0, none⟩) 4 4 [1, 2, 3, 4] _ (Rd.new w4 ([1, 2, 3, 4].map iv) 3) (by omega)).mono ?_
    rintro e w8 ⟨A8, n8, c8, rfl, ho8, hb8⟩
    have h8 := ho8.len
    rw [v4.out] at h8
    obtain rfl : 0 = n8 := h8
    have HB8 := Lib.hid (below_next (HB4.out.alloc HB4.out.size (.cells #[.int .i64 1, .int .i64 2, .int .i64 3, .int .i64 4] 3)) hb8 (HB4.out.alloc HB4.out.size (.cells #[.int .i64 1, .int .i64 2, .int .i64 3, .int .i64 4] 3)).size)
    clear hb8 ho8
    go_wp2_with fail
    go_ret
    exact ⟨rfl, HB8.out⟩

theorem confMeets_walk (w : World) (v : Value) (x : Cf × List UInt8) (h : InCf w v x) : Calls Try.prog 5 #[v] w (Tr w) := by
  obtain ⟨A, n, c, rfl, _, _⟩ := h
  exact confMeets_any _ _ _ _ _ _ A n c w
end Go.Proofs.Ytmeojepffnoceaa
