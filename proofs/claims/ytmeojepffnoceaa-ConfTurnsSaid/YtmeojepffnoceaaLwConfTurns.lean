/-
  ConfTurns: the walk of the law. No statement.
-/
import Derived.Test.YtmeojepffnoceaaConfSeen
import Derived.Test.YtmeojepffnoceaaOpenConf
namespace Go.Proofs.Ytmeojepffnoceaa
open Go.RowKit
set_option linter.unusedVariables false

theorem primary_nat {x : Cf} {N : Nat} (h : x.cn 2 = N) (hN : N ≠ 0) (v : Nat) : x.primary (v : Int) = ((v % N : Nat) : Int) := by
  rw [Cf.primary_count, Cf.cn_eq, h, if_neg (by omega)]; simp

set_option maxHeartbeats 6400000 in
theorem confTurns_any (u r p wi ev pa : Int) (A : Option Addr) (n c : Nat) (w : World) (view : Int) :
    Calls Try.prog 6 #[.agg #[.int .i64 u, .int .i64 r, .int .i64 p, .int .i64 wi, .int .i64 ev, .int .i64 pa, .slice A n c], .int .i64 view] w (Tr w) := by
  have HK := Lib.hid (Bk.new w 24 [.int .i64 u, .int .i64 r, .int .i64 p, .int .i64 wi, .int .i64 ev, .int .i64 pa, .slice A n c])
  have HB := Lib.hid ((Below.refl w.heap.size w).alloc (Nat.le_refl _) (.cells #[.int .i64 u, .int .i64 r, .int .i64 p, .int .i64 wi, .int .i64 ev, .int .i64 pa, .slice A n c] 24))
  have HA := Lib.hid (alive_ok (w.alloc (.cells #[.int .i64 u, .int .i64 r, .int .i64 p, .int .i64 wi, .int .i64 ev, .int .i64 pa, .slice A n c] 24)))
  have HN := Lib.hid (Cf.cn_eq ⟨u, r, p, wi, ev, pa, n⟩ 2)
  have hN8 := Cf.cn_le ⟨u, r, p, wi, ev, pa, n⟩ 2
  have HPN := Lib.hid (fun N h => @primary_nat ⟨u, r, p, wi, ev, pa, n⟩ N h)
  have HC := Lib.hid (fun X => count_any u r p wi ev pa A n c X 2)
  rw [HN.out] at HC
  have HP := Lib.hid (fun X (v : Nat) => primary_any u r p wi ev pa A n c X (v : Int))
  generalize hN : Cf.cn ⟨u, r, p, wi, ev, pa, n⟩ 2 = N at *
  clear HN
  go_enter Try.func6, Try.ntmps6
  go_wp2_with fail
  refine HA.out.mono ?_
  rintro e w1 ⟨rfl, hb1⟩
  have HK1 := Lib.hid (HK.out.kept hb1)
  have HB1 := Lib.hid (below_next HB.out hb1 HB.out.size)
  clear hb1
  obtain ⟨c0, c1, c2, c3, c4, c5, c6⟩ := HK1.out.seven
  go_wp2_with fail
  refine (HC.out _).mono ?_
  rintro e w2 ⟨rfl, hb2⟩
  have HK2 := Lib.hid (HK1.out.kept hb2)
  have HB2 := Lib.hid (below_next HB1.out hb2 HB1.out.size)
  clear hb2 c0 c1 c2 c3 c4 c5 c6
  by_cases hv0 : view < 0
  · go_wp2_with fail
    go_ret
    exact ⟨rfl, HB2.out⟩
  by_cases hv1 : (1099511627776 : Int) < view
  · go_wp2_with fail
    go_ret
    exact ⟨rfl, HB2.out⟩
  by_cases hn0 : N = 0
  · subst hn0
    go_wp2_with fail
    go_ret
    exact ⟨rfl, HB2.out⟩
  have e0 : ((N : Int) == 0) = false := by rw [beq_eq_false_iff_ne]; omega
  obtain ⟨V, rfl⟩ : ∃ V : Nat, view = V := ⟨view.toNat, by omega⟩
  have HP1 := Lib.hid (show ∀ X (i : Nat), Calls Try.prog 18 #[.agg #[.int .i64 u, .int .i64 r, .int .i64 p, .int .i64 wi, .int .i64 ev, .int .i64 pa, .slice A n c], .int .i64 ((V : Int) + (i : Int))] X (Tells (.int .i64 (((V + i) % N : Nat) : Int)) X) from fun X i => by
    have := HP.out X (V + i)
    rw [HPN.out N rfl hn0] at this
    simpa using this)
  have HP2 := Lib.hid (show ∀ X (i : Nat), Calls Try.prog 18 #[.agg #[.int .i64 u, .int .i64 r, .int .i64 p, .int .i64 wi, .int .i64 ev, .int .i64 pa, .slice A n c], .int .i64 ((V : Int) + (i : Int) + (N : Int))] X (Tells (.int .i64 (((V + i) % N : Nat) : Int)) X) from fun X i => by
    have := HP.out X (V + i + N)
    rw [HPN.out N rfl hn0, Nat.add_mod_right] at this
    simpa using this)
  clear HP HPN HC
  have hN0 : 0 < N := by omega
  have HMOD := Lib.hid (show ∀ i, (V + i) % N < N from fun i => Nat.mod_lt _ hN0)
  have HFROM := Lib.hid (show ∀ i, (V + i) % N = (V % N + i) % N from fun i => mod_from V N i)
  have hs : V % N < N := Nat.mod_lt _ hN0
  generalize V % N = s at *
  have HSL := Lib.hid (Bk.new w2 43 [.int .i64 0, .int .i64 0, .int .i64 0, .int .i64 0, .int .i64 0, .int .i64 0, .int .i64 0, .int .i64 0, .int .i64 0, .int .i64 0, .int .i64 0, .int .i64 0, .int .i64 0, .int .i64 0, .int .i64 0, .int .i64 0])
  have HK3 := Lib.hid (HK2.out.alloc (.cells #[.int .i64 0, .int .i64 0, .int .i64 0, .int .i64 0, .int .i64 0, .int .i64 0, .int .i64 0, .int .i64 0, .int .i64 0, .int .i64 0, .int .i64 0, .int .i64 0, .int .i64 0, .int .i64 0, .int .i64 0, .int .i64 0] 43))
  have HB3 := Lib.hid (HB2.out.alloc HB2.out.size (.cells #[.int .i64 0, .int .i64 0, .int .i64 0, .int .i64 0, .int .i64 0, .int .i64 0, .int .i64 0, .int .i64 0, .int .i64 0, .int .i64 0, .int .i64 0, .int .i64 0, .int .i64 0, .int .i64 0, .int .i64 0, .int .i64 0] 43))
  have hgw : w.heap.size < w2.heap.size := HK2.out.lt
  go_wp2_with fail
  generalize w2.heap.size = g at *
  go_loopw [7] (fun i wr => ∃ k : Nat, k ≤ N ∧ i = .int .i64 k ∧ Below w.heap.size w wr ∧ Bk wr w.heap.size 24 [.int .i64 u, .int .i64 r, .int .i64 p, .int .i64 wi, .int .i64 ev, .int .i64 pa, .slice A n c] ∧ Bk wr g 43 ((seenL N s k).map nv)) (fun i _ => N - (intOf i).toNat)
  case atStart => exact ⟨0, by omega, rfl, HB3.out, HK3.out, by rw [seen_zero]; exact HSL.out⟩
  case round =>
    obtain ⟨k, hk, rfl, hb, kc, ks⟩ := hrel
    have HB4 := Lib.hid hb
    have HK4 := Lib.hid kc
    have HS4 := Lib.hid ks
    clear hb ks
    by_cases hlt : k < N
    · obtain ⟨c0, c1, c2, c3, c4, c5, c6⟩ := kc.seven
      clear kc
      have y1 : (k : Int) < (N : Int) := by omega
      have hj := HMOD.out k
      have HJ := Lib.hid (HFROM.out k)
      have HPA := Lib.hid (fun X => HP1.out X k)
      have HPB := Lib.hid (fun X => HP2.out X k)
      generalize hjd : (V + k) % N = j at *
      clear hjd
      go_wp2_with fail
      refine (HPA.out _).mono ?_
      rintro e w5 ⟨rfl, hb5⟩
      have HK5 := Lib.hid (HK4.out.kept hb5)
      have HS5 := Lib.hid (HS4.out.kept hb5)
      have HB5 := Lib.hid (below_next HB4.out hb5 HB4.out.size)
      clear hb5 c0 c1 c2 c3 c4 c5 c6
      obtain ⟨c0, c1, c2, c3, c4, c5, c6⟩ := HK5.out.seven
      have z1 : ¬ (j : Int) < 0 := by omega
      have z2 : ¬ (N : Int) ≤ (j : Int) := by omega
      go_wp2_with fail
      refine (HPB.out _).mono ?_
      rintro e w6 ⟨rfl, hb6⟩
      have HK6 := Lib.hid (HK5.out.kept hb6)
      have HS6 := Lib.hid (HS5.out.kept hb6)
      have HB6 := Lib.hid (below_next HB5.out hb6 HB5.out.size)
      clear hb6 c0 c1 c2 c3 c4 c5 c6
      have x0 := HS6.out.at_ (seen_at N s k (show j < 16 by omega))
      have f0 := HS6.out.frozen j
      have hx0 := seenL_le N s k j
      have HX := Lib.hid (seen_next N s k j ((seenL N s k).getD j 0 + 1) HJ.out rfl)
      generalize (seenL N s k).getD j 0 = x at *
      have z3 : (0 : Int) ≤ (j : Int) := by omega
      have z4 : (j : Int) < 16 := by omega
      have z5 : (x : Int) ≤ 8 := by omega
      have HKS := Lib.hid (HK6.out.far (p := ⟨g, j, none⟩) (by show w.heap.size ≠ g; omega) (.int .i64 ((x + 1 : Nat) : Int)))
      have HSS := Lib.hid (show Bk (w6.setCell ⟨g, j, none⟩ (.int .i64 ((x + 1 : Nat) : Int))) g 43 ((seenL N s (k + 1)).map nv) by
        rw [← HX.out]; exact HS6.out.set j _)
      have HBS := Lib.hid (below_set HB6.out (show w.heap.size ≤ g by omega) j (.int .i64 ((x + 1 : Nat) : Int)))
      go_wp2_with fail
      go_roundw
      case rel => exact ⟨k + 1, by omega, by go_num, HBS.out, HKS.out, HSS.out⟩
      case measure => simp [intOf]; omega
    · obtain rfl : k = N := by omega
      have z2 : ¬ (k : Int) < (k : Int) := by omega
      clear kc
      go_wp2_with fail
      go_loopw [9] (fun i wx => ∃ h : Nat, h ≤ k ∧ i = .int .i64 h ∧ wx = wr) (fun i _ => k - (intOf i).toNat)
      case atStart => exact ⟨0, by omega, rfl, rfl⟩
      case round =>
        obtain ⟨h, hh, rfl, hwx⟩ := hrel
        subst hwx
        by_cases hlt2 : h < k
        · have x0 := HS4.out.at_ (seen_at k s k (show h < 16 by omega))
          rw [seenL_once hN8 hs hlt2] at x0
          have x0 : wr.cell? ⟨g, h, none⟩ = some (.int .i64 1) := x0
          have z3 : (0 : Int) ≤ (h : Int) := by omega
          have z4 : (h : Int) < 16 := by omega
          have z5 : (h : Int) < (k : Int) := by omega
          go_wp2_with fail
          go_roundw
          case rel => exact ⟨h + 1, by omega, by go_num, by first | rfl | trivial⟩
          case measure => simp [intOf]; omega
        · have z5 : ¬ (h : Int) < (k : Int) := by omega
          go_wp2_with fail
          go_ret
          exact ⟨rfl, HB4.out⟩

theorem confTurns_walk (w : World) (v : Value) (x : Cf × List UInt8) (h : InCf w v x) (a : Int) (ha : (Lit.int .i64 a).wf = true) : Calls Try.prog 6 #[v, .int .i64 a] w (Tr w) := by
  obtain ⟨A, n, c, rfl, _, _⟩ := h
  exact confTurns_any _ _ _ _ _ _ A n c w a
end Go.Proofs.Ytmeojepffnoceaa
