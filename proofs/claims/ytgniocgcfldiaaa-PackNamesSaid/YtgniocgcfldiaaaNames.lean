import Derived.Test.YtgniocgcfldiaaaAliveNum
import Derived.Test.YtgniocgcfldiaaaOpen
namespace Go.Proofs.Ytgniocgcfldiaaa
open Go.RowKit
open Pk
set_option linter.unusedVariables false

/-- the errors' numbers -/
def errNums : List Int := [10, 11, 12, 13, 40, 41, 60, 80, 81, 90, 100, 101, 102, 103, 104, 105, 120, 130, 140, 210, 211, 230, 240]
/-- the limits -/
def limNums : List Int := [4611686018427387904, 65536, 1024, 2, 8, 1024, 64, 16, 128, 32, 8, 4, 4096, 1099511627776, 64]

/-- a cell of a block that was laid with these numbers -/
theorem num_cell (w : World) (l : List Int) (t : TypeId) {k : Nat} (h : k < l.length) : (w.alloc (.cells (l.map iv).toArray t)).cell? ⟨w.heap.size, k, none⟩ = some (.int .i64 (l.getD k 0)) := by
  obtain ⟨a, e, _, hc⟩ := (Rd.new w (l.map iv) t).at_ (k := k) (by simpa using h)
  injection e with e
  subst e
  have e1 : (⟨w.heap.size, 0, none⟩ : Addr).add k = ⟨w.heap.size, k, none⟩ := by unfold Addr.add; split <;> simp_all
  rw [e1] at hc
  rw [hc]
  congr 1
  simp [List.getD, h, iv]

/-- two blocks hold the same numbers -/
def Both (l : List Int) (g1 g2 : Nat) (w : World) : Prop := ∀ k, k < l.length → w.cell? ⟨g1, k, none⟩ = some (.int .i64 (l.getD k 0)) ∧ w.cell? ⟨g2, k, none⟩ = some (.int .i64 (l.getD k 0))
theorem both_new (w : World) (l : List Int) (t u : TypeId) : Both l w.heap.size (w.heap.size + 1) ((w.alloc (.cells (l.map iv).toArray t)).alloc (.cells (l.map iv).toArray u)) := by
  intro k hk
  refine ⟨?_, ?_⟩
  · rw [World.cell?_alloc_lt _ _ _ (by simp)]
    exact num_cell w l t hk
  · have := num_cell (w.alloc (.cells (l.map iv).toArray t)) l u hk
    simpa using this

set_option maxHeartbeats 1600000 in
set_option maxRecDepth 100000 in
theorem packNames_walk (w : World) : Calls Try.prog 3 #[] w (Tr w) := by
  have H := Lib.hid (fun W => num_bad (-1) W (by omega))
  have L1 : errNums.length = 23 := rfl
  have L2 : limNums.length = 15 := rfl
  have HL1 := Lib.hid L1
  have HL2 := Lib.hid L2
  clear L1 L2
  have HB1 := Lib.hid (both_new w errNums 23 3)
  have HB2 := Lib.hid (fun W => both_new W limNums 3 3)
  go_enter Try.func3, Try.ntmps3
  go_wp2_with fail
  refine (H.out _).mono ?_
  rintro e w1 ⟨rfl, rfl⟩
  go_wp2_with fail
  go_loopw [5] (fun i wr => ∃ k : Nat, k ≤ 23 ∧ i = .int .i64 k ∧ Both errNums w.heap.size (w.heap.size + 1) wr ∧ Below w.heap.size w wr ∧ w.heap.size + 2 ≤ wr.heap.size) (fun i _ => 23 - (intOf i).toNat)
  case atStart => exact ⟨0, by omega, rfl, HB1.out, ((Below.refl _ _).alloc (Nat.le_refl _) _).alloc (by simp) _, by simp⟩
  case round =>
    obtain ⟨k, hk, rfl, hB, hb, hs⟩ := hrel
    by_cases hlt : k < 23
    · have hcs := hB k (by rw [HL1.out]; exact hlt)
      have hc1 := hcs.1
      have hc2 := hcs.2
      have HB := Lib.hid hB
      clear hcs hB
      generalize errNums.getD k 0 = v at *
      have hd : decide ((23 : Int) ≤ (k : Int)) = false := by simp; omega
      have hv : (v != v) = false := by simp
      have e1 : (0 : Int) ≤ (k : Int) := by omega
      have e2 : (k : Int) < 23 := by omega
      go_wp2
      go_quiet (fail)
      go_wp2
      all_goals
        go_roundw
        case rel => exact ⟨k + 1, by omega, by go_num, HB.out, below_drewN hb _, hs⟩
        case measure => simp [intOf]; omega
    · have HB := Lib.hid hB
      clear hB
      have HS := Lib.hid hs
      have HBL := Lib.hid hb
      have HB3 := Lib.hid (HB2.out wr)
      clear hb hs
      obtain ⟨wo, rfl⟩ : ∃ wo : World, wo = wr := ⟨_, rfl⟩
      go_wp2
      go_loopw [8] (fun i wr => ∃ k : Nat, k ≤ 15 ∧ i = .int .i64 k ∧ Both limNums wo.heap.size (wo.heap.size + 1) wr ∧ Below w.heap.size w wr ∧ wo.heap.size + 2 ≤ wr.heap.size) (fun i _ => 15 - (intOf i).toNat)
      case atStart => exact ⟨0, by omega, rfl, HB3.out, (HBL.out.alloc HBL.out.size _).alloc (by have := HBL.out.size; simp; omega) _, by simp⟩
      case round =>
        obtain ⟨j, hj, rfl, hB2, hb2, hs2⟩ := hrel
        by_cases hlt2 : j < 15
        · have hcs := hB2 j (by rw [HL2.out]; exact hlt2)
          have hc1 := hcs.1
          have hc2 := hcs.2
          have HBB := Lib.hid hB2
          clear hcs hB2
          generalize limNums.getD j 0 = v at *
          have hd : decide ((15 : Int) ≤ (j : Int)) = false := by simp; omega
          have hv : (v != v) = false := by simp
          have e1 : (0 : Int) ≤ (j : Int) := by omega
          have e2 : (j : Int) < 15 := by omega
          go_wp2
          go_quiet (fail)
          go_wp2
          all_goals
            go_roundw
            case rel => exact ⟨j + 1, by omega, by go_num, HBB.out, below_drewN hb2 _, hs2⟩
            case measure => simp [intOf]; omega
        · have HBB := Lib.hid hb2
          clear hB2 hb2 hs2
          go_wp2
          go_ret
          exact ⟨rfl, HBB.out⟩
end Go.Proofs.Ytgniocgcfldiaaa
