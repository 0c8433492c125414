/-
  A session's questions; a new book; has a client a session? Walks; no statement.
-/
import Derived.Test.YtfbdmemjojjgnaaSessOn
import Derived.Test.YtfbdmemjojjgnaaStoreCell
import Derived.Test.YtfbdmemjojjgnaaMRows
namespace Go.Proofs.Ytfbdmemjojjgnaa
set_option maxRecDepth 100000
open Go.RowKit
set_option linter.unusedVariables false
set_option maxRecDepth 100000

theorem isClientE_any (n : Int) (w : World) : Calls Try.prog 35 #[.int .i64 n] w fun e w' => e = .returned (.bool (decide (0 ≤ n ∧ n < 8))) ∧ w' = w := by
  by_cases h0 : 0 ≤ n
  · have d0 : decide (n ≥ 0) = true := by simpa using h0
    by_cases h8 : n < 8
    · have d8 : decide (n < 8) = true := by simpa using h8
      rw [show decide (0 ≤ n ∧ n < 8) = true by simp [h0, h8]]
      go_enter Try.func35, Try.ntmps35
      go_wp2
      go_ret
      exact ⟨rfl, rfl⟩
    · have d8 : decide (n < 8) = false := by simpa using h8
      rw [show decide (0 ≤ n ∧ n < 8) = false by simp [h8]]
      go_enter Try.func35, Try.ntmps35
      go_wp2
      go_ret
      exact ⟨rfl, rfl⟩
  · have d0 : decide (n ≥ 0) = false := by simpa using h0
    rw [show decide (0 ≤ n ∧ n < 8) = false by simp [h0]]
    go_enter Try.func35, Try.ntmps35
    go_wp2
    go_ret
    exact ⟨rfl, rfl⟩
theorem isTimeE_any (n : Int) (w : World) : Calls Try.prog 29 #[.int .i64 n] w fun e w' => e = .returned (.bool (decide (0 ≤ n ∧ n < 1099511627776))) ∧ w' = w := by
  by_cases h0 : 0 ≤ n
  · have d0 : decide (n ≥ 0) = true := by simpa using h0
    by_cases h8 : n < 1099511627776
    · have d8 : decide (n < 1099511627776) = true := by simpa using h8
      rw [show decide (0 ≤ n ∧ n < 1099511627776) = true by simp [h0, h8]]
      go_enter Try.func29, Try.ntmps29
      go_wp2
      go_ret
      exact ⟨rfl, rfl⟩
    · have d8 : decide (n < 1099511627776) = false := by simpa using h8
      rw [show decide (0 ≤ n ∧ n < 1099511627776) = false by simp [h8]]
      go_enter Try.func29, Try.ntmps29
      go_wp2
      go_ret
      exact ⟨rfl, rfl⟩
  · have d0 : decide (n ≥ 0) = false := by simpa using h0
    rw [show decide (0 ≤ n ∧ n < 1099511627776) = false by simp [h0]]
    go_enter Try.func29, Try.ntmps29
    go_wp2
    go_ret
    exact ⟨rfl, rfl⟩
set_option maxHeartbeats 1600000 in
theorem isRightE_any (x : Se) (w : World) : Calls Try.prog 28 #[.agg #[.int .i64 x.client, .int .i64 x.span, .int .i64 x.seen]] w (Ans (.bool (seRight x)) w) := by
  have HC := Lib.hid (fun W => isClientE_any x.client W)
  have HK := Lib.hid (fun W => isTimeE_any x.seen W)
  have HB := Lib.hid ((Below.refl w.heap.size w).alloc (Nat.le_refl _) (.cells #[.int .i64 x.client, .int .i64 x.span, .int .i64 x.seen] 36))
  have HR := Lib.hid (show seRight x = (decide (0 ≤ x.client ∧ x.client < 8) && (decide (x.span ≥ 1) && (decide (x.span ≤ 1000000) && decide (0 ≤ x.seen ∧ x.seen < 1099511627776)))) by
    unfold seRight
    simp only [← Bool.decide_and]
    exact decide_eq_decide.2 ⟨fun ⟨a, b, c, d, e, f⟩ => ⟨⟨a, b⟩, c, d, e, f⟩, fun ⟨⟨a, b⟩, c, d, e, f⟩ => ⟨a, b, c, d, e, f⟩⟩)
  rw [HR.out]
  cases h1 : decide (0 ≤ x.client ∧ x.client < 8) with
  | false =>
    rw [h1] at HC
    clear h1
    go_enter Try.func28, Try.ntmps28
    go_wp2_with (first | (go_at_call 35; refine (HC.out _).mono ?_; rintro e w' ⟨rfl, rfl⟩))
    go_ret
    exact ⟨rfl, HB.out⟩
  | true =>
    rw [h1] at HC
    clear h1
    cases h2 : decide (x.span ≥ 1) with
    | false =>
      have n2 : ¬ x.span ≥ 1 := of_decide_eq_false h2
      go_enter Try.func28, Try.ntmps28
      go_wp2_with (first | (go_at_call 35; refine (HC.out _).mono ?_; rintro e w' ⟨rfl, rfl⟩))
      go_ret
      exact ⟨rfl, HB.out⟩
    | true =>
      have n2 : x.span ≥ 1 := of_decide_eq_true h2
      cases h3 : decide (x.span ≤ 1000000) with
      | false =>
        have n3 : ¬ x.span ≤ 1000000 := of_decide_eq_false h3
        go_enter Try.func28, Try.ntmps28
        go_wp2_with (first | (go_at_call 35; refine (HC.out _).mono ?_; rintro e w' ⟨rfl, rfl⟩))
        go_ret
        exact ⟨rfl, HB.out⟩
      | true =>
        have n3 : x.span ≤ 1000000 := of_decide_eq_true h3
        generalize decide (0 ≤ x.seen ∧ x.seen < 1099511627776) = bt at *
        go_enter Try.func28, Try.ntmps28
        go_wp2_with (first | (go_at_call 35; refine (HC.out _).mono ?_; rintro e w' ⟨rfl, rfl⟩) | (go_at_call 29; refine (HK.out _).mono ?_; rintro e w' ⟨rfl, rfl⟩))
        go_ret
        exact ⟨by simp, HB.out⟩
set_option maxHeartbeats 1600000 in
theorem liveE_any (F : Nat → Prop) (g : Nat) (t : List Se) (cl : Int) (w : World) (hT : SeAt F w g t) (hk : SOk t) (hw : (Lit.int .i64 cl).wf = true) :
    Calls Try.prog 25 #[.pointer (some ⟨g, 0, none⟩), .int .i64 cl] w (Ans (.bool (seLive cl t)) w) := by
  obtain ⟨b, hkg, hFg, hFb, hm⟩ := hT
  have g0 : w.cell? ⟨g, 0, none⟩ = some (.map (some b)) := hkg.at_ rfl
  cases hl : seLive cl t with
  | true =>
    obtain ⟨x, hx, rfl⟩ := seLive_mem hl
    have hlk : (Instr.lookup 59 (.map (some b)) (.int .i64 x.client) true).run Try.prog w = .ok (.tuple #[.agg #[.int .i64 x.client, .int .i64 x.span, .int .i64 x.seen], .bool true]) w := hm.look_yes hk.1 true hx hw
    clear hkg hFg hFb hm hl hk hx hw
    go_enter Try.func25, Try.ntmps25
    go_wp2
    go_ret
    exact ⟨rfl, (Below.refl w.heap.size w).alloc (Nat.le_refl _) _⟩
  | false =>
    have hlk : (Instr.lookup 59 (.map (some b)) (.int .i64 cl) true).run Try.prog w = .ok (.tuple #[.agg #[.int .i64 0, .int .i64 0, .int .i64 0], .bool false]) w := hm.look_no true (seLive_false hl) hw
    clear hkg hFg hFb hm hl hk hw
    go_enter Try.func25, Try.ntmps25
    go_wp2
    go_ret
    exact ⟨rfl, (Below.refl w.heap.size w).alloc (Nat.le_refl _) _⟩
set_option maxHeartbeats 1600000 in
theorem newE_any (w : World) : Calls Try.prog 9 #[] w (NewBook [] w) := by
  have hmm := @run_makeMap Try.prog
  go_enter Try.func9, Try.ntmps9
  go_wp2
  go_ret
  refine ⟨w.heap.size + 1, From w.heap.size, by simp, ⟨w.heap.size, ?_, by unfold From; omega, Nat.le_refl _, (mpS_made w).below ((Below.refl _ _).alloc (Nat.le_refl _) _)⟩, fun k hk => hk, ((Below.refl w.heap.size w).alloc (Nat.le_refl _) _).alloc (by simp) _⟩
  have := Bk.new (w.alloc (.map #[] 0)) 61 [.map (some w.heap.size)]
  rw [show (w.alloc (.map #[] 0)).heap.size = w.heap.size + 1 by simp] at this
  exact this
end Go.Proofs.Ytfbdmemjojjgnaa
