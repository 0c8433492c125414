/-
  Rows of sessions: the same?, and a copy. Walks; no statement.
-/
import Derived.Test.YtfbdmemjojjgnaaSessMem
import Derived.Laws.StructEq
import Derived.BigQuiet
namespace Go.Proofs.Ytfbdmemjojjgnaa
set_option maxRecDepth 100000
open Go.RowKit
set_option linter.unusedVariables false

theorem eq_se (x y : Se) (w : World) : (Op.equalIn 10000 36 (.agg #[.int .i64 x.client, .int .i64 x.span, .int .i64 x.seen]) (.agg #[.int .i64 y.client, .int .i64 y.span, .int .i64 y.seen])).run Try.prog w = .ok (decide (x = y)) w := by
  have u3 := Try.underlying3
  have a3 := Try.isAgg3
  have z3 := Try.sizeOf3
  have hS : Try.prog.underlying 36 = some (.struct (Try.prog.fieldsOf 36)) := by kernel_rfl
  rw [show (10000 : Nat) = 9999 + 1 from rfl, run_equalIn_agg w 9999 36 _ _ hS (by kernel_rfl)]
  simp only [Program.fieldsOf, Try.underlying36]
  obtain ⟨c1, k1, p1⟩ := x
  obtain ⟨c2, k2, p2⟩ := y
  go_simp
  by_cases h1 : c1 = c2 <;> by_cases h2 : k1 = k2 <;> by_cases h3 : p1 = p2 <;> simp [h1, h2, h3]
theorem neq_se (x y : Se) (b : Bool) (hb : decide (x = y) = b) (w : World) : (binOp .neq 36 (.agg #[.int .i64 x.client, .int .i64 x.span, .int .i64 x.seen]) (.agg #[.int .i64 y.client, .int .i64 y.span, .int .i64 y.seen])).run Try.prog w = .ok (.bool (!b)) w := by
  rw [run_neq_struct, eq_se, hb]
  rfl
theorem eql_se (x y : Se) (b : Bool) (hb : decide (x = y) = b) (w : World) : (binOp .eql 36 (.agg #[.int .i64 x.client, .int .i64 x.span, .int .i64 x.seen]) (.agg #[.int .i64 y.client, .int .i64 y.span, .int .i64 y.seen])).run Try.prog w = .ok (.bool b) w := by
  rw [run_eql_struct, eq_se, hb]
  rfl
theorem sameE_len (A A' : Option Addr) (n n' c c' : Nat) (w : World) (hn : n ≠ n') :
    Calls Try.prog 13 #[.slice A n c, .slice A' n' c'] w fun e w' => e = .returned (.bool false) ∧ w' = w := by
  have e : ((n : Int) != (n' : Int)) = true := by simp; omega
  go_enter Try.func13, Try.ntmps13
  go_wp2
  go_ret
  exact ⟨rfl, rfl⟩
theorem take_neE {α : Type} {xs ys : List α} {k : Nat} {x y : α} (hx : xs[k]? = some x) (hy : ys[k]? = some y) (h : x ≠ y) : xs ≠ ys := fun e => by
  rw [e, hy] at hx
  exact h (Option.some.inj hx).symm
set_option maxHeartbeats 1600000 in
theorem sameE_eq (A A' : Option Addr) (c c' : Nat) (w : World) (F F' : Nat → Prop) (xs ys : List Se) (h : RdS RSe F w A c xs) (h' : RdS RSe F' w A' c' ys) (hm : xs.length ≤ 100000) (hl : xs.length = ys.length) :
    Calls Try.prog 13 #[.slice A xs.length c, .slice A' xs.length c'] w (Ans (.bool (decide (xs = ys))) w) := by
  have HX := Lib.hid h
  have HY := Lib.hid h'
  obtain ⟨n, hn⟩ : ∃ n, n = xs.length := ⟨_, rfl⟩
  have HN := Lib.hid (And.intro hn hl)
  rw [← hn] at hm ⊢
  clear h h' hn hl
  go_enter Try.func13, Try.ntmps13
  go_wp2_with fail
  go_loopw [5] (fun i wr => ∃ k : Nat, k ≤ n ∧ i = .int .i64 k ∧ xs.take k = ys.take k ∧ Below w.heap.size w wr) (fun i _ => n - (intOf i).toNat)
  case atStart => exact ⟨0, by omega, rfl, rfl, Below.refl _ _⟩
  case round =>
    obtain ⟨k, hk, rfl, htk, hb⟩ := hrel
    by_cases hlt : k < n
    · have hkx : k < xs.length := by have := HN.out.1; omega
      have hky : k < ys.length := by have := HN.out.2; omega
      have hx : xs[k]? = some xs[k] := List.getElem?_eq_getElem hkx
      have hy : ys[k]? = some ys[k] := List.getElem?_eq_getElem hky
      obtain ⟨a, rfl, hal, d0, d1, d2⟩ := (HX.out.below hb).se3 hx
      obtain ⟨a', rfl, hal', e0, e1, e2⟩ := (HY.out.below hb).se3 hy
      have HTK := Lib.hid (show xs[k] = ys[k] → xs.take (k + 1) = ys.take (k + 1) from fun e => by rw [take_snoc xs k hkx, take_snoc ys k hky, htk, e])
      have HNE := Lib.hid (show xs[k] ≠ ys[k] → xs ≠ ys from fun e => take_neE hx hy e)
      generalize xs[k] = x at *
      generalize ys[k] = y at *
      have HB := Lib.hid hb
      have HLT := Lib.hid hlt
      have y1 : (0 : Int) ≤ (k : Int) := by omega
      have y2 : (k : Int) < (n : Int) := by omega
      clear hb hx hy hkx hky hlt htk
      by_cases e : x = y
      · have HT2 := Lib.hid (HTK.out e)
        have heq := neq_se x y true (decide_eq_true e)
        clear HTK HNE e
        go_wp2_with fail
        go_quiet (fail)
        go_wp2_with fail
        go_roundw
        case rel => exact ⟨k + 1, HLT.out, by go_num, HT2.out, below_drewN HB.out nq⟩
        case measure => have := HLT.out; simp [intOf]; omega
      · have HT2 := Lib.hid (HNE.out e)
        have heq := neq_se x y false (decide_eq_false e)
        clear HTK HNE e
        go_wp2_with fail
        go_quiet (fail)
        go_wp2_with fail
        go_ret
        rw [decide_eq_false HT2.out]
        exact ⟨rfl, below_drewN HB.out nq⟩
    · have HE := Lib.hid (show xs = ys by
        have := HN.out
        rwa [List.take_of_length_le (by omega), List.take_of_length_le (by omega)] at htk)
      have HB := Lib.hid hb
      clear htk hb
      go_wp2_with fail
      go_ret
      rw [decide_eq_true HE.out]
      exact ⟨rfl, HB.out⟩
theorem sameE_any (A A' : Option Addr) (c c' : Nat) (w : World) (F F' : Nat → Prop) (xs ys : List Se) (h : RdS RSe F w A c xs) (h' : RdS RSe F' w A' c' ys) (hm : xs.length ≤ 100000) :
    Calls Try.prog 13 #[.slice A xs.length c, .slice A' ys.length c'] w (Ans (.bool (decide (xs = ys))) w) := by
  by_cases hl : xs.length = ys.length
  · have := sameE_eq A A' c c' w F F' xs ys h h' hm hl
    rwa [← hl]
  · refine (sameE_len A A' xs.length ys.length c c' w hl).mono ?_
    rintro e w' ⟨rfl, rfl⟩
    rw [decide_eq_false (fun e => hl (by rw [e]))]
    exact ⟨rfl, Below.refl _ _⟩
end Go.Proofs.Ytfbdmemjojjgnaa
