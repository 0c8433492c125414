import Derived.Test.YtcibjdodkcfpeaaMem
import Derived.Test.YtcibjdodkcfpeaaTotal
import Derived.Deep.QuietTactic
import Derived.BigQuiet
import Derived.Outline
import Derived.IntWalk
namespace Go.Proofs.Ytcibjdodkcfpeaa
open Go.RowKit

/-- 'returns r, and the world is the old one but for draws' -/
def Quiet (r : Value) (w : World) (e : Ending) (w' : World) : Prop := e = .returned r ∧ ∃ n, w' = w.drewN n

/-- true came back, and what was there is as it was -/
def Tr (w : World) (e : Ending) (w' : World) : Prop := e = .returned (.bool true) ∧ Below w.heap.size w w'
theorem ret_bool {a b : Bool} (h : a = b) : Ending.returned (.bool a) = .returned (.bool b) := by rw [h]
theorem ret_int {k : IntKind} {a b : Int} (h : a = b) : Ending.returned (.int k a) = .returned (.int k b) := by rw [h]

theorem bv_ne {a b : UInt8} (h : a ≠ b) : ((a.toNat : Int) == (b.toNat : Int)) = false := by
  rw [beq_eq_false_iff_ne]; intro e; exact h (UInt8.toNat_inj.1 (by omega))

theorem sameBytes_len (A A' : Option Addr) (n n' c c' : Nat) (w : World) (hn : n ≠ n') :
    Calls Try.prog 23 #[.slice A n c, .slice A' n' c'] w (Quiet (.bool false) w) := by
  have h1 : ((n : Int) != (n' : Int)) = true := by rw [bne_iff_ne]; omega
  go_enter Try.func23, Try.ntmps23
  go_wp2
  go_ret
  exact ⟨rfl, 0, rfl⟩

theorem sameBytes_eq (A A' : Option Addr) (n c c' : Nat) (w : World) (xs ys : List UInt8) (h : Rd w A n (xs.map bv)) (h' : Rd w A' n (ys.map bv)) (hm : n ≤ maxLen) :
    Calls Try.prog 23 #[.slice A n c, .slice A' n c'] w (Quiet (.bool (decide (xs = ys))) w) := by
  unfold maxLen at hm
  have h1 : ((n : Int) != (n : Int)) = false := by simp
  have hx : xs.length = n := by simpa using h.1
  have hy : ys.length = n := by simpa using h'.1
  go_enter Try.func23, Try.ntmps23
  go_wp2
  go_loopw [5] (fun i wr => ∃ k m : Nat, k ≤ n ∧ i = .int .i64 k ∧ wr = w.drewN m ∧ xs.take k = ys.take k) (fun i _ => n - (intOf i).toNat)
  case atStart => exact ⟨0, 0, Nat.zero_le _, rfl, rfl, by simp⟩
  case round =>
    obtain ⟨k, m, hk, rfl, rfl, ht⟩ := hrel
    by_cases hlt : k < n
    · obtain ⟨a, rfl, hb, hc⟩ := h.at_ hlt
      obtain ⟨a', rfl, hb', hc'⟩ := h'.at_ hlt
      have gx : (xs.map bv).getD k undef = .int .u8 ((xs[k]'(by omega)).toNat : Int) := by simp [bv, hx, hlt]
      have gy : (ys.map bv).getD k undef = .int .u8 ((ys[k]'(by omega)).toNat : Int) := by simp [bv, hy, hlt]
      rw [gx] at hc
      rw [gy] at hc'
      have e1 : (0 : Int) ≤ (k : Int) := by omega
      have e2 : (k : Int) < (n : Int) := by omega
      clear gx gy h h' hb hb'
      have tx := take_snoc xs k (by omega)
      have ty := take_snoc ys k (by omega)
      by_cases hxy : xs[k]'(by omega) = ys[k]'(by omega)
      · have T := Lib.hid (show xs.take (k + 1) = ys.take (k + 1) by rw [tx, ty, ht, hxy])
        have hb : (((xs[k]'(by omega)).toNat : Int) != ((ys[k]'(by omega)).toNat : Int)) = false := by rw [hxy]; simp
        clear tx ty ht hxy
        go_wp2
        go_quiet (fail)
        go_wp2
        go_roundw
        case rel => exact ⟨k + 1, _, by omega, by go_num, rfl, T.out⟩
        case measure => simp [intOf]; omega
      · have hne : ¬ xs = ys := fun e => hxy (by subst e; rfl)
        have hd := Lib.hid (show decide (xs = ys) = false by simp [hne])
        have hb : (((xs[k]'(by omega)).toNat : Int) != ((ys[k]'(by omega)).toNat : Int)) = true := by
          rw [bne_iff_ne]; intro e; exact hxy (UInt8.toNat_inj.1 (by omega))
        clear tx ty ht hne hxy
        go_wp2
        go_quiet (fail)
        go_wp2
        go_ret
        exact ⟨ret_bool hd.out.symm, _, World.drewN_drewN w _ _⟩
    · have hd := Lib.hid (show decide (xs = ys) = true by
        have e : k = n := by omega
        subst e
        rw [List.take_of_length_le (by omega), List.take_of_length_le (by omega)] at ht
        simp [ht])
      clear ht h h'
      go_wp2
      go_ret
      exact ⟨ret_bool hd.out.symm, _, rfl⟩

/-- SameBytes: are they the same bytes? -/
theorem sameBytes_any (A A' : Option Addr) (n n' c c' : Nat) (w : World) (xs ys : List UInt8) (h : Rd w A n (xs.map bv)) (h' : Rd w A' n' (ys.map bv)) (hm : n ≤ maxLen) :
    Calls Try.prog 23 #[.slice A n c, .slice A' n' c'] w (Quiet (.bool (decide (xs = ys))) w) := by
  by_cases e : n = n'
  · subst e; exact sameBytes_eq A A' n c c' w xs ys h h' hm
  · have hx : xs.length = n := by simpa using h.1
    have hy : ys.length = n' := by simpa using h'.1
    have hd : decide (xs = ys) = false := by
      simp only [decide_eq_false_iff_not]; intro q; subst q; omega
    rw [hd]
    exact sameBytes_len A A' n n' c c' w e
/-- of two slices that read alike -/
theorem sameBytes_self (A A' : Option Addr) (n n' c c' : Nat) (w : World) (xs : List UInt8) (h : Rd w A n (xs.map bv)) (h' : Rd w A' n' (xs.map bv)) (hm : n ≤ maxLen) :
    Calls Try.prog 23 #[.slice A n c, .slice A' n' c'] w (Quiet (.bool true) w) := by
  have := sameBytes_any A A' n n' c c' w xs xs h h' hm
  simpa using this
end Go.Proofs.Ytcibjdodkcfpeaa
