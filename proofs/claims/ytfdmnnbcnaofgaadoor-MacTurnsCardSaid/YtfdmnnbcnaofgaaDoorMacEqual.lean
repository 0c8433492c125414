import Derived.Test.YtfdmnnbcnaofgaaDoorMacTag
import Derived.Laws.IdiomStrings
import Derived.Laws.BytesArg
namespace Go.Proofs.YtfdmnnbcnaofgaaDoor
open Go.RowKit
open Pk Sh
set_option linter.unusedVariables false

theorem conv_rd (A : Option Addr) (n c : Nat) (l : List UInt8) (w : World) (h : Rd w A n (l.map bv)) :
    (convert 22 9 (.slice A n c)).run Tryd.prog w = .ok (.string ⟨l.toArray⟩) w := by
  have hx : l.length = n := by simpa using h.1
  rcases A with _ | a
  · have := h.none_nil
    simp at this
    subst this
    rw [run_convert_bytes_nil w 22 5 Tryd.underlying22 Tryd.underlying5 n c 9 Tryd.underlying9]
    rfl
  · subst hx
    refine run_convert_bytes_back w 22 9 5 a c l Tryd.underlying22 Tryd.underlying5 Tryd.underlying9 (fun j hj => ?_)
    obtain ⟨a', e, _, hc⟩ := h.2 j (bv l[j]) (by simp [hj])
    have e3 : a = a' := Option.some.inj e
    rw [e3]; exact hc

theorem equal_any (A B : Option Addr) (n c m d : Nat) (x y : List UInt8) (w : World) (h : Rd w A n (x.map bv)) (h' : Rd w B m (y.map bv)) :
    Calls Tryd.prog 45 #[.slice A n c, .slice B m d] w fun e w' => e = .returned (.bool (decide (x = y))) ∧ w = w' := by
  have h1 := conv_rd A n c x w h
  have h2 := conv_rd B m d y w h'
  have hd : (x == y) = decide (x = y) := by by_cases e : x = y <;> simp [e]
  have HD := Lib.hid hd
  clear hd h h'
  go_enter Tryd.func45, Tryd.ntmps45
  go_wp2
  go_ret
  exact ⟨ret_bool HD.out, rfl⟩

/-- is a number among these? -/
def inL (l : List Int) (x : Int) : Bool := l.any fun b => decide (b = x)
theorem inL_isIn (l : List Int) (i : Nat) : inL l (i : Int) = isIn l i := rfl
theorem inL_at {l : List Int} {k : Nat} {x : Int} (h : k < l.length) (e : l[k] = x) : inL l x = true := List.any_eq_true.2 ⟨l[k], List.getElem_mem h, by simp [e]⟩
theorem inL_step {l : List Int} {k : Nat} {x : Int} (h : k < l.length) (h0 : inL (l.take k) x = false) (e : l[k] ≠ x) : inL (l.take (k + 1)) x = false := by
  unfold inL at *
  rw [List.take_succ_eq_append_getElem h, List.any_append, h0]
  simp [e]
theorem index_any (A : Option Addr) (n c : Nat) (l : List Int) (x : Int) (w : World) (h : Rd w A n (l.map iv)) (hn : n ≤ 4294967296) :
    Calls Tryd.prog 58 #[.slice A n c, .int .i64 x] w fun e w' => (∃ r : Int, e = .returned (.int .i64 r) ∧ decide (0 ≤ r) = inL l x) ∧ w = w' := by
  have hx : l.length = n := by simpa using h.1
  have HX := Lib.hid hx
  clear hx
  go_enter Tryd.func58, Tryd.ntmps58
  go_wp2
  go_loop [8] (fun i => ∃ k : Nat, k ≤ n ∧ i = .int .i64 k ∧ inL (l.take k) x = false) (fun i => n - (intOf i).toNat)
  case atStart => exact ⟨0, by omega, rfl, rfl⟩
  case round =>
    obtain ⟨k, hk, rfl, hf⟩ := hrel
    by_cases hlt : k < n
    · obtain ⟨a, rfl, hba, hc⟩ := h.at_ hlt
      have hkl : k < l.length := by rw [HX.out]; exact hlt
      have gx : (l.map iv).getD k undef = .int .i64 l[k] := by
        rw [getD_eq (by simpa using hkl)]; simp [iv]
      rw [gx] at hc
      have hat := inL_at (x := x) hkl
      have hst := inL_step (x := x) hkl hf
      generalize l[k] = v at *
      have e1 : (0 : Int) ≤ (k : Int) := by omega
      have e2 : (k : Int) < (n : Int) := by omega
      clear gx hba hf
      by_cases hv : v = x
      · have HF := Lib.hid (hat hv)
        clear hat hst
        subst hv
        go_wp2
        go_ret
        exact ⟨⟨_, rfl, by rw [HF.out]; simp⟩, rfl⟩
      · have HF := Lib.hid (hst hv)
        have hb : (x == v) = false := by rw [beq_eq_false_iff_ne]; exact fun e => hv e.symm
        clear hat hst
        go_wp2
        go_round
        case rel => exact ⟨k + 1, by omega, by go_num, HF.out⟩
        case measure => simp [intOf]; omega
    · have e : l.take k = l := List.take_of_length_le (by have := HX.out; omega)
      rw [e] at hf
      have HF := Lib.hid hf
      clear hf e
      go_wp2
      go_ret
      exact ⟨⟨_, rfl, by rw [HF.out]; rfl⟩, rfl⟩
theorem contains_any (A : Option Addr) (n c : Nat) (l : List Int) (x : Int) (w : World) (h : Rd w A n (l.map iv)) (hn : n ≤ 4294967296) :
    Calls Tryd.prog 41 #[.slice A n c, .int .i64 x] w fun e w' => e = .returned (.bool (inL l x)) ∧ w = w' := by
  have H := Lib.hid (index_any A n c l x w h hn)
  clear h
  go_enter Tryd.func41, Tryd.ntmps41
  go_wp2_with fail
  refine H.out.mono ?_
  rintro e w1 ⟨⟨r, rfl, hr⟩, rfl⟩
  have HR := Lib.hid hr
  clear hr
  go_wp2_with fail
  go_ret
  exact ⟨ret_bool HR.out, rfl⟩
end Go.Proofs.YtfdmnnbcnaofgaaDoor
