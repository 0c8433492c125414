/-
  tally's small parts: two predicates, says, how two votes stand to one another. Walks; no statement.
-/
import Derived.Test.YtckmjpbkcpmdpaaTallyMem
import Derived.Test.YtckmjpbkcpmdpaaShelf
import Derived.Lib.BytesEntry
import Derived.Laws.Externs
namespace Go.Proofs.Ytckmjpbkcpmdpaa
open Go.RowKit Go.Sort Go.Shelf
set_option linter.unusedVariables false

theorem pred_find (a : Int) (B : Nat) (w : World) (hB : B < w.heap.size) (hcell : w.cell? ⟨B, 0, none⟩ = some (.int .i64 a)) :
    PredBelow Try.prog 37 #[.pointer (some ⟨B, 0, none⟩)] (fun x : Vc => .agg (vc1 x).toArray) (fun x => decide (x.v.voter = a)) w := fun W x hb => by
  have hc : W.cell? ⟨B, 0, none⟩ = some (.int .i64 a) := (hb.cell (p := ⟨B, 0, none⟩) hB).trans hcell
  have hBW : B < W.heap.size := Nat.lt_of_lt_of_le hB hb.size
  have hne : B ≠ W.heap.size := by omega
  have HB := Lib.hid hb
  show Calls Try.prog 37 #[.agg #[.int .i64 x.v.voter, .int .i64 x.v.rank, .slice x.ka x.kn x.kc, .slice x.la x.ln x.lc], .pointer (some ⟨B, 0, none⟩)] W fun e w' => e = .returned (.bool (decide (x.v.voter = a))) ∧ Below w.heap.size w w'
  generalize x.v.voter = b
  clear hb hcell
  go_enter Try.func37, Try.ntmps37
  go_wp2
  go_ret
  refine ⟨ret_bool ?_, HB.out.alloc HB.out.size _⟩
  by_cases e : b = a <;> simp [e]
theorem pred_put (a : Int) (B : Nat) (w : World) (hB : B < w.heap.size) (hcell : w.cell? ⟨B, 0, none⟩ = some (.int .i64 a)) :
    PredBelow Try.prog 31 #[.pointer (some ⟨B, 0, none⟩)] (fun x : Vc => .agg (vc1 x).toArray) (fun x => decide (x.v.voter = a)) w := fun W x hb => by
  have hc : W.cell? ⟨B, 0, none⟩ = some (.int .i64 a) := (hb.cell (p := ⟨B, 0, none⟩) hB).trans hcell
  have hBW : B < W.heap.size := Nat.lt_of_lt_of_le hB hb.size
  have hne : B ≠ W.heap.size := by omega
  have HB := Lib.hid hb
  show Calls Try.prog 31 #[.agg #[.int .i64 x.v.voter, .int .i64 x.v.rank, .slice x.ka x.kn x.kc, .slice x.la x.ln x.lc], .pointer (some ⟨B, 0, none⟩)] W fun e w' => e = .returned (.bool (decide (x.v.voter = a))) ∧ Below w.heap.size w w'
  generalize x.v.voter = b
  clear hb hcell
  go_enter Try.func31, Try.ntmps31
  go_wp2
  go_ret
  refine ⟨ret_bool ?_, HB.out.alloc HB.out.size _⟩
  by_cases e : b = a <;> simp [e]
/-- says: has it this rank and key? -/
theorem says_any (x : Vc) (r : Int) (K : Option Addr) (kn kc : Nat) (key : List UInt8) (w : World) (hx : Rd w x.ka x.kn (x.v.key.map bv)) (hk : Rd w K kn (key.map bv)) :
    Calls Try.prog 34 #[.agg #[.int .i64 x.v.voter, .int .i64 x.v.rank, .slice x.ka x.kn x.kc, .slice x.la x.ln x.lc], .int .i64 r, .slice K kn kc] w (Tells (.bool (decide (x.v.rank = r) && decide (x.v.key = key))) w) := by
  generalize x.v.rank = q
  generalize x.v.voter = b
  have HC := Lib.hid (fun o n => equal_any x.ka K x.kn x.kc kn kc x.v.key key ((w.alloc o).drewN n) ((hx.alloc o).drewN n) ((hk.alloc o).drewN n))
  have HB := Lib.hid (fun o n => below_drewN ((Below.refl w.heap.size w).alloc (Nat.le_refl _) o) n)
  clear hx hk
  by_cases e : q = r
  · have hd : (q == r) = true := by simp [e]
    have hr := Lib.hid (show (decide (q = r) && decide (x.v.key = key)) = decide (x.v.key = key) by simp [e])
    rw [hr.out]
    clear e hr
    go_enter Try.func34, Try.ntmps34
    go_wp2_with fail
    refine (HC.out _ 0).mono ?_
    rintro e w2 ⟨rfl, rfl⟩
    go_wp2_with fail
    go_ret
    exact ⟨rfl, HB.out _ 0⟩
  · have hd : (q == r) = false := by simp [e]
    have hr := Lib.hid (show (decide (q = r) && decide (x.v.key = key)) = false by simp [e])
    rw [hr.out]
    clear e hr
    go_enter Try.func34, Try.ntmps34
    go_wp2_with fail
    go_ret
    exact ⟨rfl, HB.out _ 0⟩
theorem cmpInt_any (x y : Int) (w : World) : Calls Try.prog 40 #[.int .i64 x, .int .i64 y] w fun e w' => e = .returned (.int .i64 (Lib.compareInt x y)) ∧ w' = w := by
  have e1 : (x != x) = false := by simp
  have e2 : (y != y) = false := by simp
  have HX := Lib.hid (show Lib.compareInt x y = if x < y then -1 else if y < x then 1 else 0 from rfl)
  rw [HX.out]
  by_cases h1 : x < y
  · have hr := Lib.hid (show (if x < y then (-1 : Int) else if y < x then 1 else 0) = -1 by simp [h1])
    rw [hr.out]
    clear hr HX
    go_enter Try.func40, Try.ntmps40
    go_wp2
    go_ret
    exact ⟨rfl, rfl⟩
  · by_cases h2 : y < x
    · have hr := Lib.hid (show (if x < y then (-1 : Int) else if y < x then 1 else 0) = 1 by simp [h1, h2])
      rw [hr.out]
      clear hr HX
      go_enter Try.func40, Try.ntmps40
      go_wp2
      go_ret
      exact ⟨rfl, rfl⟩
    · have hr := Lib.hid (show (if x < y then (-1 : Int) else if y < x then 1 else 0) = 0 by simp [h1, h2])
      rw [hr.out]
      clear hr HX
      go_enter Try.func40, Try.ntmps40
      go_wp2
      go_ret
      exact ⟨rfl, rfl⟩
theorem run_bytesX (A : Option Addr) (n c : Nat) (x : List UInt8) (w : World) (h : Rd w A n (x.map bv)) : (Extern.Bytes.bytesOf (.slice A n c)).run Try.prog w = .ok ⟨x.toArray⟩ w := by
  have hl : x.length = n := by simpa using h.1
  rcases A with _ | a
  · have := h.none_nil
    simp at this
    subst this
    rfl
  · have e : Lib.bytesOf (x.map fun c => (c.toNat : Int)) = x := by
      simp [Lib.bytesOf, Function.comp_def]
    have := Lib.run_loadBytesX (P := Try.prog) w (x.map fun c => (c.toNat : Int)) a .empty (fun j y hy => by
      rw [List.getElem?_map] at hy
      cases hj : x[j]? with
      | none => rw [hj] at hy; simp at hy
      | some c =>
        rw [hj] at hy
        obtain rfl := Option.some.inj hy
        obtain ⟨a', e1, _, hc⟩ := h.2 j (bv c) (by simp [hj])
        obtain rfl := Option.some.inj e1
        exact hc)
    rw [e, List.length_map, hl] at this
    show (Extern.Bytes.loadBytes a n .empty).run Try.prog w = _
    rw [this]
    congr 1
    simp
theorem run_compareX (A B : Option Addr) (n c m d : Nat) (x y : List UInt8) (w : World) (h : Rd w A n (x.map bv)) (h' : Rd w B m (y.map bv)) :
    (Extern.BytealgCompare.compare #[.slice A n c, .slice B m d]).run Try.prog w = .ok (.int .i64 (cb x y)) w := by
  change Sem.run Try.prog (do pure (goInt (Extern.BytealgCompare.cmp (← Extern.Bytes.bytesOf (.slice A n c)) (← Extern.Bytes.bytesOf (.slice B m d))))) w = _
  simp only [Sem.run_bind, run_bytesX A n c x w h, run_bytesX B m d y w h', Result.andThen, Sem.run_pure]
  rw [Lib.cmp_eq]
  rfl
theorem compare_any (A B : Option Addr) (n c m d : Nat) (x y : List UInt8) (w : World) (h : Rd w A n (x.map bv)) (h' : Rd w B m (y.map bv)) :
    Calls Try.prog 42 #[.slice A n c, .slice B m d] w fun e w' => e = .returned (.int .i64 (cb x y)) ∧ w' = w := by
  have hr := run_compareX A B n c m d x y w h h'
  generalize cb x y = r at hr ⊢
  clear h h'
  go_enter Try.func42, Try.ntmps42
  go_wp2
  rw [run_callFunc_extern Try.func47 (by kernel_rfl) (by kernel_rfl) (by kernel_rfl) (e := Extern.BytealgCompare.compare) (by kernel_rfl), hr]
  simp only [Result.andThen]
  rw [Oper.upon_value]
  go_wp2
  go_ret
  exact ⟨rfl, rfl⟩
theorem or_any (g : Nat) (x y : Int) (w : World) (h : Bk w g 3 [.int .i64 x, .int .i64 y]) :
    Calls Try.prog 41 #[.slice (some ⟨g, 0, none⟩) 2 2] w fun e w' => e = .returned (.int .i64 (if x = 0 then y else x)) ∧ w' = w := by
  obtain ⟨c0, c1⟩ := h.two
  by_cases hx : x = 0
  · have e1 : (x != 0) = false := by simp [hx]
    have hr := Lib.hid (show (if x = 0 then y else x) = y by simp [hx])
    rw [hr.out]
    by_cases hy : y = 0
    · have e2 : (y != 0) = false := by simp [hy]
      have hz := Lib.hid hy
      clear hr hx hy h
      go_enter Try.func41, Try.ntmps41
      go_wp2
      go_loopw [8] (fun i wr => ∃ k : Nat, k ≤ 2 ∧ i = .int .i64 k ∧ wr = w) (fun i _ => 2 - (intOf i).toNat)
      case atStart => exact ⟨0, by omega, rfl, rfl⟩
      case round =>
        obtain ⟨k, hk, rfl, rfl⟩ := hrel
        rcases (show k = 0 ∨ k = 1 ∨ k = 2 by omega) with rfl | rfl | rfl
        · go_wp2
          go_roundw
          case rel => exact ⟨1, by omega, by go_num, by trivial⟩
          case measure => simp [intOf]
        · go_wp2
          go_roundw
          case rel => exact ⟨2, by omega, by go_num, by trivial⟩
          case measure => simp [intOf]
        · go_wp2
          go_ret
          exact ⟨ret_int hz.out.symm, rfl⟩
    · have e2 : (y != 0) = true := by simp [hy]
      clear hr hx hy h
      go_enter Try.func41, Try.ntmps41
      go_wp2
      go_loopw [8] (fun i wr => ∃ k : Nat, k ≤ 1 ∧ i = .int .i64 k ∧ wr = w) (fun i _ => 2 - (intOf i).toNat)
      case atStart => exact ⟨0, by omega, rfl, rfl⟩
      case round =>
        obtain ⟨k, hk, rfl, rfl⟩ := hrel
        rcases (show k = 0 ∨ k = 1 by omega) with rfl | rfl
        · go_wp2
          go_roundw
          case rel => exact ⟨1, by omega, by go_num, by trivial⟩
          case measure => simp [intOf]
        · go_wp2
          go_ret
          exact ⟨rfl, rfl⟩
  · have e1 : (x != 0) = true := by simp [hx]
    have hr := Lib.hid (show (if x = 0 then y else x) = x by simp [hx])
    rw [hr.out]
    clear hr hx h
    go_enter Try.func41, Try.ntmps41
    go_wp2
    go_loopw [8] (fun i wr => i = .int .i64 0 ∧ wr = w) (fun i _ => 2 - (intOf i).toNat)
    case atStart => exact ⟨rfl, rfl⟩
    case round =>
      obtain ⟨rfl, rfl⟩ := hrel
      go_wp2
      go_ret
      exact ⟨rfl, rfl⟩
theorem or_new (X : World) (g : Nat) (x y : Int) (hg : g = X.heap.size) :
    Calls Try.prog 41 #[.slice (some ⟨g, 0, none⟩) 2 2] (X.alloc (.cells #[.int .i64 x, .int .i64 y] 3)).drew fun e w' => e = .returned (.int .i64 (if x = 0 then y else x)) ∧ w' = (X.alloc (.cells #[.int .i64 x, .int .i64 y] 3)).drew := by
  subst hg
  exact or_any _ x y _ (bk_drew (Bk.new X 3 [.int .i64 x, .int .i64 y]))
end Go.Proofs.Ytckmjpbkcpmdpaa
