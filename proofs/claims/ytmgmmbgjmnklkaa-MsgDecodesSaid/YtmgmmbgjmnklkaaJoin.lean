import Derived.Test.YtmgmmbgjmnklkaaMRows
import Derived.Test.YtmgmmbgjmnklkaaMNum
namespace Go.Proofs.Ytmgmmbgjmnklkaa
set_option maxRecDepth 100000
open Go.RowKit
open Pk
set_option linter.unusedVariables false

/-- a list of fields as bytes -/
def joinN : List (List UInt8) → List UInt8
  | [] => []
  | l :: r => encN l.length ++ l ++ joinN r
theorem joinN_append (a b : List (List UInt8)) : joinN (a ++ b) = joinN a ++ joinN b := by
  induction a with
  | nil => rfl
  | cons x r ih => simp only [List.cons_append, joinN, ih, List.append_assoc]
theorem joinN_len {ls : List (List UInt8)} (h : total ls ≤ 68719476736) : (joinN ls).length ≤ 10 * total ls := by
  induction ls with
  | nil => simp [joinN]
  | cons x r ih =>
    simp only [total] at h
    have := ih (by omega)
    have := encN_len9 (v := x.length) (by omega)
    simp only [joinN, total, List.length_append]
    omega
/-- has a field too many bytes? -/
def longField (ls : List (List UInt8)) : Bool := ls.any fun l => decide (65536 < l.length)
/-- is it refused? -/
def joinBad (ls : List (List UInt8)) : Bool := decide (1024 < ls.length) || longField ls

/-- Join's answer -/
def JoinPost (ls : List (List UInt8)) (w : World) (e : Ending) (w' : World) : Prop :=
  Below w.heap.size w w' ∧ ((joinBad ls = true ∧ e = .returned (.tuple #[.slice none 0 0, .int .i64 13])) ∨
    (joinBad ls = false ∧ ∃ A n c, e = .returned (.tuple #[.slice A n c, .int .i64 0]) ∧ OwnB w' w.heap.size A n c (joinN ls)))

theorem longField_at {ls : List (List UInt8)} {l : List UInt8} (h : l ∈ ls) (hl : 65536 < l.length) : longField ls = true :=
  List.any_eq_true.2 ⟨l, h, by simpa using hl⟩
theorem longField_take (ls : List (List UInt8)) (k : Nat) (h : k < ls.length) (h0 : longField (ls.take k) = false) (h1 : (ls.getD k []).length ≤ 65536) : longField (ls.take (k + 1)) = false := by
  rw [take_snocD ls [] k h]
  unfold longField at *
  rw [List.any_append, h0]
  simp only [List.any_cons, List.any_nil, Bool.or_false, Bool.false_or, decide_eq_false_iff_not]
  omega

theorem join_many (A : Option Addr) (n c : Nat) (ls : List (List UInt8)) (w : World) (hl : ls.length = n) (hn : 1024 < n) : Calls Try.prog 75 #[.slice A n c] w (JoinPost ls w) := by
  have hb : joinBad ls = true := by unfold joinBad; simp; left; omega
  have HB := Lib.hid hb
  clear hb hl
  go_enter Try.func75, Try.ntmps75
  go_wp2
  go_ret2
  exact ⟨Below.refl _ _, .inl ⟨HB.out, rfl⟩⟩

set_option maxHeartbeats 1600000 in
set_option maxRecDepth 100000 in
theorem join_few (A : Option Addr) (n c : Nat) (ls : List (List UInt8)) (w : World) (h : RdRows w A n ls) (ht : total ls ≤ 68719476736) (hn : n ≤ 1024) : Calls Try.prog 75 #[.slice A n c] w (JoinPost ls w) := by
  obtain ⟨i0, hi, hz0, hz1, hz2⟩ := info_parts info_u8
  have hx : ls.length = n := h.1
  have HT := Lib.hid ht
  have HX := Lib.hid hx
  clear ht hx
  go_enter Try.func75, Try.ntmps75
  go_wp2
  go_loopw [4, 12] (fun s i wr => ∃ (A' : Option Addr) (n' c' k : Nat), k ≤ n ∧ s = .slice A' n' c' ∧ i = .int .i64 k ∧ longField (ls.take k) = false ∧ OwnB wr w.heap.size A' n' c' (joinN (ls.take k)) ∧ Below w.heap.size w wr) (fun _ i _ => n - (intOf i).toNat)
  case atStart => exact ⟨none, 0, 0, 0, by omega, rfl, rfl, rfl, OwnB.nil_ _ _, Below.refl _ _⟩
  case round =>
    obtain ⟨A', n', c', k, hk, rfl, rfl, hlf, ho, hb⟩ := hrel
    by_cases hlt : k < n
    · obtain ⟨a, B, d, rfl, hba, hc, hd1, hd2, hr, _⟩ := (h.below hb).at_ hlt
      obtain ⟨_, _, _, e4, hbw, hcw, _, _, hrw, _⟩ := h.at_ hlt
      injection e4 with e4
      subst e4
      have hB : Rd w B (ls.getD k []).length ((ls.getD k []).map bv) := by
        have hcell := (hb.cell (p := a.add k) (by rw [add_block]; exact hbw)).symm.trans hc
        rw [hcw] at hcell
        injection hcell with hcell
        injection hcell with e5 _ _
        rw [← e5]
        exact hrw
      have hsn := take_snocD ls [] k (by rw [HX.out]; exact hlt)
      have hjn : joinN (ls.take (k + 1)) = joinN (ls.take k) ++ encN (ls.getD k []).length ++ ls.getD k [] := by
        rw [hsn, joinN_append]; simp [joinN]
      have hmem := getD_mem (d := ([] : List UInt8)) (show k < ls.length by rw [HX.out]; exact hlt)
      have hlong := fun hh => longField_at hmem hh
      have hshort := longField_take ls k (by rw [HX.out]; exact hlt) hlf
      have hlen := OwnB.len ho
      have hjl := joinN_len (ls := ls.take k) (by have := total_take ls k; have := HT.out; omega)
      have htt := total_take ls k
      have hn' : n' ≤ 687194767360 := by have := HT.out; omega
      have e1 : (0 : Int) ≤ (k : Int) := by omega
      have e2 : (k : Int) < (n : Int) := by omega
      have hs := hb.size
      clear hba hcw hbw hrw hr hlen hjl htt hsn hd1 hd2 hlf hmem
      generalize ls.getD k [] = p at *
      by_cases hp : 65536 < p.length
      · have hbad := Lib.hid (show joinBad ls = true by unfold joinBad; rw [hlong hp]; simp)
        clear hlong hshort hjn hB
        go_wp2
        go_ret2
        exact ⟨hb, .inl ⟨hbad.out, rfl⟩⟩
      · have HS := Lib.hid (hshort (by omega))
        have HJ := Lib.hid hjn
        have HA := Lib.hid (appendNum_ok A' n' c' (joinN (ls.take k)) w.heap.size p.length wr (by omega) ho (by omega) hs)
        have hlp := encN_len9 (v := p.length) (by omega)
        have hlo := OwnB.len ho
        have HLO := Lib.hid hlo
        clear hlong hshort hjn hlo
        go_wp2_with fail
        refine HA.out.mono ?_
        rintro e w1 ⟨A1, n1, c1, rfl, ho1, hg1, hrow1⟩
        have hb1 : Below w.heap.size w w1 := hb.grown hg1 hs (OwnB.block ho)
        have hn1 : n1 ≤ 687194767380 := by
          have e3 := OwnB.len ho1
          have e5 := HLO.out
          rw [List.length_append] at e3
          omega
        have HRD := Lib.hid (hB.below hb1)
        have hs1 := hb1.size
        go_wp2_with (at_builtin
                     refine wpList_append_rd _ rfl _ _ 22 rfl w.heap.size 5 i0 _ 1 Try.underlying22 hi hz0 hz1 hz2 rfl A1 n1 c1 ((joinN (ls.take k) ++ encN p.length).map bv) rfl ho1 B p.length d (p.map bv) rfl
                       HRD.out (oneCell_bytes _) (by simp only [maxLen]; omega) (by omega) hs1 ?_
                     intro A2 c2 w2 hown2 hg2 hrow2)
        go_roundw
        case rel =>
          refine ⟨A2, n1 + p.length, c2, k + 1, by omega, rfl, by go_num, HS.out, ?_, hb1.grown hg2 hs1 (OwnB.block ho1)⟩
          unfold OwnB
          rw [HJ.out, List.map_append]
          exact hown2
        case measure => simp [intOf]; omega
    · have e : ls.take k = ls := List.take_of_length_le (by have := HX.out; omega)
      rw [e] at ho hlf
      have hbad := Lib.hid (show joinBad ls = false by unfold joinBad; rw [hlf]; have := HX.out; simp; omega)
      clear e hlf
      go_wp2
      go_ret2
      exact ⟨hb, .inr ⟨hbad.out, A', n', c', rfl, ho⟩⟩
theorem join_any (A : Option Addr) (n c : Nat) (ls : List (List UInt8)) (w : World) (h : RdRows w A n ls) (ht : total ls ≤ 68719476736) : Calls Try.prog 75 #[.slice A n c] w (JoinPost ls w) := by
  rcases Nat.lt_or_ge 1024 n with hn | hn
  · exact join_many A n c ls w h.1 hn
  · exact join_few A n c ls w h ht hn
end Go.Proofs.Ytmgmmbgjmnklkaa
