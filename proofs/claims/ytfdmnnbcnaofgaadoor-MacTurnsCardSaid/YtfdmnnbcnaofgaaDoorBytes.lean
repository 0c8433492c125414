import Derived.Test.YtfdmnnbcnaofgaaDoorNum
import Derived.WalkSpells
namespace Go.Proofs.YtfdmnnbcnaofgaaDoor
open Go.RowKit
open Pk

theorem copyBytes_any (A : Option Addr) (n c : Nat) (l : List UInt8) (w : World) (h : Rd w A n (l.map bv)) (hn : n ≤ 1099511627776) :
    Calls Tryd.prog 14 #[.slice A n c] w (Fresh1 l w) := by
  obtain ⟨i0, hi, hz0, hz1, hz2⟩ := info_parts info_u8
  have HN := Lib.hid hn
  clear hn
  go_enter Tryd.func14, Tryd.ntmps14
  go_wp2_with (at_builtin
               refine wpList_append_rd _ rfl _ _ 22 rfl w.heap.size 5 i0 _ 1 Tryd.underlying22 hi hz0 hz1 hz2 rfl (some ⟨w.heap.size, 0, none⟩) 0 0 ([].map bv) rfl (own_empty w) A n c (l.map bv) rfl
                 (h.alloc _) (oneCell_bytes l) (by have := HN.out; simp only [maxLen]; omega) (by have := HN.out; omega) (by simp) ?_
               intro A2 c2 w2 hown2 hg2 hrow2)
  go_ret
  refine ⟨A2, n, c2, rfl, by simpa [OwnB] using hown2, ?_⟩
  exact ((Below.refl _ _).alloc (Nat.le_refl _) _).grown hg2 (by simp) (fun k e => by simp [Value.ownBlock] at e; omega)

theorem clone_nil (n c : Nat) (w : World) : Calls Tryd.prog 39 #[.slice none n c] w (Fresh1 [] w) := by
  have hnil := fun w => Lib.run_eql_slice_nil (P := Tryd.prog) w 22 5 none n c 0 0 Tryd.underlying22
  go_enter Tryd.func39, Tryd.ntmps39
  go_wp2
  go_ret
  exact ⟨none, 0, 0, rfl, OwnB.nil_ _ _, Below.refl _ _⟩

theorem clone_some (a : Addr) (n c : Nat) (l : List UInt8) (w : World) (h : Rd w (some a) n (l.map bv)) (hn : n ≤ 1099511627776) :
    Calls Tryd.prog 39 #[.slice (some a) n c] w (Fresh1 l w) := by
  obtain ⟨i0, hi, hz0, hz1, hz2⟩ := info_parts info_u8
  have HN := Lib.hid hn
  clear hn
  have hnil := fun w => Lib.run_eql_slice_nil (P := Tryd.prog) w 22 5 (some a) n c 0 0 Tryd.underlying22
  go_enter Tryd.func39, Tryd.ntmps39
  go_wp2_with (at_builtin
               refine wpList_append_rd _ rfl _ _ 22 rfl w.heap.size 5 i0 _ 1 Tryd.underlying22 hi hz0 hz1 hz2 rfl (some ⟨w.heap.size, 0, none⟩) 0 0 ([].map bv) rfl (own_empty w) (some a) n c (l.map bv) rfl
                 (h.alloc _) (oneCell_bytes l) (by have := HN.out; simp only [maxLen]; omega) (by have := HN.out; omega) (by simp) ?_
               intro A2 c2 w2 hown2 hg2 hrow2)
  go_ret
  refine ⟨A2, n, c2, rfl, by simpa [OwnB] using hown2, ?_⟩
  exact ((Below.refl _ _).alloc (Nat.le_refl _) _).grown hg2 (by simp) (fun k e => by simp [Value.ownBlock] at e; omega)

theorem Rd.none_nil {w : World} {n : Nat} {xs : List Value} (h : Rd w none n xs) : xs = [] := by
  cases xs with
  | nil => rfl
  | cons u r => obtain ⟨_, h, _⟩ := h.2 0 u rfl; cases h

theorem clone_any (A : Option Addr) (n c : Nat) (l : List UInt8) (w : World) (h : Rd w A n (l.map bv)) (hn : n ≤ 1099511627776) :
    Calls Tryd.prog 39 #[.slice A n c] w (Fresh1 l w) := by
  rcases A with _ | a
  · have := h.none_nil
    simp at this
    subst this
    exact clone_nil n c w
  · exact clone_some a n c l w h hn

/-- the marks that Spare lays behind -/
def marks : Nat → List UInt8
  | 0 => []
  | k + 1 => marks k ++ [UInt8.ofNat (201 + k)]
theorem marks_len (k : Nat) : (marks k).length = k := by induction k with | zero => rfl | succ k ih => simp [marks, ih]
theorem byte_mark {k : Nat} (h : k < 8) : bv (UInt8.ofNat (201 + k)) = .int .u8 (201 + (k : Int)) := by
  unfold bv
  congr 1
  have : (UInt8.ofNat (201 + k)).toNat = 201 + k := by simp; omega
  rw [this]; omega

set_option maxHeartbeats 800000 in
theorem spare_any (A : Option Addr) (n c : Nat) (l : List UInt8) (w : World) (h : Rd w A n (l.map bv)) (hn : n ≤ 1099511627776) :
    Calls Tryd.prog 11 #[.slice A n c] w (Fresh1 (l ++ marks 8) w) := by
  obtain ⟨i0, hi, hz0, hz1, hz2⟩ := info_parts info_u8
  have H := Lib.hid (copyBytes_any A n c l w h hn)
  have hl : l.length = n := by simpa using h.1
  have HN := Lib.hid hn
  have HL := Lib.hid hl
  clear hn h hl
  go_enter Tryd.func11, Tryd.ntmps11
  go_wp2_with fail
  refine H.out.mono ?_
  rintro e w1 ⟨A1, n1, c1, rfl, ho, hb⟩
  go_wp2_with fail
  go_loopw [3, 4] (fun s i wr => ∃ (A' : Option Addr) (n' c' k : Nat), k ≤ 8 ∧ s = .slice A' n' c' ∧ i = .int .i64 k ∧ OwnB wr w.heap.size A' n' c' (l ++ marks k) ∧ Below w.heap.size w wr) (fun _ i _ => 8 - (intOf i).toNat)
  case atStart => exact ⟨A1, n1, c1, 0, by omega, rfl, rfl, by simpa [marks] using ho, hb⟩
  case round =>
    obtain ⟨A', n', c', k, hk, rfl, rfl, ho', hb'⟩ := hrel
    have hlen := Lib.hid (show n' ≤ 1099511627784 by
      have e1 := OwnB.len ho'
      simp only [List.length_append, marks_len, HL.out] at e1
      have := HN.out
      omega)
    have hs := hb'.size
    by_cases hlt : k < 8
    · have HM := Lib.hid (show [Value.int .u8 (201 + (k : Int))] = [UInt8.ofNat (201 + k)].map bv by rw [List.map_cons, byte_mark hlt]; rfl)
      go_wp2_with (at_builtin
                   refine wpList_append_rd _ rfl _ _ 22 rfl w.heap.size 5 i0 _ 1 Tryd.underlying22 hi hz0 hz1 hz2 rfl A' n' c' ((l ++ marks k).map bv) rfl (World.ownsRow.alloc ho' _) (some ⟨wr.heap.size, 0, none⟩) 1 1 [.int .u8 (201 + (k : Int))] rfl
                     (Rd.new wr [Value.int .u8 (201 + (k : Int))] 5) (by simp [Value.oneCell']) (by have := hlen.out; simp only [maxLen]; omega) (by have := hlen.out; omega) (by simp; omega) ?_
                   intro A2 c2 w2 hown2 hg2 hrow2)
      go_roundw
      case rel =>
        refine ⟨A2, n' + 1, c2, k + 1, by omega, rfl, by go_num, ?_, ?_⟩
        · unfold OwnB
          have e : (l ++ marks (k + 1)).map bv = (l ++ marks k).map bv ++ [.int .u8 (201 + (k : Int))] := by rw [HM.out, ← List.map_append]; simp [marks]
          rw [e]; exact hown2
        · have b2 := hb'.alloc hb'.size (.cells #[.int .u8 (201 + (k : Int))] 5)
          exact b2.grown hg2 b2.size (OwnB.block ho')
      case measure => simp [intOf]; omega
    · have e8 : k = 8 := by omega
      subst e8
      go_wp2
      go_ret
      exact ⟨A', n', c', rfl, ho', hb'⟩
end Go.Proofs.YtfdmnnbcnaofgaaDoor
