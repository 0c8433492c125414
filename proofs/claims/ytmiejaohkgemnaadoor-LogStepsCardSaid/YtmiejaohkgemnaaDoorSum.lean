import Derived.Test.YtmiejaohkgemnaaDoorMEnd
import Derived.Test.YtmiejaohkgemnaaDoorMOpen
import Derived.Test.YtmiejaohkgemnaaDoorMBase
namespace Go.Proofs.YtmiejaohkgemnaaDoor
open Go.RowKit
open Sh
set_option linter.unusedVariables false

theorem own_of_bk {w : World} {base g : Nat} {l : List UInt8} {n : Nat} (h : Bk w g 5 (l.map bv)) (hb : base ≤ g) (hn : l.length = n) (hm : n ≤ maxLen) : OwnB w base (some ⟨g, 0, none⟩) n n l :=
  ⟨by simpa using hn, .inr ⟨g, n, _, rfl, hb, h, Nat.le_refl _, hm, by simpa using hn, by
    rw [Nat.mul_one, ← hn]
    show List.take l.length (l.map bv) = _
    exact List.take_of_length_le (by simp)⟩⟩

theorem stCells_one (ws : List UInt32) (blk : List UInt8) (f len : Nat) : ∀ u ∈ stCells ws blk f len, u.oneCell' = true := by
  intro u hu
  unfold stCells at hu
  rcases List.mem_append.1 hu with h | h
  · obtain ⟨x, _, rfl⟩ := List.mem_map.1 h; rfl
  · rcases List.mem_append.1 h with h | h
    · obtain ⟨x, _, rfl⟩ := List.mem_map.1 h; rfl
    · rcases List.mem_cons.1 h with rfl | h
      · rfl
      · rcases List.mem_cons.1 h with rfl | h
        · rfl
        · cases h
/-- the cells of a state ahead of all bytes, and of the zero state -/
def st0 : List Value := stCells init.list (zeros 64) 0 0
def stZ : List Value := stCells [0, 0, 0, 0, 0, 0, 0, 0] (zeros 64) 0 0
theorem st0_len : st0.length = 74 := stCells_len rfl (zeros_len 64) 0 0
theorem stZ_len : stZ.length = 74 := stCells_len rfl (zeros_len 64) 0 0
theorem st0_one : (st0.toArray).all (·.oneCell') = true := all_oneCell_toArray (stCells_one _ _ _ _)
/-- the value that a state begins with -/
def Begun (w : World) (e : Ending) (w' : World) : Prop := e = .returned (.agg st0.toArray) ∧ Below w.heap.size w w'
theorem info_st : (Tryd.prog.info? 130).map (·.size) = some 74 := by kernel_rfl
theorem zero_st (w : World) : (zeroValue 130).run Tryd.prog w = .ok (.agg stZ.toArray) w := by kernel_rfl
theorem set_st : (((((((stZ.set 0 (.int .u32 1779033703)).set 1 (.int .u32 3144134277)).set 2 (.int .u32 1013904242)).set 3 (.int .u32 2773480762)).set 4 (.int .u32 1359893119)).set 5 (.int .u32 2600822924)).set 6 (.int .u32 528734635)).set 7 (.int .u32 1541459225) = st0 := by kernel_rfl

set_option maxHeartbeats 1000000 in
set_option maxRecDepth 100000 in
theorem begin_any (w : World) : Calls Tryd.prog 84 #[] w (Begun w) := by
  have hz := zero_st
  have hset := set_st
  have hB := Bk.new w 130 stZ
  have ht : (w.alloc (.cells stZ.toArray 130)).there w.heap.size 0 st0.toArray.size := hB.there (by rw [List.size_toArray, st0_len, stZ_len]; decide)
  have hi : (Tryd.prog.info? 130).map (·.size) = some st0.toArray.size := by rw [info_st, List.size_toArray, st0_len]
  have h1 := st0_one
  have hB2 := Lib.hid (hB.setAll st0 (by rw [st0_len, stZ_len]))
  have hR := Lib.hid (below_setCells' (g := w.heap.size) (Nat.le_refl _) st0 0 ((Below.refl w.heap.size w).alloc (Nat.le_refl _) (.cells stZ.toArray 130)))
  have hsz := stZ_len
  clear hB
  go_enter Tryd.func84, Tryd.ntmps84
  go_wp2_with (refine wpList_store_mid rfl 130 _ _ rfl w.heap.size 0 st0.toArray rfl rfl ht hi h1 ?_)
  refine bodyPost_ret_by (results_cell_row rfl _ _ w.heap.size 130 _ _ _ rfl hB2.out Tryd.underlying130 rfl hi) rfl ?_
  exact ⟨rfl, hR.out⟩

set_option maxHeartbeats 1000000 in
set_option maxRecDepth 100000 in
theorem sum_any (A : Option Addr) (n c : Nat) (ls : List (List UInt8)) (w : World) (h : RdRows w A n ls) (hT : Tab w) (ht : total ls ≤ 1099511627776) :
    Calls Tryd.prog 78 #[.slice A n c] w (Fresh1 (sum ls.flatten) w) := by
  have hx : ls.length = n := h.1
  have hnn : n ≤ 1099511627776 := by have := total_len ls; omega
  have hz := zero_st
  have hsz := stZ_len
  have HR := Lib.hid h
  have HTb := Lib.hid hT
  have HTO := Lib.hid ht
  have HX := Lib.hid hx
  clear h hT ht hx
  go_enter Tryd.func78, Tryd.ntmps78
  go_wp2_with fail
  refine (begin_any w).mono ?_
  rintro e w1 ⟨rfl, hb1⟩
  have hB := Bk.new w1 130 stZ
  have hth : (w1.alloc (.cells stZ.toArray 130)).there w1.heap.size 0 st0.toArray.size := hB.there (by rw [List.size_toArray, st0_len, stZ_len]; decide)
  have hi : (Tryd.prog.info? 130).map (·.size) = some st0.toArray.size := by rw [info_st, List.size_toArray, st0_len]
  have h1 := st0_one
  have hB2 := hB.setAll st0 (by rw [st0_len, stZ_len])
  have hs0 : w.heap.size ≤ w1.heap.size := hb1.size
  have hR := below_setCells' (g := w1.heap.size) hs0 st0 0 (hb1.alloc hs0 (.cells stZ.toArray 130))
  have HB2 := Lib.hid hB2
  have HBL := Lib.hid hR
  clear hB hB2 hR
  go_wp2_with (with_reducible change wpList _ _ _ _ _ _; refine wpList_store_mid rfl 130 _ _ rfl w1.heap.size 0 st0.toArray rfl rfl hth hi h1 ?_)
  generalize Value.agg st0.toArray = v6
  generalize (w1.alloc (.cells stZ.toArray 130)).setCells w1.heap.size 0 st0 = w2 at HB2 HBL ⊢
  generalize w1.heap.size = g at *
  clear hth hi h1 hb1 hz hsz
  go_loopw [9] (fun i wr => ∃ (k : Nat) (s : S8) (blk : List UInt8) (f : Nat), k ≤ n ∧ i = .int .i64 k ∧ St wr g s blk f (ls.take k).flatten.length ∧ Par (ls.take k).flatten s blk f ∧ Below w.heap.size w wr) (fun i _ => n - (intOf i).toNat)
  case atStart => exact ⟨0, init, zeros 64, 0, by omega, rfl, ⟨zeros_len 64, HB2.out⟩, par_nil _, HBL.out⟩
  case round =>
    obtain ⟨k, s, blk, f, hk, rfl, hs, hp, hb⟩ := hrel
    have hT := HTb.out.below hb HTb.out.1
    have h0 : 0 < g := Nat.lt_of_lt_of_le HTb.out.1 hs0
    have hlk : (ls.take k).flatten.length ≤ 1099511627776 := by
      have e1 := total_flatten (ls.take k)
      have e2 := total_take ls k
      have := HTO.out
      omega
    by_cases hlt : k < n
    · obtain ⟨a, B, d, rfl, hba, hc, hd1, hd2, hr, hbn⟩ := (HR.out.below hb).at_ hlt
      obtain ⟨_, _, _, e4, hbw, hcw, _, _, hrw, _⟩ := HR.out.at_ hlt
      injection e4 with e4
      subst e4
      have hne : 0 < (ls.getD k []).length → ∀ a, B = some a → a.block ≠ g := by
        have hcell := (hb.cell (p := a.add k) (by rw [add_block]; exact hbw)).symm.trans hc
        rw [hcw] at hcell
        injection hcell with hcell
        injection hcell with e5 _ _
        rw [← e5]
        intro q p' e
        obtain ⟨a2, e2, hb2, _⟩ := hrw.at_ q
        rw [e] at e2
        injection e2 with e2
        subst e2
        omega
      have hmem := getD_mem (d := ([] : List UInt8)) (show k < ls.length by rw [HX.out]; exact hlt)
      have hpl := total_mem hmem
      have HW := Lib.hid (write_any g s blk (ls.take k).flatten (ls.getD k []) f _ (ls.getD k []).length d B wr hs hp hT h0 hr hne hd1 (by have := HTO.out; omega) hlk)
      have HN := Lib.hid (show (ls.take (k + 1)).flatten = (ls.take k).flatten ++ ls.getD k [] by rw [take_snocD ls [] k (by rw [HX.out]; exact hlt)]; simp)
      have HB3 := Lib.hid hb
      have e1 : (0 : Int) ≤ (k : Int) := by omega
      have e2 : (k : Int) < (n : Int) := by omega
      clear hs hp hT hr hne hmem hpl hb hcw hrw hbw hba hlk hbn hd1 hd2
      generalize ls.getD k [] = l at HW HN hc
      go_wp2_with fail
      refine HW.out.mono ?_
      rintro e w3 ⟨rfl, s3, blk3, f3, hs3, hp3, hg3⟩
      have HS3 := Lib.hid hs3
      have HP3 := Lib.hid hp3
      have HG3 := Lib.hid (below_of_grown (grown_trans (grown_of_below HB3.out (some g)) hg3 (.inl rfl)) (Nat.le_refl _) (fun g' e => by injection e with e; omega))
      clear hs3 hp3 hg3
      go_wp2_with fail
      go_roundw
      case rel =>
        refine ⟨k + 1, s3, blk3, f3, by omega, by go_num, ?_, ?_, HG3.out⟩
        · rw [HN.out, List.length_append]; exact HS3.out
        · rw [HN.out]; exact HP3.out
      case measure => simp [intOf]; omega
    · have e0 : k = n := by omega
      have htk : ls.take k = ls := List.take_of_length_le (by rw [HX.out]; omega)
      rw [htk] at hs hp hlk
      have HE := Lib.hid (end_any g s blk ls.flatten f _ wr hs hp hT h0 rfl (by omega))
      have HB3 := Lib.hid hb
      clear hs hp hT hb hlk htk
      go_wp2_with fail
      refine HE.out.mono ?_
      rintro e w3 ⟨g', rfl, hg', hb', hgr⟩
      have hsz3 := HB3.out.size
      have hfin : Below w.heap.size w w3 := below_of_grown (grown_trans (grown_of_below HB3.out (some g)) hgr (.inl rfl)) (Nat.le_refl _) (fun g' e => by injection e with e; omega)
      have hown := own_of_bk hb' (show w.heap.size ≤ g' by omega) (sum_len _) (by simp [maxLen])
      clear hb' hgr
      go_wp2_with fail
      go_ret
      exact ⟨_, _, _, rfl, hown, hfin⟩
end Go.Proofs.YtmiejaohkgemnaaDoor
