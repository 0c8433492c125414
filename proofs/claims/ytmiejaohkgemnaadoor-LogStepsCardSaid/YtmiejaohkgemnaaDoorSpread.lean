import Derived.Test.YtmiejaohkgemnaaDoorShaMem
import Derived.BigRegion
namespace Go.Proofs.YtmiejaohkgemnaaDoor
open Go.RowKit
open Sh

def Words (ws : List UInt32) (w : World) (e : Ending) (w' : World) : Prop := e = .returned (.agg (ws.map wv).toArray) ∧ Below w.heap.size w w'
/-- the 64 bytes b from cell 8 of block g on -/
def Blk64 (w : World) (g : Nat) (b : List UInt8) : Prop := b.length = 64 ∧ g < w.heap.size ∧ ∀ i, i < 64 → w.cell? ⟨g, 8 + i, none⟩ = some (bv (b.getD i 0))

/-- the words ws, and zeros up to 64 -/
def rowW (ws : List UInt32) : List Value := ws.map wv ++ List.replicate (64 - ws.length) (.int .u32 0)

theorem rowW_zero {ws : List UInt32} {n : Nat} (h : ws.length = n) (h2 : n < 64) : (rowW ws)[n]? = some (.int .u32 0) := by
  unfold rowW
  rw [List.getElem?_append_right (by simp [h]), List.getElem?_replicate, if_pos (by simp [h]; omega)]
theorem rowW_at {ws : List UInt32} {i : Nat} (h : i < ws.length) : (rowW ws)[i]? = some (.int .u32 ((ws.getD i 0).toNat : Int)) := by
  unfold rowW
  rw [List.getElem?_append_left (by simpa using h)]
  simp [wv, h]
theorem rowW_set {ws : List UInt32} {n : Nat} (x : UInt32) (h : ws.length = n) (h2 : n < 64) : (rowW ws).set n (.int .u32 (x.toNat : Int)) = rowW (ws ++ [x]) := by
  unfold rowW
  have e : 64 - ws.length = (64 - (ws ++ [x]).length) + 1 := by simp; omega
  rw [e, List.replicate_succ, List.set_append_right _ _ (by simp [h]), show n - (ws.map wv).length = 0 by simp [h]]
  simp [wv]
set_option maxHeartbeats 1000000 in
set_option maxRecDepth 100000 in
theorem spread_any (g : Nat) (b : List UInt8) (w : World) (h : Blk64 w g b) :
    Calls Tryd.prog 89 #[.pointer (some ⟨g, 0, none⟩)] w (Words (spread b 64) w) := by
  obtain ⟨hlen, hgl, hcell⟩ := h
  have HL := Lib.hid hlen
  have HC := Lib.hid hcell
  clear hlen hcell
  go_enter Tryd.func89, Tryd.ntmps89
  go_wp2_with fail
  go_loopw [9] (fun i wr => ∃ n : Nat, n ≤ 16 ∧ i = .int .i64 n ∧ Bk wr (w.heap.size + 1) 123 (rowW (spread b n)) ∧ Bk wr w.heap.size 123 (rowW []) ∧ Below w.heap.size w wr) (fun i _ => 16 - (intOf i).toNat)
  case atStart => exact ⟨0, by omega, rfl, bk_new2 w _ (rowW []) _, (Bk.new w _ (rowW [])).alloc _, ((Below.refl _ _).alloc (Nat.le_refl _) _).alloc (by simp) _⟩
  case round =>
    obtain ⟨n, hn, rfl, hb1, hb0, hbl⟩ := hrel
    by_cases hlt : n < 16
    · have HW := Lib.hid (show word4 (b.getD (4 * n) 0) (b.getD (4 * n + 1) 0) (b.getD (4 * n + 2) 0) (b.getD (4 * n + 3) 0) = next b (spread b n) n by simp only [next, if_pos hlt]; rfl)
      have c0 : wr.cell? ⟨g, 8 + 4 * n, none⟩ = some (.int .u8 ((b.getD (4 * n) 0).toNat : Int)) := (hbl.cell (p := ⟨g, 8 + 4 * n, none⟩) hgl).trans (HC.out (4 * n) (by omega))
      have c1 : wr.cell? ⟨g, 8 + 4 * n + 1, none⟩ = some (.int .u8 ((b.getD (4 * n + 1) 0).toNat : Int)) := (hbl.cell (p := ⟨g, 8 + 4 * n + 1, none⟩) hgl).trans (HC.out (4 * n + 1) (by omega))
      have c2 : wr.cell? ⟨g, 8 + 4 * n + 2, none⟩ = some (.int .u8 ((b.getD (4 * n + 2) 0).toNat : Int)) := (hbl.cell (p := ⟨g, 8 + 4 * n + 2, none⟩) hgl).trans (HC.out (4 * n + 2) (by omega))
      have c3 : wr.cell? ⟨g, 8 + 4 * n + 3, none⟩ = some (.int .u8 ((b.getD (4 * n + 3) 0).toNat : Int)) := (hbl.cell (p := ⟨g, 8 + 4 * n + 3, none⟩) hgl).trans (HC.out (4 * n + 3) (by omega))
      generalize b.getD (4 * n) 0 = x0 at c0 HW
      generalize b.getD (4 * n + 1) 0 = x1 at c1 HW
      generalize b.getD (4 * n + 2) 0 = x2 at c2 HW
      generalize b.getD (4 * n + 3) 0 = x3 at c3 HW
      have hword := word_wv x0 x1 x2 x3
      have hs : ∀ wx, (Instr.sliceAt 128 (.pointer (some ⟨g, 8, none⟩)) (some (.int .i64 (4 * (n : Int)))) (some (.int .i64 (4 * (n : Int) + 4))) none).run Tryd.prog wx = .ok (.slice (some ⟨g, 8 + 4 * n, none⟩) 4 (64 - 4 * n)) wx := by
        intro wx
        have := piece_lh g 8 (4 * n) (4 * n + 4) (by omega) (by omega) (by omega) wx
        simpa using this
      have hz : wr.cell? ⟨w.heap.size + 1, n, none⟩ = some (.int .u32 0) := hb1.at_ (rowW_zero (spread_len b n) (by omega))
      have hf := hb1.frozen n
      go_wp2_with fail
      go_region
      go_wp2_with fail
      go_roundw
      case rel =>
        refine ⟨n + 1, by omega, by go_num, ?_, (hb0.far (by simp) _).drewN _, below_drewN (below_set hbl (by omega) _ _) _⟩
        have e := hb1.set n (.int .u32 ((word4 x0 x1 x2 x3).toNat : Int))
        rw [rowW_set _ (spread_len b n) (by omega)] at e
        show Bk _ _ _ (rowW (spread b n ++ [next b (spread b n) n]))
        rw [← HW.out]
        exact e.drewN _
      case measure => simp [intOf]; omega
    · have e16 : n = 16 := by omega
      have e16' : ((n : Nat) : Int) = 16 := by omega
      rw [e16']
      subst e16
      clear e16'
      go_wp2_with fail
      go_loopw [6] (fun i wr => ∃ n : Nat, 16 ≤ n ∧ n ≤ 64 ∧ i = .int .i64 n ∧ Bk wr (w.heap.size + 1) 123 (rowW (spread b n)) ∧ Bk wr w.heap.size 123 (rowW []) ∧ Below w.heap.size w wr) (fun i _ => 64 - (intOf i).toNat)
      case atStart => exact ⟨16, by omega, by omega, rfl, hb1, hb0, hbl⟩
      case round =>
        clear hb1 hb0 hbl
        obtain ⟨n, hn0, hn, rfl, hb1, hb0, hbl⟩ := hrel
        by_cases hlt : n < 64
        · have hl := spread_len b n
          have HW := Lib.hid (show sg1 ((spread b n).getD (n - 2) 0) + (spread b n).getD (n - 7) 0 + sg0 ((spread b n).getD (n - 15) 0) + (spread b n).getD (n - 16) 0 = next b (spread b n) n by simp only [next, if_neg (show ¬ n < 16 by omega)])
          have c2 : ∀ k, k < n → @World.cell? wr ⟨w.heap.size + 1, k, none⟩ = some (.int .u32 (((spread b n).getD k 0).toNat : Int)) := fun k hk => hb1.at_ (rowW_at (by omega))
          have d2 := c2 (n - 2) (by omega)
          have d7 := c2 (n - 7) (by omega)
          have d15 := c2 (n - 15) (by omega)
          have d16 := c2 (n - 16) (by omega)
          generalize (spread b n).getD (n - 2) 0 = x2 at d2 HW
          generalize (spread b n).getD (n - 7) 0 = x7 at d7 HW
          generalize (spread b n).getD (n - 15) 0 = x15 at d15 HW
          generalize (spread b n).getD (n - 16) 0 = x16 at d16 HW
          have hsg1 := sg1_wv x2
          have hsg0 := sg0_wv x15
          have hsum := Lib.hid (add4_wv (sg1 x2) x7 (sg0 x15) x16)
          have hz : wr.cell? ⟨w.heap.size + 1, n, none⟩ = some (.int .u32 0) := hb1.at_ (rowW_zero hl hlt)
          have hf := hb1.frozen n
          have H1 := Lib.hid hb1
          have H2 := Lib.hid c2
          clear hb1 c2
          go_wp2_with fail
          go_quiet (fail)
          go_wp2_with fail
          refine (right_any x2 17 _ (by omega) (by omega)).mono ?_
          rintro e w1 ⟨rfl, m1, rfl⟩
          go_wp2_with fail
          refine (right_any x2 19 _ (by omega) (by omega)).mono ?_
          rintro e w2 ⟨rfl, m2, rfl⟩
          go_wp2_with fail
          refine (right_any x15 7 _ (by omega) (by omega)).mono ?_
          rintro e w3 ⟨rfl, m3, rfl⟩
          go_wp2_with fail
          refine (right_any x15 18 _ (by omega) (by omega)).mono ?_
          rintro e w4 ⟨rfl, m4, rfl⟩
          go_wp2_with fail
          go_region
          go_wp2_with fail
          go_roundw
          case rel =>
            refine ⟨n + 1, by omega, by omega, by go_num, ?_, (hb0.far (by simp) _).drewN _, below_drewN (below_set hbl (by omega) _ _) _⟩
            have e := H1.out.set n (.int .u32 ((sg1 x2 + x7 + sg0 x15 + x16).toNat : Int))
            rw [hsum.out]
            rw [rowW_set _ hl (by omega)] at e
            show Bk _ _ _ (rowW (spread b n ++ [next b (spread b n) n]))
            rw [← HW.out]
            exact e.drewN _
          case measure => simp [intOf]; omega
        · have e64 : n = 64 := by omega
          subst e64
          have hw : rowW (spread b 64) = (spread b 64).map wv := by simp [rowW, spread_len]
          rw [hw] at hb1
          have hi : (Tryd.prog.info? 123).map (·.size) = some ((spread b 64).map wv).toArray.size := by rw [info_w64]; simp [spread_len]
          have ht : wr.there w.heap.size 0 ((spread b 64).map wv).toArray.size := hb0.there (by simp [rowW, spread_len])
          have h1 := one_words (spread b 64)
          have hB := hb0.setAll ((spread b 64).map wv) (by simp [rowW, spread_len])
          have hR := below_setCells' (g := w.heap.size) (Nat.le_refl _) ((spread b 64).map wv) 0 hbl
          go_wp2_with (first
            | refine wpList_load_row rfl 123 _ rfl (w.heap.size + 1) rfl 123 ((spread b 64).map wv).toArray (0, 0) _ hb1 Tryd.underlying123 rfl hi ?_
            | refine wpList_store_mid rfl 123 _ _ rfl w.heap.size 0 ((spread b 64).map wv).toArray rfl rfl ht hi h1 ?_)
          refine bodyPost_ret_by (results_cell_row rfl _ _ w.heap.size 123 _ _ _ rfl hB Tryd.underlying123 rfl hi) rfl ?_
          exact ⟨rfl, hR⟩
end Go.Proofs.YtmiejaohkgemnaaDoor
