/-
  Watches: a copy, how many a client has, where one stands. Walks; no statement.
-/
import Derived.Test.YtbppokdaehaocaaDoorWatchDev2
import Derived.Test.YtbppokdaehaocaaDoorMRows
import Derived.Test.YtbppokdaehaocaaDoorStoreCell
namespace Go.Proofs.YtbppokdaehaocaaDoor
set_option maxRecDepth 100000
open Go.RowKit
set_option linter.unusedVariables false

set_option maxHeartbeats 1600000 in
theorem copiedW_any (x : Wt) (w : World) (hp : x.path.length ≤ 64) : Calls Tryd.prog 33 #[.agg (wtC x).toArray] w (Ans (.agg (wtC x).toArray) w) := by
  show Calls _ _ #[.agg #[.int .i64 x.client, .int .i64 x.kind, .string ⟨x.path.toArray⟩]] _ _
  obtain ⟨W2, hW2⟩ : ∃ W2, W2 = (w.alloc (.cells #[.int .i64 x.client, .int .i64 x.kind, .string ⟨x.path.toArray⟩] 31)).alloc (.cells #[.int .i64 0, .int .i64 0, .string ⟨#[]⟩] 31) := ⟨_, rfl⟩
  have HB := Lib.hid (show Below w.heap.size w W2 by rw [hW2]; exact ((Below.refl w.heap.size w).alloc (Nat.le_refl _) _).alloc (by simp) _)
  have HS := Lib.hid (show W2.heap.size = w.heap.size + 2 by rw [hW2]; simp)
  have k0 : Bk W2 w.heap.size 31 [.int .i64 x.client, .int .i64 x.kind, .string ⟨x.path.toArray⟩] := by rw [hW2]; exact (Bk.new w 31 [.int .i64 x.client, .int .i64 x.kind, .string ⟨x.path.toArray⟩]).alloc _
  have HK1 := Lib.hid (show Bk W2 (w.heap.size + 1) 31 [.int .i64 0, .int .i64 0, .string ⟨#[]⟩] by rw [hW2]; exact bk_new2 w _ [.int .i64 0, .int .i64 0, .string ⟨#[]⟩] _)
  have HK0 := Lib.hid k0
  have HC := Lib.hid (fun W => cloneS_any ⟨x.path.toArray⟩ W hp)
  have HWE := Lib.hid hW2
  clear hW2 k0 hp
  go_enter Tryd.func33, Tryd.ntmps33
  go_wp2_with fail
  rw [← HWE.out]
  refine (HC.out _).mono ?_
  rintro e w1 ⟨rfl, hb1⟩
  have hk0 := HK0.out.kept hb1
  have HK1 := Lib.hid (HK1.out.kept hb1)
  have HX := Lib.hid (HB.out.trans (hb1.mono HB.out.size))
  have HS1 := Lib.hid (show w.heap.size + 2 ≤ w1.heap.size by have := hb1.size; rw [HS.out] at this; exact this)
  clear hb1
  go_wp2_with (first
    | (refine wpList_store_cell rfl 9 _ _ rfl w.heap.size 2 (.string ⟨x.path.toArray⟩) rfl rfl rfl rfl (by kernel_rfl) 31 _ hk0 (by simp) ?_; intro w2 hk2 hg2; have hr2 : Bk w2 w.heap.size 31 [.int .i64 x.client, .int .i64 x.kind, .string ⟨x.path.toArray⟩] := hk2.out)
    | (refine wpList_load_row rfl 31 _ rfl w.heap.size rfl 31 #[.int .i64 x.client, .int .i64 x.kind, .string ⟨x.path.toArray⟩] (0, 0) _ hr2 Tryd.underlying31 rfl info_watch3 ?_)
    | (refine wpList_store_bkT rfl 31 _ _ rfl (w.heap.size + 1) [.int .i64 x.client, .int .i64 x.kind, .string ⟨x.path.toArray⟩] rfl rfl 31 [.int .i64 0, .int .i64 0, .string ⟨#[]⟩] (HK1.out.grown hg2.out (by simp)) rfl info_watch3 rfl ?_; intro w5 hk5 hg5))
  refine bodyPost_ret_by (results_row1 rfl _ _ (w.heap.size + 1) 31 _ _ rfl hk5.out Tryd.underlying31 rfl info_watch3) rfl ?_
  exact ⟨rfl, (HX.out.grown hg2.out HX.out.size (fun g hg => by injection hg with hg; omega)).grown hg5.out (by have := HX.out.size; have := hg2.out.size; omega) (fun g hg => by injection hg with hg; omega)⟩
theorem wOf_next (c : Int) (t : List Wt) (k : Nat) (x : Wt) (h : t[k]? = some x) : wOf c (t.take (k + 1)) = wOf c (t.take k) + (if x.client = c then 1 else 0) := by
  obtain ⟨hk, e⟩ := List.getElem?_eq_some_iff.1 h
  unfold wOf
  rw [take_snoc t k hk, e, List.countP_append]
  by_cases q : x.client = c <;> simp [q]
theorem wOf_le (c : Int) (t : List Wt) : wOf c t ≤ t.length := List.countP_le_length
set_option maxHeartbeats 1600000 in
theorem count_any (F : Nat → Prop) (g : Nat) (t : List Wt) (cl : Int) (w : World) (hT : TbAt F w g t) (h64 : t.length ≤ 100000) :
    Calls Tryd.prog 31 #[.pointer (some ⟨g, 0, none⟩), .int .i64 cl] w (Ans (.int .i64 (wOf cl t : Nat)) w) := by
  obtain ⟨A, n, c, hb, _, ho, _⟩ := hT
  have hl := ho.len
  have q0 := hb.at_ (i := 0) rfl
  have HO := Lib.hid ho
  have HL := Lib.hid hl
  have H64 := Lib.hid h64
  have hn64 : n ≤ 100000 := by omega
  clear hb ho hl h64
  go_enter Tryd.func31, Tryd.ntmps31
  go_wp2_with fail
  go_loopw [5, 13] (fun s i wr => ∃ k : Nat, k ≤ n ∧ s = .int .i64 (wOf cl (t.take k) : Nat) ∧ i = .int .i64 k ∧ Below w.heap.size w wr) (fun _ i _ => n - (intOf i).toNat)
  case atStart => exact ⟨0, by omega, rfl, rfl, Below.refl _ _⟩
  case round =>
    obtain ⟨k, hk, rfl, rfl, hb⟩ := hrel
    by_cases hlt : k < n
    · have hkx : k < t.length := by have := HL.out; omega
      have hx : t[k]? = some t[k] := List.getElem?_eq_getElem hkx
      have HNX := Lib.hid (wOf_next cl t k _ hx)
      obtain ⟨g', rfl, hg', c0, c1, c2⟩ := (HO.out.below hb).at_ hx
      obtain ⟨m, hm⟩ : ∃ m : Nat, m = wOf cl (t.take k) := ⟨_, rfl⟩
      have hml : m ≤ 100000 := by have := wOf_le cl (t.take k); rw [List.length_take] at this; omega
      rw [← hm]
      rw [← hm] at HNX
      generalize t[k] = x at *
      have HB := Lib.hid (hb.alloc hb.size (.cells #[.int .i64 x.client, .int .i64 x.kind, .string ⟨x.path.toArray⟩] 31))
      have HLT := Lib.hid hlt
      have y1 : (0 : Int) ≤ (k : Int) := by omega
      have y2 : (k : Int) < (n : Int) := by omega
      clear hb hx hkx hlt hm
      by_cases hp : x.client = cl
      · rw [if_pos hp] at HNX
        have d1 : (x.client == cl) = true := by simp [hp]
        clear hp
        go_wp2_with fail
        go_roundw
        case rel => exact ⟨k + 1, HLT.out, by rw [HNX.out]; go_num, by go_num, HB.out⟩
        case measure => have := HLT.out; simp [intOf]; omega
      · rw [if_neg hp] at HNX
        have d1 : (x.client == cl) = false := by simp [hp]
        clear hp
        go_wp2_with fail
        go_roundw
        case rel => exact ⟨k + 1, HLT.out, by rw [HNX.out]; rfl, by go_num, HB.out⟩
        case measure => have := HLT.out; simp [intOf]; omega
    · have HE := Lib.hid (show t.take k = t from List.take_of_length_le (by have := HL.out; omega))
      have HB := Lib.hid hb
      rw [HE.out]
      clear hb
      go_wp2_with fail
      go_ret
      exact ⟨rfl, HB.out⟩
end Go.Proofs.YtbppokdaehaocaaDoor
