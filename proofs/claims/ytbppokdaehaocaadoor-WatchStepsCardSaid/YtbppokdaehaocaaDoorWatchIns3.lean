/-
  Watches: one is put between others where there is no room (Insert). A walk; no statement.
-/
import Derived.Test.YtbppokdaehaocaaDoorWatchIns2
namespace Go.Proofs.YtbppokdaehaocaaDoor
set_option maxRecDepth 100000
open Go.RowKit
set_option linter.unusedVariables false

theorem append_zeros_wt (w : World) (g n c i : Nat) (t : List Wt) (hl : t.length = n) (hsrc : ∀ j v, (wtc t)[j]? = some v → w.cell? ((⟨g, 0, none⟩ : Addr).add j) = some v) (hi : i < n) (hc : c ≤ n) (hn : n ≤ 100000) :
    ∃ C w1 zs, (∀ ty, (Builtin.append_ #[27, 3] ty #[.slice (some ⟨g, 0, none⟩) i c, .int .i64 ((n : Int) + 1 - (i : Int))]).run Tryd.prog w = .ok (.slice (some ⟨w.heap.size, 0, none⟩) (n + 1) C) w1) ∧
      Bk w1 w.heap.size 31 (wtc (t.take i) ++ zs) ∧ zs.length = (C - i) * 3 ∧ n + 1 ≤ C ∧ C ≤ maxLen ∧ Below w.heap.size w w1 := by
  obtain ⟨i0, h0, hz0, hz1, hz2⟩ := info_parts info_watch
  have hold : (Builtin.firstCells i0.size i (.slice (some ⟨g, 0, none⟩) i c)).run Tryd.prog w.drew = .ok (wtc (t.take i)).toArray w.drew := by
    rw [hz1]
    refine run_firstCells_some w.drew 3 i ⟨g, 0, none⟩ i c (wtc (t.take i)) (by rw [wtc_len, List.length_take]; omega) (fun j v hj => ?_)
    rw [← wtc_take] at hj
    rw [List.getElem?_take] at hj
    split at hj
    · exact hsrc j v hj
    · cases hj
  have hik : i + (n + 1 - i) = n + 1 := by omega
  have hkk : (n : Int) + 1 - (i : Int) = ((n + 1 - i : Nat) : Int) := by omega
  have h := fun ty => Lib.run_append_grow_zeros w 27 3 ty 31 i0 _ .i64 .i64 Tryd.underlying27 Tryd.underlying3 h0 hz0 (some ⟨g, 0, none⟩) i c (wtc (t.take i)) hold (n + 1 - i) (by omega) (by omega) (by omega) (by omega) (by rw [hz2]; omega) (by rw [hz2, hik]; exact growslice_fits (by omega) (by omega))
  rw [hik] at h
  have hge := grownCap_ge w (n + 1) c 31
  have hcm := grownCap_le_maxLen w (n + 1) c 31 (by simp only [maxLen]; omega)
  generalize grownCap w (n + 1) c 31 = C at *
  refine ⟨C, _, (Builtin.zeroCells (Value.agg #[.int .i64 0, .int .i64 0, .string ByteArray.empty]).cells (n + 1 - i) ++ Builtin.zeroCells (Value.agg #[.int .i64 0, .int .i64 0, .string ByteArray.empty]).cells (C - (n + 1))).toList, fun ty => by rw [hkk]; exact h ty, ?_, ?_, hge, hcm, ?_⟩
  · have k := heap_alloc_new w.drew (.cells ((wtc (t.take i)).toArray ++ Builtin.zeroCells (Value.agg #[.int .i64 0, .int .i64 0, .string ByteArray.empty]).cells (n + 1 - i) ++ Builtin.zeroCells (Value.agg #[.int .i64 0, .int .i64 0, .string ByteArray.empty]).cells (C - (n + 1))) 31)
    unfold Bk
    rw [show ((wtc (t.take i) ++ (Builtin.zeroCells (Value.agg #[.int .i64 0, .int .i64 0, .string ByteArray.empty]).cells (n + 1 - i) ++ Builtin.zeroCells (Value.agg #[.int .i64 0, .int .i64 0, .string ByteArray.empty]).cells (C - (n + 1))).toList).toArray) = (wtc (t.take i)).toArray ++ Builtin.zeroCells (Value.agg #[.int .i64 0, .int .i64 0, .string ByteArray.empty]).cells (n + 1 - i) ++ Builtin.zeroCells (Value.agg #[.int .i64 0, .int .i64 0, .string ByteArray.empty]).cells (C - (n + 1)) by
      apply Array.toList_inj.1
      simp]
    exact k
  · have hzs : ∀ m, (Builtin.zeroCells (Value.agg #[.int .i64 0, .int .i64 0, .string ByteArray.empty]).cells m).size = m * 3 := fun m => by
      rw [size_zeroCells]; rfl
    rw [Array.toList_append, List.length_append, Array.length_toList, Array.length_toList, hzs, hzs]
    omega
  · exact (below_drewN (Below.refl _ _) 1).alloc (by simp [World.drewN]) _
theorem grown_end (t : List Wt) (x : Wt) (zs : List Value) (i n C : Nat) (hl : t.length = n) (hi : i < n) (hC : n + 1 ≤ C) (hz : zs.length = (C - i) * 3) :
    (((wtc (t.take i) ++ zs).take (i * 3) ++ wtC x ++ (wtc (t.take i) ++ zs).drop (i * 3 + (wtC x).length)).take ((i + 1) * 3) ++ wtc (t.drop i) ++
      ((wtc (t.take i) ++ zs).take (i * 3) ++ wtC x ++ (wtc (t.take i) ++ zs).drop (i * 3 + (wtC x).length)).drop ((i + 1) * 3 + (wtc (t.drop i)).length)) = wtc (t.take i ++ x :: t.drop i) ++ zs.drop (3 + (n - i) * 3) := by
  have hti : (wtc (t.take i)).length = i * 3 := by rw [wtc_len, List.length_take]; omega
  have h1 : (wtc (t.take i) ++ zs).take (i * 3) = wtc (t.take i) := by rw [← hti, List.take_left]
  have h2 : (wtc (t.take i) ++ zs).drop (i * 3 + (wtC x).length) = zs.drop 3 := by
    rw [← hti, List.drop_append]
    simp [wtC]
  rw [h1, h2]
  have h3 : (wtc (t.take i) ++ wtC x ++ zs.drop 3).take ((i + 1) * 3) = wtc (t.take i) ++ wtC x := by
    rw [show (i + 1) * 3 = (wtc (t.take i) ++ wtC x).length by rw [List.length_append, hti]; simp only [wtC, List.length_cons, List.length_nil]; omega, List.take_left]
  have h4 : (wtc (t.take i) ++ wtC x ++ zs.drop 3).drop ((i + 1) * 3 + (wtc (t.drop i)).length) = zs.drop (3 + (n - i) * 3) := by
    rw [show (i + 1) * 3 + (wtc (t.drop i)).length = (wtc (t.take i) ++ wtC x).length + (n - i) * 3 by rw [List.length_append, hti, wtc_len, List.length_drop, hl]; simp only [wtC, List.length_cons, List.length_nil]; omega, List.drop_append]
    simp [List.drop_drop]
  rw [h3, h4, wtc_append]
  show _ = wtc (t.take i) ++ (wtC x ++ wtc (t.drop i)) ++ _
  simp only [List.append_assoc]
set_option maxHeartbeats 3200000 in
theorem insert_grow (A : Option Addr) (n c i V : Nat) (t : List Wt) (x : Wt) (w : World) (ho : OwnW w 0 A n c t) (hV : Bk w V 31 (wtC x)) (hi : i < n) (hn : n ≤ 100000) (hroom : ¬ n + 1 ≤ c) :
    Calls Tryd.prog 32 #[.slice A n c, .int .i64 i, .slice (some ⟨V, 0, none⟩) 1 1] w (InsP A n c (t.take i ++ x :: t.drop i) w) := by
  have hl := ho.len
  obtain ⟨g, rfl, _, hnc, hcm, rest, hb, hbl⟩ := ownW_at ho (by omega)
  obtain rfl : c = n := by omega
  have hsrc : ∀ j v, (wtc t)[j]? = some v → w.cell? ((⟨g, 0, none⟩ : Addr).add j) = some v := fun j v hj => by
    rw [at_add, Nat.zero_add]
    refine hb.at_ ?_
    rw [List.getElem?_append_left (List.getElem?_eq_some_iff.1 hj).1]
    exact hj
  obtain ⟨C, w1, zs, hrz, hb1, hzl, hC1, hC2, hbw⟩ := append_zeros_wt w g c c i t hl hsrc hi (Nat.le_refl _) hn
  have HE := Lib.hid (grown_end t x zs i c C hl hi hC1 hzl)
  have HLN := Lib.hid hl
  have HB1 := Lib.hid hb1
  have HZL := Lib.hid hzl
  have HBW := Lib.hid hbw
  have HC := Lib.hid (And.intro hC1 hC2)
  have hti : (wtc (t.take i)).length = i * 3 := by rw [wtc_len, List.length_take]; omega
  have HTI := Lib.hid hti
  have hcd : (wtc (t.drop i)).length = (c - i) * 3 := by rw [wtc_len, List.length_drop, hl]
  have HCD := Lib.hid hcd
  have HVN := Lib.hid (show ∀ j u, (wtC x)[j]? = some u → w1.cell? ((⟨V, 0, none⟩ : Addr).add j) = some u from fun j u hu => by
    rw [at_add, Nat.zero_add]
    exact (hV.kept hbw).at_ hu)
  have HGB := Lib.hid hb
  have HF1 := Lib.hid (show i * 3 + (wtC x).length ≤ (wtc (t.take i) ++ zs).length by
    rw [List.length_append, hti, hzl]
    simp only [wtC, List.length_cons, List.length_nil]
    omega)
  have hC63 : C ≤ 9223372036854775807 := by simp only [maxLen] at hC2; omega
  have hi1 : ¬ ((i : Int) = (c : Int)) := by omega
  have hw1 : IntKind.i64.wrap ((i : Int) + 1) = (i : Int) + 1 := by rw [IntKind.wrap_i64]; omega
  have hw2 : IntKind.i64.wrap ((c : Int) + 1) = (c : Int) + 1 := by rw [IntKind.wrap_i64]; omega
  have hw3 : IntKind.i64.wrap ((c : Int) + 1 - (i : Int)) = (c : Int) + 1 - (i : Int) := by rw [IntKind.wrap_i64]; omega
  have hb4 : ¬ (c = i) := by omega
  have hb5 : ¬ (C = i) := by omega
  have hb6 : ¬ (C = i + 1) := by omega
  have hq1 : (i : Int) ≤ (c : Int) := by omega
  have hq2 : (c : Int) < (c : Int) + 1 := by omega
  have hq4 : (i : Int) + 1 ≤ (c : Int) + 1 := by omega
  have hq5 : (i : Int) ≤ (c : Int) + 1 := by omega
  have hq6 : (0 : Int) ≤ (i : Int) + 1 := by omega
  have hq7 : ((i : Int) + 1).toNat = i + 1 := by omega
  have hq8 : i ≤ c := by omega
  clear ho hb hbl hV hl hcm hsrc hb1 hzl hbw hti hcd hC2
  go_enter Tryd.func32, Tryd.ntmps32
  go_wp2_with (first
    | (at_builtin; refine Lib.wpList_append_run _ rfl _ _ _ _ rfl _ _ rfl rfl _ _ (hrz _) ?_)
    | (refine wpList_copy_wt rfl (.tmp 43) (.tmp 44) rfl w.heap.size (i * 3) (c + 1 - i) (C - i) ⟨V, 0, none⟩ 1 1 rfl rfl _ (wtC x) HB1.out (by simp only [Nat.min_def, wtC, List.length_cons, List.length_nil]; split <;> omega) HVN.out HF1.out (by simp [wtC, Value.oneCell']) ?_; intro w2 HB2 HG2))
  have HC1 := Lib.hid (show ∀ j v, (wtc (t.drop i))[j]? = some v → w2.drew.cell? ((⟨g, i * 3, none⟩ : Addr).add j) = some v from fun j v hj => by
    have k : Bk w2 g 31 (wtc t ++ rest) := (HGB.out.kept HBW.out).grown HG2.out (by have := HGB.out.lt; intro e; injection e with e; omega)
    rw [at_add]
    refine k.at_ ?_
    rw [← wtc_drop, List.getElem?_drop] at hj
    rw [List.getElem?_append_left (List.getElem?_eq_some_iff.1 hj).1]
    exact hj)
  have HF2 := Lib.hid (show (i + 1) * 3 + (wtc (t.drop i)).length ≤ ((wtc (t.take i) ++ zs).take (i * 3) ++ wtC x ++ (wtc (t.take i) ++ zs).drop (i * 3 + (wtC x).length)).length by
    rw [List.length_append, List.length_append, List.length_take, List.length_drop, List.length_append, HTI.out, HCD.out, HZL.out]
    simp only [wtC, List.length_cons, List.length_nil]
    omega)
  go_region_law (refine step_copy_wt rfl (.tmp 50) (.tmp 53) rfl w.heap.size ((i + 1) * 3) (c + 1 - (i + 1)) (C - (i + 1)) ⟨g, i * 3, none⟩ (c - i) (c - i) (by simp [Act.eval, Act.put]) (by simp [Act.eval, Act.put]) _ (wtc (t.drop i)) (show Bk w2.drew w.heap.size 31 _ from HB2.out) (by rw [HCD.out]; simp only [Nat.min_def]; split <;> omega) HC1.out HF2.out (one_wtc _) ?_; intro w3 HB3 HG3)
  go_wp2_with fail
  go_ret
  have hk := HB3.out
  rw [HE.out] at hk
  have hlen : (wtc (t.take i ++ x :: t.drop i)).length = (c + 1) * 3 := by
    rw [wtc_len, List.length_append, List.length_cons, List.length_take, List.length_drop, HLN.out]
    omega
  refine ⟨some ⟨w.heap.size, 0, none⟩, C, rfl, ownW_back hk (by rw [List.length_append, hlen, List.length_drop, HZL.out]; omega) (Nat.zero_le _) (by rw [wtc_len] at hlen; omega) HC.out.1 HC.out.2, ?_, .inr fun b hb => Nat.le_of_eq (Option.some.inj hb)⟩
  have b1 : Below w.heap.size w w2 := HBW.out.grown HG2.out HBW.out.size (fun b hb => by injection hb with hb; omega)
  have b2 : Below w.heap.size w w3 := (below_drewN b1 1).grown HG3.out (by have := b1.size; simpa [World.drewN] using this) (fun b hb => by injection hb with hb; omega)
  exact grown_of_below b2 _
/-- a watch is put in -/
theorem insert_any (A : Option Addr) (n c i V : Nat) (t : List Wt) (x : Wt) (w : World) (ho : OwnW w 0 A n c t) (hV : Bk w V 31 (wtC x)) (hVA : ∀ b, (Value.slice A n c).ownBlock = some b → V ≠ b) (hi : i ≤ n) (hn : n ≤ 100000) :
    Calls Tryd.prog 32 #[.slice A n c, .int .i64 i, .slice (some ⟨V, 0, none⟩) 1 1] w (InsP A n c (t.take i ++ x :: t.drop i) w) := by
  rcases Nat.lt_or_ge i n with h | h
  · by_cases hr : n + 1 ≤ c
    · exact insert_shift A n c i V t x w ho hV hVA h hn hr
    · exact insert_grow A n c i V t x w ho hV h hn hr
  · obtain rfl : i = n := by omega
    exact insert_end A i c V t x w ho hV hn
end Go.Proofs.YtbppokdaehaocaaDoor
