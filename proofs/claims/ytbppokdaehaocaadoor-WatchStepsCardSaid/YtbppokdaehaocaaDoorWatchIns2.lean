/-
  Watches: one is put between others (Insert). A walk; no statement.
-/
import Derived.Test.YtbppokdaehaocaaDoorWatchIns
namespace Go.Proofs.YtbppokdaehaocaaDoor
set_option maxRecDepth 100000
open Go.RowKit
set_option linter.unusedVariables false

theorem overlaps_no (w : World) (V g o lb cb : Nat) (vs cur : List Value) (hV : Bk w V 31 vs) (hG : Bk w g 31 cur) (hne : V ≠ g) (hc : cur.length ≠ 0) :
    (callFunc 46 #[.slice (some ⟨V, 0, none⟩) 1 1, .slice (some ⟨g, o, none⟩) lb cb]).run Tryd.prog w = .ok (.value (.bool false)) w := by
  rw [run_callFunc_extern Tryd.func46 (by kernel_rfl) (by kernel_rfl) (by kernel_rfl) (e := Extern.SlicesOverlaps.overlaps #[27, 27] #[4]) (by kernel_rfl),
    Lib.run_overlaps_apart w 27 4 31 Tryd.underlying27 3 Tryd.sizeOf31 ⟨V, 0, none⟩ ⟨g, o, none⟩ 1 1 lb cb hne 31 31 vs.length cur.length
      (by unfold World.shape?; rw [show w.heap[V]? = _ from hV]; simp) (by unfold World.shape?; rw [show w.heap[g]? = _ from hG]; simp) hc (hV.frozen _) (hV.frozen _)]
  rfl
/-- what stands in the row at the end -/
theorem shifted (t : List Wt) (x : Wt) (rest : List Value) (i n : Nat) (hl : t.length = n) (hi : i < n) (hr : 3 ≤ rest.length) :
    ((((wtc t ++ rest).take ((i + 1) * 3) ++ wtc (t.drop i) ++ (wtc t ++ rest).drop ((i + 1) * 3 + (wtc (t.drop i)).length)).take (i * 3)) ++ wtC x ++
      (((wtc t ++ rest).take ((i + 1) * 3) ++ wtc (t.drop i) ++ (wtc t ++ rest).drop ((i + 1) * 3 + (wtc (t.drop i)).length)).drop (i * 3 + (wtC x).length))) = wtc (t.take i ++ x :: t.drop i) ++ rest.drop 3 := by
  have h1 : (wtc t ++ rest).take ((i + 1) * 3) = wtc (t.take (i + 1)) := by
    rw [List.take_append_of_le_length (by rw [wtc_len]; omega), wtc_take]
  have h2 : (wtc t ++ rest).drop ((i + 1) * 3 + (wtc (t.drop i)).length) = rest.drop 3 := by
    rw [wtc_len, List.length_drop, hl, show (i + 1) * 3 + (n - i) * 3 = (wtc t).length + 3 by rw [wtc_len, hl]; omega, List.drop_append]
    simp
  rw [h1, h2]
  have h3 : (wtc (t.take (i + 1)) ++ wtc (t.drop i) ++ rest.drop 3).take (i * 3) = wtc (t.take i) := by
    rw [List.append_assoc, List.take_append_of_le_length (by rw [wtc_len, List.length_take]; omega), wtc_take, List.take_take, Nat.min_eq_left (by omega)]
  have h4 : (wtc (t.take (i + 1)) ++ wtc (t.drop i) ++ rest.drop 3).drop (i * 3 + (wtC x).length) = wtc (t.drop i) ++ rest.drop 3 := by
    rw [List.append_assoc, show i * 3 + (wtC x).length = (wtc (t.take (i + 1))).length by rw [wtc_len, List.length_take]; simp only [wtC, List.length_cons, List.length_nil]; omega, List.drop_left]
  rw [h3, h4, wtc_append]
  show _ = wtc (t.take i) ++ (wtC x ++ wtc (t.drop i)) ++ rest.drop 3
  simp only [List.append_assoc]
set_option maxHeartbeats 3200000 in
theorem insert_shift (A : Option Addr) (n c i V : Nat) (t : List Wt) (x : Wt) (w : World) (ho : OwnW w 0 A n c t) (hV : Bk w V 31 (wtC x)) (hVA : ∀ b, (Value.slice A n c).ownBlock = some b → V ≠ b) (hi : i < n) (hn : n ≤ 100000) (hroom : n + 1 ≤ c) :
    Calls Tryd.prog 32 #[.slice A n c, .int .i64 i, .slice (some ⟨V, 0, none⟩) 1 1] w (InsP A n c (t.take i ++ x :: t.drop i) w) := by
  have hl := ho.len
  have HLN := Lib.hid hl
  obtain ⟨g, rfl, _, hnc, hcm, rest, hb, hbl⟩ := ownW_at ho (by omega)
  have hne : V ≠ g := hVA g rfl
  have hrl : 3 ≤ rest.length := by rw [List.length_append, wtc_len] at hbl; omega
  have HOV := Lib.hid (fun o lb cb => overlaps_no w V g o lb cb _ _ hV hb hne (by rw [hbl]; omega))
  have HG := Lib.hid hb
  have HBL := Lib.hid hbl
  have HVB := Lib.hid hV
  have HNE := Lib.hid hne
  have HSH := Lib.hid (shifted t x rest i n hl hi hrl)
  have hcm2 : c ≤ 9223372036854775807 := by simp only [maxLen] at hcm; omega
  have HCM := Lib.hid (And.intro hroom hcm)
  have hcd : (wtc (t.drop i)).length = (n - i) * 3 := by rw [wtc_len, List.length_drop, hl]
  have HCD := Lib.hid hcd
  have HC1 := Lib.hid (show ∀ j v, (wtc (t.drop i))[j]? = some v → w.drew.cell? ((⟨g, i * 3, none⟩ : Addr).add j) = some v from fun j v hj => by
    rw [at_add]
    refine hb.at_ ?_
    rw [← wtc_drop, List.getElem?_drop] at hj
    rw [List.getElem?_append_left (List.getElem?_eq_some_iff.1 hj).1]
    exact hj)
  have HW3 := Lib.hid (show (wtc t ++ rest).length = c * 3 from hbl)
  have hi1 : ¬ ((i : Int) = (n : Int)) := by omega
  have hw1 : IntKind.i64.wrap ((i : Int) + 1) = (i : Int) + 1 := by rw [IntKind.wrap_i64]; omega
  have hw2 : IntKind.i64.wrap ((n : Int) + 1) = (n : Int) + 1 := by rw [IntKind.wrap_i64]; omega
  have hb2 : ¬ (c = i + 1) := by omega
  have hb4 : ¬ (c = i) := by omega
  have hq1 : (i : Int) ≤ (n : Int) := by omega
  have hq2 : ¬ ((c : Int) < (n : Int) + 1) := by omega
  have hq3 : (n : Int) + 1 ≤ (c : Int) := by omega
  have hq4 : (i : Int) + 1 ≤ (n : Int) + 1 := by omega
  have hq5 : (i : Int) ≤ (n : Int) + 1 := by omega
  have hq6 : (0 : Int) ≤ (i : Int) + 1 := by omega
  have hq7 : ((i : Int) + 1).toNat = i + 1 := by omega
  have hq8 : i ≤ n := by omega
  have hov := HOV.out
  clear ho hb hbl hV hVA hne hrl hcm hcd hl
  go_enter Tryd.func32, Tryd.ntmps32
  go_wp2_with (simp only [hov])
  go_region_law (refine step_copy_wt rfl (.tmp 73) (.tmp 76) rfl g ((i + 1) * 3) (n + 1 - (i + 1)) (c - (i + 1)) ⟨g, i * 3, none⟩ (n + 1 - i) (c - i) (by simp [Act.eval, Act.put]) (by simp [Act.eval, Act.put]) (wtc t ++ rest) (wtc (t.drop i)) HG.out (by rw [HCD.out]; simp only [Nat.min_def]; split <;> omega) HC1.out (by rw [HCD.out, HBL.out]; omega) (one_wtc _) ?_; intro w1 HB1 HG1)
  have HVN := Lib.hid (show ∀ j u, (wtC x)[j]? = some u → w1.cell? ((⟨V, 0, none⟩ : Addr).add j) = some u from fun j u hu => by
    have k : Bk w.drew V 31 (wtC x) := HVB.out
    rw [at_add, Nat.zero_add]
    exact (k.grown HG1.out (by intro e; injection e with e; exact HNE.out e)).at_ hu)
  have HF2 := Lib.hid (show i * 3 + (wtC x).length ≤ ((wtc t ++ rest).take ((i + 1) * 3) ++ wtc (t.drop i) ++ (wtc t ++ rest).drop ((i + 1) * 3 + (wtc (t.drop i)).length)).length by
    rw [List.length_append, List.length_append, List.length_take, List.length_drop, HCD.out, HBL.out]
    simp only [wtC, List.length_cons, List.length_nil]
    omega)
  go_wp2_with (refine wpList_copy_wt rfl (.tmp 80) (.tmp 81) rfl g (i * 3) (n + 1 - i) (c - i) ⟨V, 0, none⟩ 1 1 rfl rfl _ (wtC x) HB1.out (by simp only [Nat.min_def, wtC, List.length_cons, List.length_nil]; split <;> omega) HVN.out HF2.out (by simp [wtC, Value.oneCell']) ?_; intro w2 HB2 HG2)
  go_ret
  have hk := HB2.out
  rw [HSH.out] at hk
  have hlen : (wtc (t.take i ++ x :: t.drop i)).length = (n + 1) * 3 := by
    rw [wtc_len, List.length_append, List.length_cons, List.length_take, List.length_drop, HLN.out]
    omega
  have hrest : rest.length = c * 3 - n * 3 := by
    have := HBL.out
    rw [List.length_append, wtc_len, HLN.out] at this
    omega
  refine ⟨some ⟨g, 0, none⟩, c, rfl, ownW_back hk (by rw [List.length_append, hlen, List.length_drop, hrest]; omega) (Nat.zero_le _) (by rw [wtc_len] at hlen; omega) HCM.out.1 HCM.out.2, ?_, .inl rfl⟩
  have hg0 : w.grownBy w.drew (some g) := grown_drewN (grown_refl w _) 1
  exact grown_trans (grown_trans hg0 HG1.out (.inl rfl)) HG2.out (.inl rfl)
end Go.Proofs.YtbppokdaehaocaaDoor
