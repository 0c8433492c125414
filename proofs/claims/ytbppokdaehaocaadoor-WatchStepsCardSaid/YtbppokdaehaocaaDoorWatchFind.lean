/-
  Watches: where one stands (BinarySearchFunc). A walk; no statement.
-/
import Derived.Test.YtbppokdaehaocaaDoorWatchDev3
import Derived.BigQuiet
import Derived.Deep.CutRange
namespace Go.Proofs.YtbppokdaehaocaaDoor
set_option maxRecDepth 100000
open Go.RowKit
set_option linter.unusedVariables false

/-- the cells of two watches, one in a row, one in a box -/
def Two6 (g m b : Nat) (y x : Wt) (W : World) : Prop :=
  W.cell? ⟨g, m * 3, none⟩ = some (.int .i64 y.client) ∧ W.cell? ⟨g, m * 3 + 1, none⟩ = some (.int .i64 y.kind) ∧ W.cell? ⟨g, m * 3 + 2, none⟩ = some (.string ⟨y.path.toArray⟩) ∧ W.cell? ⟨b, 0, none⟩ = some (.int .i64 x.client) ∧ W.cell? ⟨b, 1, none⟩ = some (.int .i64 x.kind) ∧ W.cell? ⟨b, 2, none⟩ = some (.string ⟨x.path.toArray⟩)
theorem Two6.kept {g m b : Nat} {y x : Wt} {W W' : World} (h : Two6 g m b y x W) (hb : Below W.heap.size W W') : Two6 g m b y x W' :=
  ⟨cell_kept h.1 hb, cell_kept h.2.1 hb, cell_kept h.2.2.1 hb, cell_kept h.2.2.2.1 hb, cell_kept h.2.2.2.2.1 hb, cell_kept h.2.2.2.2.2 hb⟩
/-- where a watch is looked for: between lo and hi -/
def Betw (x : Wt) (t : List Wt) (lo hi : Nat) : Prop := (∀ k y, k < lo → t[k]? = some y → wLt y x) ∧ ∀ k y, hi ≤ k → t[k]? = some y → ¬ wLt y x
theorem Betw.right {x y : Wt} {t : List Wt} {lo hi m : Nat} (h : Betw x t lo hi) (hs : t.Pairwise wLt) (hm : t[m]? = some y) (hy : wLt y x) : Betw x t (m + 1) hi := by
  refine ⟨fun k z hk hz => ?_, h.2⟩
  rcases Nat.lt_or_ge k m with q | q
  · obtain ⟨h1, e1⟩ := List.getElem?_eq_some_iff.1 hz
    obtain ⟨h2, e2⟩ := List.getElem?_eq_some_iff.1 hm
    have := List.pairwise_iff_getElem.1 hs k m h1 h2 q
    rw [e1, e2] at this
    exact wLt_trans this hy
  · obtain rfl : k = m := by omega
    rw [hz] at hm
    obtain rfl := Option.some.inj hm
    exact hy
theorem Betw.left {x y : Wt} {t : List Wt} {lo hi m : Nat} (h : Betw x t lo hi) (hs : t.Pairwise wLt) (hm : t[m]? = some y) (hy : ¬ wLt y x) : Betw x t lo m := by
  refine ⟨h.1, fun k z hk hz hzx => ?_⟩
  rcases Nat.lt_or_ge m k with q | q
  · obtain ⟨h1, e1⟩ := List.getElem?_eq_some_iff.1 hz
    obtain ⟨h2, e2⟩ := List.getElem?_eq_some_iff.1 hm
    have := List.pairwise_iff_getElem.1 hs m k h2 h1 q
    rw [e1, e2] at this
    exact hy (wLt_trans this hzx)
  · obtain rfl : k = m := by omega
    rw [hz] at hm
    obtain rfl := Option.some.inj hm
    exact hy hzx
theorem Betw.at_ {x : Wt} {t : List Wt} {i : Nat} (h : Betw x t i i) (hi : i ≤ t.length) : wAt x t = i := wAt_of hi h.1 h.2
theorem enters_compare : ∀ args w, (callFunc 30 args).run Tryd.prog w = .ok (.enter 30 args) w := enters_of Tryd.func30 (by kernel_rfl) rfl
set_option maxHeartbeats 3200000 in
theorem search_any (A : Option Addr) (n c : Nat) (t : List Wt) (x : Wt) (w : World) (ho : OwnW w 0 A n c t) (hs : t.Pairwise wLt) (hn : n ≤ 100000) :
    Calls Tryd.prog 29 #[.slice A n c, .agg (wtC x).toArray, .func (.func 30) #[] #[]] w (Ans (.tuple #[.int .i64 (wAt x t : Nat), .bool (decide (x ∈ t))]) w) := by
  show Calls _ _ #[_, .agg #[.int .i64 x.client, .int .i64 x.kind, .string ⟨x.path.toArray⟩], _] _ _
  have hl := ho.len
  have k0 := Bk.new w 31 (wtC x)
  have HK := Lib.hid (show Bk (w.alloc (.cells #[.int .i64 x.client, .int .i64 x.kind, .string ⟨x.path.toArray⟩] 31)) w.heap.size 31 [.int .i64 x.client, .int .i64 x.kind, .string ⟨x.path.toArray⟩] from k0)
  have HB0 := Lib.hid ((Below.refl w.heap.size w).alloc (Nat.le_refl _) (.cells #[.int .i64 x.client, .int .i64 x.kind, .string ⟨x.path.toArray⟩] 31))
  have HO := Lib.hid ho
  have HL := Lib.hid hl
  have HS := Lib.hid hs
  have HC := Lib.hid (fun a W => show Calls Tryd.prog 30 #[.agg #[.int .i64 a.client, .int .i64 a.kind, .string ⟨a.path.toArray⟩], .agg #[.int .i64 x.client, .int .i64 x.kind, .string ⟨x.path.toArray⟩]] W (Ans (.int .i64 (wCmp a x)) W) from compareW_any a x W)
  have eg := enters_compare
  clear ho hl hs k0
  go_enter Tryd.func29, Tryd.ntmps29
  go_wp2_with fail
  go_loopw [9, 10] (fun s i wr => ∃ lo hi : Nat, s = .int .i64 lo ∧ i = .int .i64 hi ∧ lo ≤ hi ∧ hi ≤ n ∧ Betw x t lo hi ∧ Below w.heap.size w wr ∧ Bk wr w.heap.size 31 [.int .i64 x.client, .int .i64 x.kind, .string ⟨x.path.toArray⟩]) (fun s i _ => (intOf i).toNat - (intOf s).toNat)
  case atStart => exact ⟨0, n, rfl, rfl, by omega, Nat.le_refl _, ⟨fun k y hk => by omega, fun k y hk hy => by have := (List.getElem?_eq_some_iff.1 hy).1; have := HL.out; omega⟩, HB0.out, HK.out⟩
  case round =>
    obtain ⟨lo, hi, rfl, rfl, hlh, hin, hbt, hb, hk⟩ := hrel
    by_cases hlt : lo < hi
    · obtain ⟨m, hm⟩ : ∃ m : Nat, m = (lo + hi) / 2 := ⟨_, rfl⟩
      have hmx : m < t.length := by have := HL.out; omega
      have hx : t[m]? = some t[m] := List.getElem?_eq_getElem hmx
      have HX := Lib.hid hx
      obtain ⟨g', rfl, hg', c0, c1, c2⟩ := (HO.out.below hb).at_ hx
      obtain ⟨k0, k1, k2⟩ := hk.three
      have e2 : ((lo : Int) + (hi : Int)) / 2 = (m : Int) := by omega
      have y1 : (0 : Int) ≤ (m : Int) := by omega
      have y2 : (m : Int) < (n : Int) := by omega
      have y3 : (lo : Int) < (hi : Int) := by omega
      have HBT := Lib.hid hbt
      have HB := Lib.hid hb
      have HKB := Lib.hid hk
      have HM := Lib.hid (show lo ≤ m ∧ m < hi ∧ hi ≤ n by omega)
      have hkl := hk.lt
      generalize t[m] = y at *
      have HT6 := Lib.hid (show Two6 g' m w.heap.size y x wr.drew from ⟨c0, c1, c2, k0, k1, k2⟩)
      clear hbt hb hk hx hmx hm hlt hlh hin
      by_cases hp : wLt y x
      · have hd : decide (wCmp y x < 0) = true := by simpa using wCmp_lt.2 hp
        have HP := Lib.hid hp
        generalize hcv : wCmp y x = cv at *
        have HC2 := Lib.hid (show ∀ W, Calls Tryd.prog 30 #[.agg #[.int .i64 y.client, .int .i64 y.kind, .string ⟨y.path.toArray⟩], .agg #[.int .i64 x.client, .int .i64 x.kind, .string ⟨x.path.toArray⟩]] W (Ans (.int .i64 cv) W) from fun W => hcv ▸ HC.out y W)
        clear hp hcv
        go_wp2_with fail
        go_region_held3 (fun W => W.cell? ⟨g', m * 3, none⟩ = some (.int .i64 y.client) ∧ W.cell? ⟨g', m * 3 + 1, none⟩ = some (.int .i64 y.kind) ∧ W.cell? ⟨g', m * 3 + 2, none⟩ = some (.string ⟨y.path.toArray⟩) ∧ W.cell? ⟨w.heap.size, 0, none⟩ = some (.int .i64 x.client) ∧ W.cell? ⟨w.heap.size, 1, none⟩ = some (.int .i64 x.kind) ∧ W.cell? ⟨w.heap.size, 2, none⟩ = some (.string ⟨x.path.toArray⟩))
          (first | exact HT6.out | exact HT6.out.kept (by assumption))
          (first | (go_at_fn 30; refine (HC2.out _).mono ?_; rintro e w5 ⟨rfl, hb5⟩))
        go_wp2_with fail
        go_roundw
        case rel => exact ⟨m + 1, hi, by go_num, rfl, by have := HM.out; omega, HM.out.2.2, HBT.out.right HS.out HX.out HP.out, below_next (below_drewN HB.out 1) hb5 (by have := HB.out.size; simpa [World.drewN] using this), (HKB.out.drewN 1).kept hb5⟩
        case measure => have := HM.out; simp [intOf]; omega
      · have hd : decide (wCmp y x < 0) = false := by simpa using Int.not_lt.1 fun q => hp (wCmp_lt.1 q)
        have HP := Lib.hid hp
        generalize hcv : wCmp y x = cv at *
        have HC2 := Lib.hid (show ∀ W, Calls Tryd.prog 30 #[.agg #[.int .i64 y.client, .int .i64 y.kind, .string ⟨y.path.toArray⟩], .agg #[.int .i64 x.client, .int .i64 x.kind, .string ⟨x.path.toArray⟩]] W (Ans (.int .i64 cv) W) from fun W => hcv ▸ HC.out y W)
        clear hp hcv
        go_wp2_with fail
        go_region_held3 (fun W => W.cell? ⟨g', m * 3, none⟩ = some (.int .i64 y.client) ∧ W.cell? ⟨g', m * 3 + 1, none⟩ = some (.int .i64 y.kind) ∧ W.cell? ⟨g', m * 3 + 2, none⟩ = some (.string ⟨y.path.toArray⟩) ∧ W.cell? ⟨w.heap.size, 0, none⟩ = some (.int .i64 x.client) ∧ W.cell? ⟨w.heap.size, 1, none⟩ = some (.int .i64 x.kind) ∧ W.cell? ⟨w.heap.size, 2, none⟩ = some (.string ⟨x.path.toArray⟩))
          (first | exact HT6.out | exact HT6.out.kept (by assumption))
          (first | (go_at_fn 30; refine (HC2.out _).mono ?_; rintro e w5 ⟨rfl, hb5⟩))
        go_wp2_with fail
        go_roundw
        case rel => exact ⟨lo, m, rfl, rfl, HM.out.1, by have := HM.out; omega, HBT.out.left HS.out HX.out HP.out, below_next (below_drewN HB.out 1) hb5 (by have := HB.out.size; simpa [World.drewN] using this), (HKB.out.drewN 1).kept hb5⟩
        case measure => have := HM.out; simp [intOf]; omega
    · obtain rfl : lo = hi := by omega
      have hat := hbt.at_ (by have := HL.out; omega)
      have HAT := Lib.hid hat
      have HMEM := Lib.hid (show decide (x ∈ t) = decide (t[lo]? = some x) from decide_eq_decide.2 (by rw [← hat]; exact (wAt_mem HS.out).symm))
      clear hat hlh hbt
      by_cases hn2 : lo < n
      · have hmx : lo < t.length := by have := HL.out; omega
        have hx : t[lo]? = some t[lo] := List.getElem?_eq_getElem hmx
        obtain ⟨g', rfl, hg', c0, c1, c2⟩ := (HO.out.below hb).at_ hx
        obtain ⟨k0, k1, k2⟩ := hk.three
        rw [hx] at HMEM
        have y1 : (0 : Int) ≤ (lo : Int) := by omega
        have y2 : (lo : Int) < (n : Int) := by omega
        have HB := Lib.hid hb
        have hkl := hk.lt
        generalize t[lo] = y at *
        have HT6 := Lib.hid (show Two6 g' lo w.heap.size y x wr.drew from ⟨c0, c1, c2, k0, k1, k2⟩)
        clear hb hk hx hmx hin
        have HR := Lib.hid (show decide (some y = some x) = (wCmp y x == 0) by
          rw [Bool.eq_iff_iff]
          simp [wCmp_eq])
        rw [HR.out] at HMEM
        generalize hcv : wCmp y x = cv at *
        have HC2 := Lib.hid (show ∀ W, Calls Tryd.prog 30 #[.agg #[.int .i64 y.client, .int .i64 y.kind, .string ⟨y.path.toArray⟩], .agg #[.int .i64 x.client, .int .i64 x.kind, .string ⟨x.path.toArray⟩]] W (Ans (.int .i64 cv) W) from fun W => hcv ▸ HC.out y W)
        clear hcv
        go_wp2_with fail
        go_region_held3 (fun W => W.cell? ⟨g', lo * 3, none⟩ = some (.int .i64 y.client) ∧ W.cell? ⟨g', lo * 3 + 1, none⟩ = some (.int .i64 y.kind) ∧ W.cell? ⟨g', lo * 3 + 2, none⟩ = some (.string ⟨y.path.toArray⟩) ∧ W.cell? ⟨w.heap.size, 0, none⟩ = some (.int .i64 x.client) ∧ W.cell? ⟨w.heap.size, 1, none⟩ = some (.int .i64 x.kind) ∧ W.cell? ⟨w.heap.size, 2, none⟩ = some (.string ⟨x.path.toArray⟩))
          (first | exact HT6.out | exact HT6.out.kept (by assumption))
          (first | (go_at_fn 30; refine (HC2.out _).mono ?_; rintro e w5 ⟨rfl, hb5⟩))
        go_wp2_with fail
        go_ret2
        rw [HAT.out, HMEM.out]
        exact ⟨rfl, below_next (below_drewN HB.out 1) hb5 (by have := HB.out.size; simpa [World.drewN] using this)⟩
      · have HB := Lib.hid hb
        have hd : t[lo]? = none := List.getElem?_eq_none (by have := HL.out; omega)
        rw [hd] at HMEM
        have hd2 : decide ((lo : Int) < (n : Int)) = false := by simpa using hn2
        clear hb hk hd hin
        go_upto_region 8 with fail
        go_quiet (fail)
        go_wp2_with fail
        go_ret2
        rw [HAT.out, HMEM.out]
        exact ⟨rfl, below_drewN HB.out nq⟩
end Go.Proofs.YtbppokdaehaocaaDoor
