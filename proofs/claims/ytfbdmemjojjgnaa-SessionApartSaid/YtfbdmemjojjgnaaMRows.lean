import Derived.Test.YtfbdmemjojjgnaaMBase
import Derived.Test.YtfbdmemjojjgnaaMOpen
import Derived.Deep.QuietTactic
import Derived.Laws.Rows
import Derived.Deep.MidRow
import Derived.Laws.ResultCell
import Derived.Lib.SlBytesConst
import Derived.Laws.IdiomStrings
import Derived.Laws.BytesArg

namespace Go.Proofs.Ytfbdmemjojjgnaa
set_option maxRecDepth 100000
open Go.RowKit
set_option linter.unusedVariables false


/-- two rows of unlike element types lie in unlike blocks -/
theorem rows_apart {w : World} {b1 b2 : Nat} {e1 e2 : TypeId} {s1 s2 : Nat} {v1 v2 : Value} {n1 n2 : Nat} {xs1 xs2 : List Value} (h1 : w.ownsRow b1 e1 s1 v1 n1 xs1) (h2 : w.ownsRow b2 e2 s2 v2 n2 xs2) (he : e1 ≠ e2) :
    v1.ownBlock = none ∨ v1.ownBlock ≠ v2.ownBlock := by
  rcases h1.2 with ⟨rfl, _⟩ | ⟨g, cap, cur, rfl, _, hg, _⟩
  · exact .inl rfl
  · right
    rcases h2.2 with ⟨rfl, _⟩ | ⟨g', cap', cur', rfl, _, hg', _⟩
    · simp [Value.ownBlock]
    · simp only [Value.ownBlock, ne_eq, Option.some.injEq]
      rintro rfl
      rw [hg] at hg'
      injection hg' with hg'
      injection hg' with _ ht
      exact he ht


theorem own_none {w : World} {base n c : Nat} {l : List UInt8} (h : OwnB w base none n c l) : c = 0 := by
  rcases h.2 with ⟨e1, e2⟩ | ⟨g, cap, cur, e1, _⟩
  · injection e1 with _ _ e5
  · injection e1 with e3; cases e3




end Go.Proofs.Ytfbdmemjojjgnaa

namespace Go.Proofs.Ytfbdmemjojjgnaa
set_option maxRecDepth 100000
open Go.RowKit
set_option linter.unusedVariables false



theorem own_base {w : World} {b b' : Nat} {A : Option Addr} {n c : Nat} {l : List UInt8} (h : OwnB w b' A n c l) (hb : b ≤ b') : OwnB w b A n c l := by
  refine ⟨h.1, ?_⟩
  rcases h.2 with h2 | ⟨g, cap, cur, e1, hg, r⟩
  · exact .inl h2
  · exact .inr ⟨g, cap, cur, e1, by omega, r⟩

end Go.Proofs.Ytfbdmemjojjgnaa

namespace Go.Proofs.Ytfbdmemjojjgnaa
set_option maxRecDepth 100000
open Go.RowKit
set_option linter.unusedVariables false

theorem info_int : (Try.prog.info? 3).map (fun i => (i.zero, i.size, i.bytes)) = some (some (.int .i64 0), 1, 8) := by kernel_rfl
/-- 'w owns, from block base on, the slice (A, n, c), which holds the numbers l' -/
def OwnI (w : World) (base : Nat) (A : Option Addr) (n c : Nat) (l : List Int) : Prop := w.ownsRow base 3 1 (.slice A n c) n (l.map iv)
theorem OwnI.len {w : World} {base : Nat} {A : Option Addr} {n c : Nat} {l : List Int} (h : OwnI w base A n c l) : l.length = n := by simpa using h.1
theorem OwnI.rd {w : World} {base : Nat} {A : Option Addr} {n c : Nat} {l : List Int} (h : OwnI w base A n c l) : Rd w A n (l.map iv) := Rd.own h
theorem OwnI.below {w w' : World} {base : Nat} {A : Option Addr} {n c : Nat} {l : List Int} (h : OwnI w base A n c l) (hb : Below w.heap.size w w') : OwnI w' base A n c l :=
  World.ownsRow.kept h (grown_of_below hb none) (by cases (Value.slice A n c).ownBlock <;> simp)
theorem OwnI.block {w : World} {base : Nat} {A : Option Addr} {n c : Nat} {l : List Int} (h : OwnI w base A n c l) : ∀ g, (Value.slice A n c).ownBlock = some g → base ≤ g := fun g hg => (World.ownsRow.lt h g hg).1
theorem OwnI.nil_ (w : World) (base : Nat) : OwnI w base none 0 0 [] := World.ownsRow_nil w base _ 1
theorem OwnI.empty (w : World) : OwnI (w.alloc (.cells #[] 3)) w.heap.size (some ⟨w.heap.size, 0, none⟩) 0 0 [] :=
  World.ownsRow_lit (e := 3) (base := w.heap.size) (size := 1) w #[] 0 (Nat.le_refl _) (by simp [maxLen]) rfl
theorem OwnI.cap {w : World} {base : Nat} {A : Option Addr} {n c : Nat} {l : List Int} (h : OwnI w base A n c l) : n ≤ maxLen := by
  rcases h.2 with ⟨_, e⟩ | ⟨g, cap, cur, _, _, _, hnc, hcm, _⟩
  · rw [e]; simp [maxLen]
  · exact Nat.le_trans hnc hcm
theorem one_nums (l : List Int) : ∀ u ∈ l.map iv, u.oneCell' = true := by
  intro u hu
  obtain ⟨c, _, rfl⟩ := List.mem_map.1 hu
  rfl
theorem copyInts_big (A : Option Addr) (n c : Nat) (l : List Int) (w : World) (h : Rd w A n (l.map iv)) (hn : n ≤ 17592186044416) :
    Calls Try.prog 20 #[.slice A n c] w fun e w' => (∃ A' c', e = .returned (.slice A' n c') ∧ OwnI w' w.heap.size A' n c' l) ∧ Below w.heap.size w w' := by
  obtain ⟨i0, hi, hz0, hz1, hz2⟩ := info_parts info_int
  have HN := Lib.hid hn
  clear hn
  go_enter Try.func20, Try.ntmps20
  go_wp2_with (at_builtin
               refine wpList_append_rd _ rfl _ _ 37 rfl w.heap.size 3 i0 _ 8 Try.underlying37 hi hz0 hz1 hz2 rfl (some ⟨w.heap.size, 0, none⟩) 0 0 ([].map iv) rfl (OwnI.empty w) A n c (l.map iv) rfl
                 (h.alloc _) (one_nums l) (by have := HN.out; simp only [maxLen]; omega) (by have := HN.out; omega) (by simp) ?_
               intro A2 c2 w2 hown2 hg2 hrow2)
  have HO := Lib.hid hown2
  have HB := Lib.hid (((Below.refl w.heap.size w).alloc (Nat.le_refl _) (.cells #[] 3)).grown hg2 (by simp) (fun k e => by simp [Value.ownBlock] at e; omega))
  clear hown2 hg2 hrow2
  go_ret
  exact ⟨⟨A2, c2, rfl, by have := HO.out; simpa [OwnI] using this⟩, HB.out⟩
theorem copyInts_any (A : Option Addr) (n c : Nat) (l : List Int) (w : World) (h : Rd w A n (l.map iv)) (hn : n ≤ 1099511627776) :
    Calls Try.prog 20 #[.slice A n c] w fun e w' => (∃ A' c', e = .returned (.slice A' n c') ∧ OwnI w' w.heap.size A' n c' l) ∧ Below w.heap.size w w' :=
  copyInts_big A n c l w h (by omega)
theorem sameInts_eq (A A' : Option Addr) (n c c' : Nat) (w : World) (xs ys : List Int) (h : Rd w A n (xs.map iv)) (h' : Rd w A' n (ys.map iv)) (hm : n ≤ maxLen) :
    Calls Try.prog 23 #[.slice A n c, .slice A' n c'] w (Quiet (.bool (decide (xs = ys))) w) := by
  unfold maxLen at hm
  have h1 : ((n : Int) != (n : Int)) = false := by simp
  have hx : xs.length = n := by simpa using h.1
  have hy : ys.length = n := by simpa using h'.1
  go_enter Try.func23, Try.ntmps23
  go_wp2
  go_loopw [5] (fun i wr => ∃ k m : Nat, k ≤ n ∧ i = .int .i64 k ∧ wr = w.drewN m ∧ xs.take k = ys.take k) (fun i _ => n - (intOf i).toNat)
  case atStart => exact ⟨0, 0, Nat.zero_le _, rfl, rfl, by simp⟩
  case round =>
    obtain ⟨k, m, hk, rfl, rfl, ht⟩ := hrel
    by_cases hlt : k < n
    · obtain ⟨a, rfl, hb, hc⟩ := h.at_ hlt
      obtain ⟨a', rfl, hb', hc'⟩ := h'.at_ hlt
      have gx : (xs.map iv).getD k undef = .int .i64 (xs[k]'(by omega)) := by simp [iv, hx, hlt]
      have gy : (ys.map iv).getD k undef = .int .i64 (ys[k]'(by omega)) := by simp [iv, hy, hlt]
      rw [gx] at hc
      rw [gy] at hc'
      have e1 : (0 : Int) ≤ (k : Int) := by omega
      have e2 : (k : Int) < (n : Int) := by omega
      clear gx gy h h' hb hb'
      have tx := take_snoc xs k (by omega)
      have ty := take_snoc ys k (by omega)
      by_cases hxy : xs[k]'(by omega) = ys[k]'(by omega)
      · have T := Lib.hid (show xs.take (k + 1) = ys.take (k + 1) by rw [tx, ty, ht, hxy])
        have hb : ((xs[k]'(by omega)) != (ys[k]'(by omega))) = false := by rw [hxy]; simp
        clear tx ty ht hxy
        go_wp2
        go_quiet (fail)
        go_wp2
        go_roundw
        case rel => exact ⟨k + 1, _, by omega, by go_num, rfl, T.out⟩
        case measure => simp [intOf]; omega
      · have hne : ¬ xs = ys := fun e => hxy (by subst e; rfl)
        have hd := Lib.hid (show decide (xs = ys) = false by simp [hne])
        have hb : ((xs[k]'(by omega)) != (ys[k]'(by omega))) = true := by
          rw [bne_iff_ne]; exact hxy
        clear tx ty ht hne hxy
        go_wp2
        go_quiet (fail)
        go_wp2
        go_ret
        exact ⟨ret_bool hd.out.symm, _, World.drewN_drewN w _ _⟩
    · have hd := Lib.hid (show decide (xs = ys) = true by
        have e : k = n := by omega
        subst e
        rw [List.take_of_length_le (by omega), List.take_of_length_le (by omega)] at ht
        simp [ht])
      clear ht h h'
      go_wp2
      go_ret
      exact ⟨ret_bool hd.out.symm, _, rfl⟩
theorem sameInts_self (A A' : Option Addr) (n n' c c' : Nat) (w : World) (xs : List Int) (h : Rd w A n (xs.map iv)) (h' : Rd w A' n' (xs.map iv)) (hm : n ≤ maxLen) :
    Calls Try.prog 23 #[.slice A n c, .slice A' n' c'] w (Quiet (.bool true) w) := by
  have e1 := h.1
  have e2 := h'.1
  rw [List.length_map] at e1 e2
  have e3 : n' = n := by omega
  subst e3
  have := sameInts_eq A A' n' c c' w xs xs h h' hm
  simpa using this
end Go.Proofs.Ytfbdmemjojjgnaa

/-
  Words for blocks that are known whole, for slices that may stand in a row, and for what a call leaves as it was. Plain lemmas; no statement.
-/
namespace Go.Proofs.Ytfbdmemjojjgnaa
set_option maxRecDepth 100000
open Go.RowKit
set_option linter.unusedVariables false

/-- block g is just the cells cs, none frozen -/
def Bk (w : World) (g : Nat) (t : TypeId) (cs : List Value) : Prop := w.heap[g]? = some (.cells cs.toArray t (0, 0))

section
variable {w w' : World} {g : Nat} {t : TypeId} {cs : List Value}
theorem Bk.lt (h : Bk w g t cs) : g < w.heap.size := by
  rcases Nat.lt_or_ge g w.heap.size with hlt | hge
  · exact hlt
  · unfold Bk at h; rw [Array.getElem?_eq_none hge] at h; cases h
theorem Bk.cell (h : Bk w g t cs) (i : Nat) : w.cell? ⟨g, i, none⟩ = cs[i]? := by
  rw [cell_of_row w g i cs.toArray t (0, 0) h]; simp
theorem Bk.at_ (h : Bk w g t cs) {i : Nat} {u : Value} (hu : cs[i]? = some u) : w.cell? ⟨g, i, none⟩ = some u := (h.cell i).trans hu
theorem Bk.frozen (h : Bk w g t cs) (i : Nat) : w.frozen? ⟨g, i, none⟩ = false := frozen_of_row w g i cs.toArray t h
theorem Bk.new (w : World) (t : TypeId) (cs : List Value) : Bk (w.alloc (.cells cs.toArray t)) w.heap.size t cs := heap_alloc_new w _
theorem Bk.alloc (h : Bk w g t cs) (o : Obj) : Bk (w.alloc o) g t cs := (heap_alloc_old w o h.lt).trans h
theorem Bk.drewN (h : Bk w g t cs) (n : Nat) : Bk (w.drewN n) g t cs := h
theorem Bk.set (h : Bk w g t cs) (i : Nat) (u : Value) : Bk (w.setCell ⟨g, i, none⟩ u) g t (cs.set i u) := by
  unfold Bk
  rw [heap_setCell_same w g i cs.toArray t u h]
  simp
theorem Bk.far (h : Bk w g t cs) {p : Addr} (hp : g ≠ p.block) (u : Value) : Bk (w.setCell p u) g t cs := (heap_setCell_other w p g u hp).trans h
theorem Bk.below {B : Nat} (h : Bk w g t cs) (hb : Below B w w') (hg : g < B) : Bk w' g t cs := (hb.block g hg).trans h
theorem Bk.grown {row : Option Nat} (h : Bk w g t cs) (hb : w.grownBy w' row) (hg : some g ≠ row) : Bk w' g t cs := (hb.block g h.lt hg).trans h
theorem Bk.kept (h : Bk w g t cs) (hb : Below w.heap.size w w') : Bk w' g t cs := h.below hb h.lt
end
theorem grown_set {w0 w : World} {g : Nat} (h : w0.grownBy w (some g)) (i : Nat) (u : Value) : w0.grownBy (w.setCell ⟨g, i, none⟩ u) (some g) :=
  ⟨h.os, h.tape, h.output, by simpa using h.size, fun k hk hne => (heap_setCell_other w ⟨g, i, none⟩ k u (fun e => hne (by rw [e]))).trans (h.block k hk hne)⟩
theorem below_set {B g : Nat} {w0 w : World} (h : Below B w0 w) (hg : B ≤ g) (i : Nat) (u : Value) : Below B w0 (w.setCell ⟨g, i, none⟩ u) :=
  ⟨h.os, h.tape, h.output, by simpa using h.size, fun k hk => (heap_setCell_other w ⟨g, i, none⟩ k u (by simp; omega)).trans (h.block k hk)⟩

theorem size_setCells' (g : Nat) : ∀ (vs : List Value) (o : Nat) (w : World), (w.setCells g o vs).heap.size = w.heap.size
  | [], _, _ => rfl
  | v :: r, o, w => by
    show ((w.setCell ⟨g, o, none⟩ v).setCells g (o + 1) r).heap.size = _
    rw [size_setCells' g r (o + 1) _]; simp
theorem Bk.setCells {g : Nat} {t : TypeId} : ∀ (vs : List Value) (o : Nat) {w : World} {cs : List Value}, Bk w g t cs → o + vs.length ≤ cs.length → Bk (w.setCells g o vs) g t (cs.take o ++ vs ++ cs.drop (o + vs.length))
  | [], o, w, cs, h, _ => by
    show Bk w g t _
    simpa using h
  | v :: r, o, w, cs, h, hl => by
    have hl' : o + (r.length + 1) ≤ cs.length := by simpa using hl
    have e := Bk.setCells r (o + 1) (h.set o v) (by simp; omega)
    show Bk ((w.setCell ⟨g, o, none⟩ v).setCells g (o + 1) r) g t _
    have e2 : (cs.set o v).take (o + 1) ++ r ++ (cs.set o v).drop (o + 1 + r.length) = cs.take o ++ (v :: r) ++ cs.drop (o + (v :: r).length) := by
      rw [List.take_set, List.drop_set_of_lt (by omega), List.set_eq_take_append_cons_drop, if_pos (by simp; omega)]
      simp [List.take_take, Nat.add_comm, Nat.add_left_comm]
    rw [← e2]; exact e
theorem Bk.setAll {w : World} {g : Nat} {t : TypeId} {cs : List Value} (h : Bk w g t cs) (vs : List Value) (hl : vs.length = cs.length) : Bk (w.setCells g 0 vs) g t vs := by
  have e := Bk.setCells vs 0 h (by omega)
  simpa [hl] using e
theorem grown_setCells {w0 : World} {g : Nat} : ∀ (vs : List Value) (o : Nat) {w : World}, w0.grownBy w (some g) → w0.grownBy (w.setCells g o vs) (some g)
  | [], _, _, h => h
  | v :: r, o, w, h => grown_setCells r (o + 1) (w := w.setCell ⟨g, o, none⟩ v) (grown_set h o v)
theorem below_setCells' {B g : Nat} {w0 : World} (hg : B ≤ g) : ∀ (vs : List Value) (o : Nat) {w : World}, Below B w0 w → Below B w0 (w.setCells g o vs)
  | [], _, _, h => h
  | v :: r, o, w, h => below_setCells' hg r (o + 1) (w := w.setCell ⟨g, o, none⟩ v) (below_set h hg o v)
theorem Bk.there {w : World} {g : Nat} {t : TypeId} {cs : List Value} (h : Bk w g t cs) {o n : Nat} (hn : o + n ≤ cs.length) : w.there g o n := fun j hj => by
  refine ⟨?_, h.frozen _⟩
  rw [h.cell, List.getElem?_eq_getElem (by omega)]; rfl
theorem Bk.rangeAll {w : World} {g : Nat} {t : TypeId} {cs : List Value} (h : Bk w g t cs) : w.rangeAt g 0 cs := fun j v hv => by
  rw [Nat.zero_add]; exact h.at_ hv
/-- a block that wasn't there has turned -/
theorem grown_new {w0 w1 w2 : World} {r : Option Nat} {g' : Nat} (h : w0.grownBy w1 r) (k : w1.grownBy w2 (some g')) (hg : w0.heap.size ≤ g') : w0.grownBy w2 r :=
  grown_trans h k (.inr fun g e => by injection e with e; omega)
theorem at_add (g o l : Nat) : (⟨g, o, none⟩ : Addr).add l = ⟨g, o + l, none⟩ := by
  unfold Addr.add
  by_cases hl : l = 0 <;> simp [hl]
theorem bk_new2 (w : World) (o : Obj) (cs : List Value) (t : TypeId) : Bk ((w.alloc o).alloc (.cells cs.toArray t)) (w.heap.size + 1) t cs := by
  have := Bk.new (w.alloc o) t cs
  simpa using this
/-- where bytes of the call's own lie -/
theorem own_at {w : World} {base : Nat} {A : Option Addr} {n c : Nat} {l : List UInt8} (h : OwnB w base A n c l) (hn : 0 < n) :
    ∃ g, A = some ⟨g, 0, none⟩ ∧ base ≤ g ∧ n ≤ c ∧ c ≤ maxLen ∧ ∃ rest, Bk w g 5 (l.map bv ++ rest) ∧ (l.map bv ++ rest).length = c := by
  rcases h.2 with ⟨_, e2⟩ | ⟨g, cap, cur, e1, hb, hg, hnc, hcm, hsz, ht⟩
  · omega
  · injection e1 with e3 e4 e5
    subst e3 e5
    refine ⟨g, rfl, hb, hnc, hcm, cur.toList.drop n, ?_, ?_⟩
    · rw [Nat.mul_one] at ht
      rw [← ht, List.take_append_drop]
      simpa [Bk] using hg
    · rw [Nat.mul_one] at ht hsz
      rw [← ht, List.take_append_drop]
      simpa using hsz
theorem own_back {w : World} {base g n c : Nat} {l : List UInt8} {rest : List Value} (h : Bk w g 5 (l.map bv ++ rest)) (hc : (l.map bv ++ rest).length = c) (hb : base ≤ g) (hn : l.length = n) (hnc : n ≤ c) (hm : c ≤ maxLen) :
    OwnB w base (some ⟨g, 0, none⟩) n c l :=
  ⟨by simpa using hn, .inr ⟨g, c, _, rfl, hb, h, hnc, hm, by simpa using hc, by
    rw [Nat.mul_one, ← hn]
    show List.take l.length (l.map bv ++ rest) = _
    have e : l.length = (l.map bv).length := by simp
    rw [e, List.take_left]⟩⟩
/-- a slice of bytes that may stand in a row -/
def Sl (w : World) (A : Option Addr) (n c : Nat) (l : List UInt8) : Prop := n ≤ c ∧ c ≤ maxLen ∧ Rd w A n (l.map bv) ∧ (A = none → c = 0)
theorem Sl.len {w : World} {A : Option Addr} {n c : Nat} {l : List UInt8} (h : Sl w A n c l) : l.length = n := by simpa using h.2.2.1.1
theorem Sl.rd {w : World} {A : Option Addr} {n c : Nat} {l : List UInt8} (h : Sl w A n c l) : Rd w A n (l.map bv) := h.2.2.1
theorem Sl.below {w w' : World} {A : Option Addr} {n c : Nat} {l : List UInt8} (h : Sl w A n c l) (hb : Below w.heap.size w w') : Sl w' A n c l := ⟨h.1, h.2.1, h.2.2.1.below hb, h.2.2.2⟩
theorem Sl.alloc {w : World} {A : Option Addr} {n c : Nat} {l : List UInt8} (h : Sl w A n c l) (o : Obj) : Sl (w.alloc o) A n c l := ⟨h.1, h.2.1, h.2.2.1.alloc o, h.2.2.2⟩
theorem Sl.nil_ (w : World) : Sl w none 0 0 [] := ⟨Nat.le_refl _, by simp [maxLen], Rd.nil_ _ _, fun _ => rfl⟩
theorem Sl.own {w : World} {base : Nat} {A : Option Addr} {n c : Nat} {l : List UInt8} (h : OwnB w base A n c l) : Sl w A n c l :=
  ⟨(own_cap h).1, (own_cap h).2, h.rd, fun e => by subst e; exact own_none h⟩
theorem Sl.row {w : World} {A : Option Addr} {n c : Nat} {l : List UInt8} (h : Sl w A n c l) : RowV w (.slice A n c) l := by
  have hl := h.len
  subst hl
  exact ⟨A, c, rfl, h.1, h.2.1, h.2.2.1, h.2.2.2⟩
theorem Sl.of_in {w : World} {A : Option Addr} {n c : Nat} {l : List UInt8} (h : InB w (.slice A n c) l) : Sl w A n c l := by
  obtain ⟨A', n', c', e, h1, h2, h3, h4⟩ := h
  injection e with e1 e2 e3
  subst e1 e2 e3
  exact ⟨h1, h2, h3, h4⟩
theorem below_next {B : Nat} {a b c : World} (h : Below B a b) (k : Below b.heap.size b c) (hB : B ≤ b.heap.size) : Below B a c := h.trans (k.mono hB)
theorem own_ne {w : World} {base : Nat} {e t : TypeId} {size n g : Nat} {v : Value} {xs cs : List Value} (h : w.ownsRow base e size v n xs) (hb : Bk w g t cs) (hne : e ≠ t) : v.ownBlock ≠ some g := by
  rcases h.2 with ⟨rfl, _⟩ | ⟨g', cap, cur, rfl, _, hg, _⟩
  · simp [Value.ownBlock]
  · intro he
    have e1 : g' = g := by simpa [Value.ownBlock] using he
    subst e1
    unfold Bk at hb
    rw [hg] at hb
    injection hb with hb
    injection hb with _ ht
    exact hne ht
theorem OwnB.off {w w' : World} {base g : Nat} {t : TypeId} {cs : List Value} {A : Option Addr} {n c : Nat} {l : List UInt8} (h : OwnB w base A n c l) (hb : Bk w g t cs) (h2 : 5 ≠ t) (hg : w.grownBy w' (some g)) : OwnB w' base A n c l :=
  World.ownsRow.kept h hg (.inr (own_ne h hb h2))
theorem Bk.five {w : World} {g : Nat} {t : TypeId} {a b c d e : Value} (h : Bk w g t [a, b, c, d, e]) :
    w.cell? ⟨g, 0, none⟩ = some a ∧ w.cell? ⟨g, 1, none⟩ = some b ∧ w.cell? ⟨g, 2, none⟩ = some c ∧ w.cell? ⟨g, 3, none⟩ = some d ∧ w.cell? ⟨g, 4, none⟩ = some e :=
  ⟨h.at_ rfl, h.at_ rfl, h.at_ rfl, h.at_ rfl, h.at_ rfl⟩
theorem kept_drew {Y w' : World} {g : Nat} {t : TypeId} {cs : List Value} (hb : Below Y.drew.heap.size Y.drew w') (h : Bk Y g t cs) : Bk w' g t cs :=
  (show Bk Y.drew g t cs from h).kept hb
theorem Bk.two {w : World} {g : Nat} {t : TypeId} {a b : Value} (h : Bk w g t [a, b]) : w.cell? ⟨g, 0, none⟩ = some a ∧ w.cell? ⟨g, 1, none⟩ = some b := ⟨h.at_ rfl, h.at_ rfl⟩
theorem Bk.five_far {w : World} {g g' : Nat} {t : TypeId} {cs : List Value} (h : Bk w g t cs) (hne : g ≠ g') (a b c d e : Value) :
    Bk (((((w.setCell ⟨g', 0, none⟩ a).setCell ⟨g', 1, none⟩ b).setCell ⟨g', 2, none⟩ c).setCell ⟨g', 3, none⟩ d).setCell ⟨g', 4, none⟩ e) g t cs :=
  ((((h.far hne a).far hne b).far hne c).far hne d).far hne e
/-- only what is new has turned, and 'returns r' -/
def Tells (r : Value) (w : World) (e : Ending) (w' : World) : Prop := e = .returned r ∧ Below w.heap.size w w'
theorem Sl.drew {w : World} {A : Option Addr} {n c : Nat} {l : List UInt8} (h : Sl w A n c l) : Sl w.drew A n c l := h
/-- onto a later world, a draw between or not -/
theorem Sl.belowD {w w' : World} {A : Option Addr} {n c : Nat} {l : List UInt8} (h : Sl w A n c l) (hb : Below w.drew.heap.size w.drew w') : Sl w' A n c l := h.drew.below hb
theorem below_drew {B : Nat} {a w : World} (h : Below B a w) : Below B a w.drew := below_drewN h 1
theorem Rd.belowD {w w' : World} {A : Option Addr} {n : Nat} {xs : List Value} (h : Rd w A n xs) (hb : Below w.drew.heap.size w.drew w') : Rd w' A n xs := (Rd.drew h).below hb
theorem rows_drew {w : World} {A : Option Addr} {n : Nat} {ls : List (List UInt8)} (h : RdRows w A n ls) : RdRows w.drew A n ls := h
theorem rows_belowD {w w' : World} {A : Option Addr} {n : Nat} {ls : List (List UInt8)} (h : RdRows w A n ls) (hb : Below w.drew.heap.size w.drew w') : RdRows w' A n ls := (rows_drew h).below hb
theorem bk_keptD {w w' : World} {g : Nat} {t : TypeId} {cs : List Value} (h : Bk w g t cs) (hb : Below w.drew.heap.size w.drew w') : Bk w' g t cs := (show Bk w.drew g t cs from h).kept hb
theorem bk_drew {w : World} {g : Nat} {t : TypeId} {cs : List Value} (h : Bk w g t cs) : Bk w.drew g t cs := h
theorem Sl.front {w : World} {A : Option Addr} {N n c : Nat} {l r : List UInt8} (h : Sl w A N c (l ++ r)) (hl : l.length = n) : Sl w A n c l := by
  have hlen := h.len
  rw [List.length_append, hl] at hlen
  refine ⟨by have := h.1; omega, h.2.1, ?_, h.2.2.2⟩
  have := h.rd.front (k := n) (by omega)
  rwa [List.map_append, List.take_left' (by rw [List.length_map]; exact hl)] at this
/-- what a call answers: new bytes; what was there is as it was -/
def NewS (l : List UInt8) (n : Nat) (w X : World) (e : Ending) (w' : World) : Prop :=
  ∃ A c, e = .returned (.slice A n c) ∧ Sl w' A n c l ∧ Below w.heap.size w w' ∧ Below X.heap.size X w'
theorem fresh_new {l : List UInt8} {n : Nat} {w X : World} {e : Ending} {w' : World} (hw : Below w.heap.size w X) (hl : l.length = n) (h : Fresh1 l X e w') : NewS l n w X e w' := by
  obtain ⟨A, m, c, he, ho, hb⟩ := h
  have hm : m = n := by rw [← hl, ho.len]
  subst hm
  exact ⟨A, c, he, Sl.own ho, below_next hw hb hw.size, hb⟩
/-- a bool, and what was there is as it was -/
def BoolS (b : Bool) (w X : World) (e : Ending) (w' : World) : Prop := e = .returned (.bool b) ∧ Below w.heap.size w w' ∧ Below X.heap.size X w'
theorem quiet_bool {b : Bool} {w X : World} {e : Ending} {w' : World} (hw : Below w.heap.size w X) (h : Quiet (.bool b) X e w') : BoolS b w X e w' := by
  obtain ⟨he, k, rfl⟩ := h
  exact ⟨he, below_drewN hw k, below_drewN (Below.refl _ _) k⟩
theorem tells_bool {b : Bool} {w X : World} {e : Ending} {w' : World} (hw : Below w.heap.size w X) (h : Tells (.bool b) X e w') : BoolS b w X e w' := by
  obtain ⟨he, hb⟩ := h
  exact ⟨he, below_next hw hb hw.size, hb⟩
theorem below_al {w X : World} {o : Obj} (h : Below w.heap.size w X) : Below w.heap.size w (X.alloc o) := h.alloc h.size _
theorem sl_belowA {w w' : World} {o : Obj} {A : Option Addr} {n c : Nat} {l : List UInt8} (h : Sl w A n c l) (hb : Below (w.alloc o).heap.size (w.alloc o) w') : Sl w' A n c l := (h.alloc o).below hb
theorem sl_belowAD {w w' : World} {o : Obj} {A : Option Addr} {n c : Nat} {l : List UInt8} (h : Sl w A n c l) (hb : Below (w.alloc o).drew.heap.size (w.alloc o).drew w') : Sl w' A n c l := (h.alloc o).belowD hb
theorem rd_belowA {w w' : World} {o : Obj} {A : Option Addr} {n : Nat} {l : List Value} (h : Rd w A n l) (hb : Below (w.alloc o).heap.size (w.alloc o) w') : Rd w' A n l := (h.alloc o).below hb
theorem rd_belowAD {w w' : World} {o : Obj} {A : Option Addr} {n : Nat} {l : List Value} (h : Rd w A n l) (hb : Below (w.alloc o).drew.heap.size (w.alloc o).drew w') : Rd w' A n l := (h.alloc o).belowD hb
theorem bk_keptA {w w' : World} {o : Obj} {g : Nat} {t : TypeId} {cs : List Value} (h : Bk w g t cs) (hb : Below (w.alloc o).heap.size (w.alloc o) w') : Bk w' g t cs := (h.alloc o).kept hb
theorem bk_keptAD {w w' : World} {o : Obj} {g : Nat} {t : TypeId} {cs : List Value} (h : Bk w g t cs) (hb : Below (w.alloc o).drew.heap.size (w.alloc o).drew w') : Bk w' g t cs := bk_keptD (h.alloc o) hb
theorem bk_ne {X : World} {a g : Nat} {t t' : TypeId} {cs cs' : List Value} (h : Bk X a t cs) (h' : Bk X g t' cs') (hne : t ≠ t') : a ≠ g := by
  intro e
  subst e
  unfold Bk at h h'
  rw [h] at h'
  injection h' with h'
  injection h' with _ e2 _
  exact hne e2
theorem rows_alloc {w : World} {o : Obj} {A : Option Addr} {n : Nat} {ls : List (List UInt8)} (h : RdRows w A n ls) : RdRows (w.alloc o) A n ls := h.below ((Below.refl _ _).alloc (Nat.le_refl _) _)
theorem rows_belowA {w w' : World} {o : Obj} {A : Option Addr} {n : Nat} {ls : List (List UInt8)} (h : RdRows w A n ls) (hb : Below (w.alloc o).heap.size (w.alloc o) w') : RdRows w' A n ls := (rows_alloc h).below hb
theorem rows_belowAD {w w' : World} {o : Obj} {A : Option Addr} {n : Nat} {ls : List (List UInt8)} (h : RdRows w A n ls) (hb : Below (w.alloc o).drew.heap.size (w.alloc o).drew w') : RdRows w' A n ls := rows_belowD (rows_alloc h) hb
theorem made_kept {Y w' : World} {o : Obj} (h : Below (Y.alloc o).heap.size (Y.alloc o) w') : Below Y.heap.size Y w' :=
  have b := (Below.refl Y.heap.size Y).alloc (Nat.le_refl _) o
  below_next b h b.size
theorem made_keptD {Y w' : World} {o : Obj} (h : Below (Y.alloc o).drew.heap.size (Y.alloc o).drew w') : Below Y.heap.size Y w' :=
  have b := below_drew ((Below.refl Y.heap.size Y).alloc (Nat.le_refl _) o)
  below_next b h b.size
theorem kept_on {Y X w' : World} (hb : Below Y.heap.size Y X) (h : Below X.heap.size X w') : Below Y.heap.size Y w' := below_next hb h hb.size
theorem kept_onD {Y X w' : World} (hb : Below Y.heap.size Y X) (h : Below X.drew.heap.size X.drew w') : Below Y.heap.size Y w' := below_next (below_drew hb) h (below_drew hb).size
end Go.Proofs.Ytfbdmemjojjgnaa

/-
  What a call leaves as it was: blocks that may turn. Plain lemmas; no statement.
-/
namespace Go.Proofs.Ytfbdmemjojjgnaa
set_option maxRecDepth 100000
open Go.RowKit
set_option linter.unusedVariables false

/-- of what was there, only blocks of F have turned -/
structure Chg (F : Nat → Prop) (w w' : World) : Prop where
  os : w'.os = w.os
  tape : w'.tape = w.tape
  output : w'.output = w.output
  size : w.heap.size ≤ w'.heap.size
  block : ∀ k, k < w.heap.size → ¬ F k → w'.heap[k]? = w.heap[k]?
section
variable {F G F' : Nat → Prop} {a b c w w' : World}
theorem Chg.refl (F : Nat → Prop) (w : World) : Chg F w w := ⟨rfl, rfl, rfl, Nat.le_refl _, fun _ _ _ => rfl⟩
theorem Chg.trans (h : Chg F a b) (k : Chg F' b c) (hF : ∀ i, F' i → F i ∨ a.heap.size ≤ i) : Chg F a c :=
  ⟨k.os.trans h.os, k.tape.trans h.tape, k.output.trans h.output, Nat.le_trans h.size k.size, fun i hi hn =>
    (k.block i (Nat.lt_of_lt_of_le hi h.size) (fun hf => (hF i hf).elim hn (by omega))).trans (h.block i hi hn)⟩
theorem Chg.same (h : Chg F a b) (k : Chg F b c) : Chg F a c := h.trans k fun _ => .inl
theorem Chg.more (h : Chg F w w') (hF : ∀ i, F i → G i ∨ w.heap.size ≤ i) : Chg G w w' := (Chg.refl G w).trans h hF
theorem Chg.of_below (F : Nat → Prop) (h : Below w.heap.size w w') : Chg F w w' := ⟨h.os, h.tape, h.output, h.size, fun k hk _ => h.block k hk⟩
theorem Chg.below {B : Nat} (h : Chg F w w') (hF : ∀ i, F i → B ≤ i) (hB : B ≤ w.heap.size) : Below B w w' :=
  ⟨h.os, h.tape, h.output, h.size, fun k hk => h.block k (by omega) (fun hf => by have := hF k hf; omega)⟩
theorem Chg.then (h : Chg F a b) (k : Below b.heap.size b c) : Chg F a c := h.same (Chg.of_below F k)
theorem Chg.behind (h : Below a.heap.size a b) (k : Chg F b c) : Chg F a c := (Chg.of_below F h).same k
theorem Chg.alloc (h : Chg F a w) (o : Obj) : Chg F a (w.alloc o) := h.then ((Below.refl _ _).alloc (Nat.le_refl _) o)
theorem Chg.drewN (h : Chg F a w) (n : Nat) : Chg F a (w.drewN n) := ⟨h.os, h.tape, h.output, h.size, h.block⟩
theorem Chg.drew (h : Chg F a w) : Chg F a w.drew := ⟨h.os, h.tape, h.output, h.size, h.block⟩
theorem Chg.grown {row : Option Nat} (h : Chg F a w) (hg : w.grownBy w' row) (hr : ∀ g, row = some g → F g ∨ a.heap.size ≤ g) : Chg F a w' :=
  h.trans (F' := fun i => row = some i) ⟨hg.os, hg.tape, hg.output, hg.size, fun k hk hn => hg.block k hk (fun e => hn e.symm)⟩ fun i hi => hr i hi
theorem Chg.set {g : Nat} (h : Chg F a w) (hg : F g ∨ a.heap.size ≤ g) (i : Nat) (u : Value) : Chg F a (w.setCell ⟨g, i, none⟩ u) :=
  h.grown (grown_set (grown_refl w (some g)) i u) (fun k e => by injection e with e; subst e; exact hg)
theorem Chg.bk {g : Nat} {t : TypeId} {cs : List Value} (h : Chg F w w') (hb : Bk w g t cs) (hg : ¬ F g) : Bk w' g t cs := (h.block g hb.lt hg).trans hb
theorem Chg.rd {A : Option Addr} {n : Nat} {xs : List Value} (h : Chg F w w') (hr : Rd w A n xs) (hA : ∀ a, A = some a → 0 < n → ¬ F a.block) : Rd w' A n xs :=
  ⟨hr.1, fun k u hu => by
    have hk : 0 < n := by have := (List.getElem?_eq_some_iff.1 hu).1; have := hr.1; omega
    obtain ⟨a, e, hb, hc⟩ := hr.2 k u hu
    refine ⟨a, e, Nat.lt_of_lt_of_le hb h.size, ?_⟩
    rw [World.cell?_of_block (w := w) (h.block _ (by rw [add_block]; exact hb) (by rw [add_block]; exact hA a e hk))]
    exact hc⟩
theorem Chg.owns {base size n : Nat} {e : TypeId} {v : Value} {xs : List Value} (h : Chg F w w') (ho : w.ownsRow base e size v n xs) (hv : ∀ k, v.ownBlock = some k → ¬ F k) : w'.ownsRow base e size v n xs := by
  refine ⟨ho.1, ?_⟩
  rcases ho.2 with hn | ⟨g, cap, cur, rfl, hb, hgg, rest⟩
  · exact .inl hn
  · exact .inr ⟨g, cap, cur, rfl, hb, (h.block g (Array.getElem?_eq_some_iff.1 hgg).1 (hv g rfl)).trans hgg, rest⟩
theorem Chg.ownB {base n c : Nat} {A : Option Addr} {l : List UInt8} (h : Chg F w w') (ho : OwnB w base A n c l) (hv : ∀ k, (Value.slice A n c).ownBlock = some k → ¬ F k) : OwnB w' base A n c l := h.owns ho hv
end
end Go.Proofs.Ytfbdmemjojjgnaa

/-
  What a call hands back that has a struct. Plain lemmas; no statement.
-/
namespace Go.Proofs.Ytfbdmemjojjgnaa
set_option maxRecDepth 100000
open Go.RowKit
set_option linter.unusedVariables false

/-- what a call hands back that has a struct and a number -/
theorem results_row_tmp {P : Program} {fn : Func} {p u : Tmp} {ty : TypeId} (h : fn.results = #[.cell p ty, .tmp u]) (tmps : Array Value) (w : World) (g : Nat) (t : TypeId) (cs : List Value) (d : TypeDesc)
    (hp : tmps.getD p undef = .pointer (some ⟨g, 0, none⟩)) (hg : Bk w g t cs)
    (hu : P.underlying ty = some d) (hd : (match d with | .struct _ | .array _ _ => true | _ => false) = true) (hi : (P.info? ty).map (·.size) = some cs.toArray.size) :
    (results fn tmps).run P w = .ok (.tuple #[.agg cs.toArray, tmps.getD u undef]) w := by
  rw [results_cell_tmp h, hp]
  simp only [asAddr, Sem.run_pure, Result.andThen_ok, run_loadVar_row w g t ty cs.toArray (0, 0) d hg hu hd hi]
theorem results_cell1 {fn : Func} {p : Tmp} {ty : TypeId} (h : fn.results = #[.cell p ty]) (tmps : Array Value) (P : Program) (w : World) :
    (results fn tmps).run P w = ((asAddr (tmps.getD p undef)).run P w).andThen fun a w1 => (loadVar ty a).run P w1 := by
  simp only [results, h]
  simp [Sem.run_bind, Result.andThen]
theorem results_row1 {P : Program} {fn : Func} {p : Tmp} {ty : TypeId} (h : fn.results = #[.cell p ty]) (tmps : Array Value) (w : World) (g : Nat) (t : TypeId) (cs : List Value) (d : TypeDesc)
    (hp : tmps.getD p undef = .pointer (some ⟨g, 0, none⟩)) (hg : Bk w g t cs)
    (hu : P.underlying ty = some d) (hd : (match d with | .struct _ | .array _ _ => true | _ => false) = true) (hi : (P.info? ty).map (·.size) = some cs.toArray.size) :
    (results fn tmps).run P w = .ok (.agg cs.toArray) w := by
  rw [results_cell1 h, hp]
  simp only [asAddr, Sem.run_pure, Result.andThen_ok, run_loadVar_row w g t ty cs.toArray (0, 0) d hg hu hd hi]
end Go.Proofs.Ytfbdmemjojjgnaa

/-
  Constant bytes, and bytes as a string. Plain lemmas; no statement.
-/
namespace Go.Proofs.Ytfbdmemjojjgnaa
set_option maxRecDepth 100000
open Go.RowKit
set_option linter.unusedVariables false

theorem Sl.marked (w : World) (l : List UInt8) (fr : Nat × Nat) (h : l.length ≤ maxLen) : Sl (w.alloc (.cells (l.map bv).toArray 5 fr)) (some ⟨w.heap.size, 0, none⟩) l.length l.length l :=
  ⟨Nat.le_refl _, h, by have := Rd.marked w (l.map bv) 5 fr; rwa [List.length_map] at this, fun e => by cases e⟩
end Go.Proofs.Ytfbdmemjojjgnaa

/-
  bytes.Equal. A walk; no statement.
-/
namespace Go.Proofs.Ytfbdmemjojjgnaa
set_option maxRecDepth 100000
open Go.RowKit
set_option linter.unusedVariables false

end Go.Proofs.Ytfbdmemjojjgnaa
