import Derived.Test.YtfbdmemjojjgnaaChecked
import Derived.WalkKit
import Derived.ProofKit
import Derived.Below
import Derived.Lib.Hide
import Derived.Maps.AppendAt
import Derived.Deep.AppendLies
import Derived.Deep.Draws
import Derived.OwnWalk
import Derived.Deep.QuietTactic
import Derived.BigQuiet
import Derived.Outline
import Derived.IntWalk
import Derived.WalkSpells

/-
  How much a list of lists holds; pieces of lists. Plain lemmas; no statement.
-/
namespace Go.Proofs.Ytfbdmemjojjgnaa
set_option maxRecDepth 100000

theorem take_snoc {α : Type} (l : List α) (k : Nat) (h : k < l.length) : l.take (k + 1) = l.take k ++ [l[k]] := by
  rw [List.take_succ_eq_append_getElem h]
/-- the lists' bytes, each list counted as one more -/
def total : List (List UInt8) → Nat
  | [] => 0
  | l :: r => 1 + l.length + total r
theorem total_append (a b : List (List UInt8)) : total (a ++ b) = total a + total b := by
  induction a with
  | nil => simp [total]
  | cons x r ih => simp only [List.cons_append, total, ih]; omega
theorem total_len (ls : List (List UInt8)) : ls.length ≤ total ls := by
  induction ls with
  | nil => simp [total]
  | cons x r ih => simp only [total, List.length_cons]; omega
theorem total_mem {ls : List (List UInt8)} {l : List UInt8} (h : l ∈ ls) : l.length < total ls := by
  induction ls with
  | nil => cases h
  | cons x r ih =>
    simp only [total]
    rcases List.mem_cons.1 h with e | e
    · subst e; omega
    · have := ih e; omega
theorem total_take (ls : List (List UInt8)) (k : Nat) : total (ls.take k) ≤ total ls := by
  have h := total_append (ls.take k) (ls.drop k)
  rw [List.take_append_drop] at h
  omega
theorem total_flatten (ls : List (List UInt8)) : ls.flatten.length ≤ total ls := by
  induction ls with
  | nil => simp [total]
  | cons x r ih => simp only [List.flatten_cons, List.length_append, total]; omega
theorem getD_mem {α : Type} {ls : List α} {k : Nat} {d : α} (h : k < ls.length) : ls.getD k d ∈ ls := by
  rw [List.getD, List.getElem?_eq_getElem h]
  exact List.getElem_mem h
theorem getD_eq {α : Type} {ls : List α} {k : Nat} {d : α} (h : k < ls.length) : ls.getD k d = ls[k] := by
  rw [List.getD, List.getElem?_eq_getElem h]; rfl
theorem take_snocD {α : Type} (l : List α) (d : α) (k : Nat) (h : k < l.length) : l.take (k + 1) = l.take k ++ [l.getD k d] := by
  rw [take_snoc l k h, getD_eq h]
end Go.Proofs.Ytfbdmemjojjgnaa

/-
  Words for memory that the texts of this seat share: a slice that reads as a list of one-cell values; what stays of it behind new blocks, draws, stores into the call's own blocks; appends onto a row of the call's own. Plain lemmas; no statement.
-/
namespace Go.Proofs.Ytfbdmemjojjgnaa
set_option maxRecDepth 100000
open Go.RowKit

/-- a byte as a value -/
def bv (c : UInt8) : Value := .int .u8 (c.toNat : Int)

theorem add_block (a : Addr) (n : Nat) : (a.add n).block = a.block := by unfold Addr.add; split <;> rfl
theorem add_plus (a : Addr) (i j : Nat) : (a.add i).add j = a.add (i + j) := by
  unfold Addr.add
  by_cases hi : i = 0 <;> by_cases hj : j = 0 <;> simp [hi, hj, Nat.add_assoc]

/-- the slice (A, n) reads as xs, each element one cell, in blocks that are there -/
def Rd (w : World) (A : Option Addr) (n : Nat) (xs : List Value) : Prop :=
  xs.length = n ∧ ∀ k u, xs[k]? = some u → ∃ a, A = some a ∧ a.block < w.heap.size ∧ w.cell? (a.add k) = some u

section
variable {w w' : World} {A : Option Addr} {n : Nat} {xs : List Value}

theorem Rd.nil_ (w : World) (A : Option Addr) : Rd w A 0 [] := ⟨rfl, fun k u h => by simp at h⟩

theorem Rd.keep (h : Rd w A n xs) (hs : w.heap.size ≤ w'.heap.size) (hk : ∀ p : Addr, p.block < w.heap.size → w'.cell? p = w.cell? p) : Rd w' A n xs :=
  ⟨h.1, fun k u hu => by
    obtain ⟨a, e, hb, hc⟩ := h.2 k u hu
    exact ⟨a, e, by omega, (hk _ (by rw [add_block]; exact hb)).trans hc⟩⟩
theorem Rd.below (h : Rd w A n xs) (hb : Below w.heap.size w w') : Rd w' A n xs := h.keep hb.size fun _ hp => hb.cell hp
theorem Rd.drewN (h : Rd w A n xs) (k : Nat) : Rd (w.drewN k) A n xs := h
theorem Rd.drew (h : Rd w A n xs) : Rd w.drew A n xs := h
theorem Rd.alloc (h : Rd w A n xs) (o : Obj) : Rd (w.alloc o) A n xs := h.below ((Below.refl _ _).alloc (Nat.le_refl _) o)

/-- element k: where it lies -/
theorem Rd.at_ (h : Rd w A n xs) {k : Nat} (hk : k < n) : ∃ a, A = some a ∧ a.block < w.heap.size ∧ w.cell? (a.add k) = some (xs.getD k undef) := by
  have hl : k < xs.length := by rw [h.1]; exact hk
  obtain ⟨a, e, hb, hc⟩ := h.2 k xs[k] (List.getElem?_eq_getElem hl)
  exact ⟨a, e, hb, by rw [hc]; simp [List.getD, hl]⟩

/-- a cut behind the first k: the model's value of it, whatever the capacity -/
theorem Rd.cut (h : Rd w A n xs) {k cap : Nat} (hk : k ≤ n) (hc : n ≤ cap) : Rd w (if cap = k then A else A.map (·.add k)) (n - k) (xs.drop k) := by
  refine ⟨by rw [List.length_drop, h.1], fun j u hu => ?_⟩
  rw [List.getElem?_drop] at hu
  have hl : k + j < xs.length := (List.getElem?_eq_some_iff.1 hu).1
  rw [h.1] at hl
  obtain ⟨a, rfl, hb, hcell⟩ := h.2 _ u hu
  rw [if_neg (by omega)]
  exact ⟨a.add k, rfl, by rw [add_block]; exact hb, by rw [add_plus]; exact hcell⟩
/-- the first k -/
theorem Rd.front (h : Rd w A n xs) {k : Nat} (hk : k ≤ n) : Rd w A k (xs.take k) := by
  refine ⟨by rw [List.length_take, h.1]; omega, fun j u hu => ?_⟩
  rw [List.getElem?_take] at hu
  split at hu
  · exact h.2 j u hu
  · cases hu

theorem Rd.own {base : Nat} {e : TypeId} {c : Nat} (h : w.ownsRow base e 1 (.slice A n c) n xs) : Rd w A n xs := by
  refine ⟨by simpa using h.1, fun k u hu => ?_⟩
  have hk : k < n := by have := (List.getElem?_eq_some_iff.1 hu).1; have := h.1; omega
  obtain ⟨g, cap, hv, _, hlt⟩ := h.form (by omega)
  have hA : A = some ⟨g, 0, none⟩ := by injection hv
  subst hA
  exact ⟨_, rfl, hlt, h.cells (g := g) rfl k u hu⟩

/-- a block that was just laid, read as a slice -/
theorem Rd.new (w : World) (cs : List Value) (t : TypeId) : Rd (w.alloc (.cells cs.toArray t)) (some ⟨w.heap.size, 0, none⟩) cs.length cs := by
  refine ⟨rfl, fun k u hu => ⟨_, rfl, by simp, World.news_of_block (heap_alloc_new w _) k u (by simpa using hu)⟩⟩

/-- likewise of a block with a mark -/
theorem Rd.marked (w : World) (cs : List Value) (t : TypeId) (fr : Nat × Nat) : Rd (w.alloc (.cells cs.toArray t fr)) (some ⟨w.heap.size, 0, none⟩) cs.length cs := by
  refine ⟨rfl, fun k u hu => ⟨_, rfl, by simp, World.news_of_block (heap_alloc_new w _) k u (by simpa using hu)⟩⟩

/-- two steps of growth: the second row is the first one, or a new block -/
theorem grown_trans {w0 w1 w2 : World} {r r' : Option Nat} (h : w0.grownBy w1 r) (k : w1.grownBy w2 r') (hr : r' = r ∨ ∀ g, r' = some g → w0.heap.size ≤ g) : w0.grownBy w2 r :=
  ⟨k.os.trans h.os, k.tape.trans h.tape, k.output.trans h.output, Nat.le_trans h.size k.size, fun i hi hne => (k.block i (Nat.lt_of_lt_of_le hi h.size) (by
    rcases hr with e | hg
    · rw [e]; exact hne
    · intro e; have := hg i e.symm; omega)).trans (h.block i hi hne)⟩
theorem grown_refl (w : World) (r : Option Nat) : w.grownBy w r := ⟨rfl, rfl, rfl, Nat.le_refl _, fun _ _ _ => rfl⟩
theorem grown_alloc {w0 w : World} {r : Option Nat} (h : w0.grownBy w r) (o : Obj) : w0.grownBy (w.alloc o) r :=
  grown_trans h (World.grownBy_alloc w o r) (.inl rfl)
theorem grown_drewN {w0 w : World} {r : Option Nat} (h : w0.grownBy w r) (n : Nat) : w0.grownBy (w.drewN n) r := ⟨h.os, h.tape, h.output, h.size, h.block⟩
theorem grown_of_below {w0 w : World} (h : Below w0.heap.size w0 w) (r : Option Nat) : w0.grownBy w r := ⟨h.os, h.tape, h.output, h.size, fun i hi _ => h.block i hi⟩
theorem below_of_grown {B : Nat} {w0 w : World} {r : Option Nat} (h : w0.grownBy w r) (hB : B ≤ w0.heap.size) (hr : ∀ g, r = some g → B ≤ g) : Below B w0 w := (Below.refl _ _).grown h hB hr
theorem below_drewN {B : Nat} {a w : World} (h : Below B a w) (n : Nat) : Below B a (w.drewN n) := ⟨h.os, h.tape, h.output, h.size, h.block⟩

theorem below_undrawn {B : Nat} {a w : World} {n : Nat} (h : Below B (a.drewN n) w) : Below B a w := ⟨h.os, h.tape, h.output, h.size, h.block⟩

/-- a slice whose block isn't the row that grew reads as before -/
theorem Rd.grown {r : Option Nat} (h : Rd w A n xs) (hg : w.grownBy w' r) (hne : ∀ a, A = some a → r ≠ some a.block) : Rd w' A n xs :=
  ⟨h.1, fun k u hu => by
    obtain ⟨a, e, hb, hc⟩ := h.2 k u hu
    refine ⟨a, e, Nat.lt_of_lt_of_le hb hg.size, ?_⟩
    rw [World.cell?_of_block (w := w) (hg.block _ (by rw [add_block]; exact hb) (by rw [add_block]; intro q; exact hne a e q.symm))]
    exact hc⟩
end

section
variable {P : Program} (w : World)
/-- what append makes of a row of the call's own and a slice that reads -/
theorem run_append_rd (base : Nat) (t ty e : TypeId) (i : TypeInfo) (z : Value) (bytes : Nat) (ht : P.underlying t = some (.slice e)) (hi : P.info? e = some i) (hz : i.zero = some z)
    (hsize : i.size = 1) (hby : i.bytes = bytes) (hzs : z.cells.size = 1)
    (A : Option Addr) (n c : Nat) (xs : List Value) (hown : w.ownsRow base e 1 (.slice A n c) n xs)
    (A2 : Option Addr) (m c2 : Nat) (news : List Value) (hr : Rd w A2 m news) (h1 : ∀ u ∈ news, u.oneCell' = true)
    (h63 : n + m ≤ maxLen) (hbytes : (n + m) * bytes ≤ 140737488355328) (hbase : base ≤ w.heap.size) :
    ∃ A' c' w', (Builtin.append_ #[t, t] ty #[.slice A n c, .slice A2 m c2]).run P w = .ok (.slice A' (n + m) c') w' ∧ w'.ownsRow base e 1 (.slice A' (n + m) c') (n + m) (xs ++ news) ∧
      w.grownBy w' (Value.slice A n c).ownBlock ∧ ((Value.slice A' (n + m) c').ownBlock = (Value.slice A n c).ownBlock ∨ (Value.slice A' (n + m) c').ownBlock = some w.heap.size) := by
  have hm : news.length = m := hr.1
  rcases A2 with _ | ad
  · have hn : news = [] := by
      cases news with
      | nil => rfl
      | cons u r => obtain ⟨_, h, _⟩ := hr.2 0 u rfl; cases h
    subst hn
    obtain rfl : 0 = m := hm
    refine ⟨A, c, w, ?_, by simpa using hown, grown_refl _ _, .inl rfl⟩
    rcases hown.2 with ⟨e1, e2⟩ | ⟨g, cap, cur, e1, _, _, hnc, _⟩
    · injection e1 with e3 e4 e5
      subst e3 e4 e5
      simp [Builtin.append_, run_underlying ht, sizeOf, typeInfo, hi, Builtin.lenOf, Builtin.firstCells]
    · injection e1 with e3 e4 e5
      subst e3 e5
      simp [Builtin.append_, run_underlying ht, sizeOf, typeInfo, hi, Builtin.lenOf, Builtin.firstCells, hnc, storeCells]
  · obtain ⟨v', w', hrun, h2, h3, _, h5⟩ := run_append_own_at (P := P) w base t ty e i z 1 bytes ht hi hz hsize hby hzs (by omega) (.slice A n c) n xs hown ad m c2 news (by rw [hm]; omega)
      (fun j u hu => by obtain ⟨a, e1, _, hc⟩ := hr.2 j u hu; injection e1 with e1; rw [e1]; exact hc) h1 h63 hbytes hbase
    have hv : ∃ A' c', v' = .slice A' (n + m) c' := by
      rcases h2.2 with ⟨e1, e2⟩ | ⟨g, cap, cur, e1, _⟩
      · exact ⟨none, 0, by rw [e1, e2]⟩
      · exact ⟨_, _, e1⟩
    obtain ⟨A', c', rfl⟩ := hv
    exact ⟨A', c', w', hrun, h2, h3, h5⟩

theorem wpList_append_rd {ops : Array Oper} {rest : List Oper} {o : Oper} {a : Act} {Q : Exit → Act → World → Prop} (hw : Region.wanted o (yielded ops a.tmps) = true) (s x : Operand) (t : TypeId)
    (ho : o.op = .call { callee := .builtin .append, args := #[s, x], argTypes := #[t, t] })
    (base : Nat) (e : TypeId) (i : TypeInfo) (z : Value) (bytes : Nat) (ht : P.underlying t = some (.slice e)) (hi : P.info? e = some i) (hz : i.zero = some z)
    (hsize : i.size = 1) (hby : i.bytes = bytes) (hzs : z.cells.size = 1)
    (A : Option Addr) (n c : Nat) (xs : List Value) (hs : a.eval s = .slice A n c) (hown : w.ownsRow base e 1 (.slice A n c) n xs)
    (A2 : Option Addr) (m c2 : Nat) (news : List Value) (hx : a.eval x = .slice A2 m c2) (hr : Rd w A2 m news) (h1 : ∀ u ∈ news, u.oneCell' = true)
    (h63 : n + m ≤ maxLen) (hbytes : (n + m) * bytes ≤ 140737488355328) (hbase : base ≤ w.heap.size)
    (h : ∀ A' c' w', w'.ownsRow base e 1 (.slice A' (n + m) c') (n + m) (xs ++ news) → w.grownBy w' (Value.slice A n c).ownBlock →
      ((Value.slice A' (n + m) c').ownBlock = (Value.slice A n c).ownBlock ∨ (Value.slice A' (n + m) c').ownBlock = some w.heap.size) → wpList P ops Q rest (a.put o.dst (.slice A' (n + m) c')) w') :
    wpList P ops Q (o :: rest) a w := by
  refine BigFrame.wpList_want hw fun K hK => ?_
  obtain ⟨A', c', w', hrun, h2, h3, h4⟩ := run_append_rd (P := P) w base t o.type e i z bytes ht hi hz hsize hby hzs A n c xs hown A2 m c2 news hr h1 h63 hbytes hbase
  unfold Oper.wp execOp
  simp only [ho, resolve, invoke, builtin, Sem.run_bind, Sem.run_pure, Result.andThen_ok, List.map_toArray, List.map_cons, List.map_nil, hs, hx, hrun]
  exact hK _ _ (h A' c' w' h2 h3 h4)
end
end Go.Proofs.Ytfbdmemjojjgnaa

namespace Go.Proofs.Ytfbdmemjojjgnaa
set_option maxRecDepth 100000
open Go.RowKit

/-- 'returns r, and the world is the old one but for draws' -/
def Quiet (r : Value) (w : World) (e : Ending) (w' : World) : Prop := e = .returned r ∧ ∃ n, w' = w.drewN n

/-- true came back, and what was there is as it was -/
def Tr (w : World) (e : Ending) (w' : World) : Prop := e = .returned (.bool true) ∧ Below w.heap.size w w'
/-- returns this, and nothing that was there has turned -/
def Ans (r : Value) (w : World) (e : Ending) (w' : World) : Prop := e = .returned r ∧ Below w.heap.size w w'
theorem ret_bool {a b : Bool} (h : a = b) : Ending.returned (.bool a) = .returned (.bool b) := by rw [h]
theorem ret_int {k : IntKind} {a b : Int} (h : a = b) : Ending.returned (.int k a) = .returned (.int k b) := by rw [h]

theorem bv_ne {a b : UInt8} (h : a ≠ b) : ((a.toNat : Int) == (b.toNat : Int)) = false := by
  rw [beq_eq_false_iff_ne]; intro e; exact h (UInt8.toNat_inj.1 (by omega))



end Go.Proofs.Ytfbdmemjojjgnaa

/-
  Rows of bytes of a call's own. Plain lemmas; no statement.
-/
namespace Go.Proofs.Ytfbdmemjojjgnaa
set_option maxRecDepth 100000
open Go.RowKit

theorem info_u8 : (Try.prog.info? 5).map (fun i => (i.zero, i.size, i.bytes)) = some (some (.int .u8 0), 1, 1) := by kernel_rfl

/-- 'w owns, from block base on, the slice (A, n, c), which holds the bytes l' -/
def OwnB (w : World) (base : Nat) (A : Option Addr) (n c : Nat) (l : List UInt8) : Prop := w.ownsRow base 5 1 (.slice A n c) n (l.map bv)
theorem OwnB.len {w : World} {base : Nat} {A : Option Addr} {n c : Nat} {l : List UInt8} (h : OwnB w base A n c l) : l.length = n := by simpa using h.1
theorem OwnB.rd {w : World} {base : Nat} {A : Option Addr} {n c : Nat} {l : List UInt8} (h : OwnB w base A n c l) : Rd w A n (l.map bv) := Rd.own h
theorem OwnB.nil_ (w : World) (base : Nat) : OwnB w base none 0 0 [] := World.ownsRow_nil w base _ 1
theorem OwnB.alloc {w : World} {base : Nat} {A : Option Addr} {n c : Nat} {l : List UInt8} (h : OwnB w base A n c l) (o : Obj) : OwnB (w.alloc o) base A n c l := World.ownsRow.alloc h o
theorem OwnB.block {w : World} {base : Nat} {A : Option Addr} {n c : Nat} {l : List UInt8} (h : OwnB w base A n c l) : ∀ g, (Value.slice A n c).ownBlock = some g → base ≤ g := fun g hg => (World.ownsRow.lt h g hg).1
theorem OwnB.below {w w' : World} {base : Nat} {A : Option Addr} {n c : Nat} {l : List UInt8} (h : OwnB w base A n c l) (hb : Below w.heap.size w w') : OwnB w' base A n c l :=
  World.ownsRow.kept h (grown_of_below hb none) (by cases (Value.slice A n c).ownBlock <;> simp)
theorem OwnB.drewN {w : World} {base : Nat} {A : Option Addr} {n c : Nat} {l : List UInt8} (h : OwnB w base A n c l) (k : Nat) : OwnB (w.drewN k) base A n c l := h

theorem OwnB.more {w : World} {base base' : Nat} {A : Option Addr} {n c : Nat} {l : List UInt8} (h : OwnB w base A n c l) (hb : base' ≤ base) : OwnB w base' A n c l := by
  refine ⟨h.1, ?_⟩
  rcases h.2 with hn | ⟨g, cap, cur, e, hg, rest⟩
  · exact .inl hn
  · exact .inr ⟨g, cap, cur, e, Nat.le_trans hb hg, rest⟩
theorem own_cap {w : World} {base : Nat} {A : Option Addr} {n c : Nat} {l : List UInt8} (h : OwnB w base A n c l) : n ≤ c ∧ c ≤ maxLen := by
  rcases h.2 with ⟨e1, e2⟩ | ⟨g, cap, cur, e1, _, _, hnc, hcm, _⟩
  · injection e1 with _ _ e5
    subst e5
    exact ⟨by omega, by simp [maxLen]⟩
  · injection e1 with _ _ e5
    subst e5
    exact ⟨hnc, hcm⟩
theorem oneCell_bytes (l : List UInt8) : ∀ u ∈ l.map bv, u.oneCell' = true := by
  intro u hu
  obtain ⟨c, _, rfl⟩ := List.mem_map.1 hu
  rfl

/-- new bytes: all else is as it was -/
def Fresh1 (l : List UInt8) (w : World) (e : Ending) (w' : World) : Prop :=
  ∃ A n c, e = .returned (.slice A n c) ∧ OwnB w' w.heap.size A n c l ∧ Below w.heap.size w w'

theorem own_empty (w : World) : OwnB (w.alloc (.cells #[] 5)) w.heap.size (some ⟨w.heap.size, 0, none⟩) 0 0 [] :=
  World.ownsRow_lit (e := 5) (base := w.heap.size) (size := 1) w #[] 0 (Nat.le_refl _) (by simp [maxLen]) rfl
end Go.Proofs.Ytfbdmemjojjgnaa

namespace Go.Proofs.Ytfbdmemjojjgnaa
set_option maxRecDepth 100000
open Go.RowKit




theorem Rd.none_nil {w : World} {n : Nat} {xs : List Value} (h : Rd w none n xs) : xs = [] := by
  cases xs with
  | nil => rfl
  | cons u r => obtain ⟨_, h, _⟩ := h.2 0 u rfl; cases h



end Go.Proofs.Ytfbdmemjojjgnaa
