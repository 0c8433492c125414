/-
  Rows of Ids of a call's own; which Ids there are. Plain lemmas; no statement.
-/
import Derived.Test.YtmeojepffnoceaaConfPlain
namespace Go.Proofs.Ytmeojepffnoceaa
open Go.RowKit
set_option linter.unusedVariables false

theorem info_id : (Try.prog.info? 26).map (fun i => (i.zero, i.size, i.bytes)) = some (some (.agg #[.int .i64 0, .int .i64 0]), 2, 16) := by kernel_rfl
/-- the cells of Ids -/
def idc : List (Int × Int) → List Value
  | [] => []
  | a :: r => .int .i64 a.1 :: .int .i64 a.2 :: idc r
theorem idc_append (a b : List (Int × Int)) : idc (a ++ b) = idc a ++ idc b := by
  induction a with
  | nil => rfl
  | cons x r ih => simp [idc, ih]
theorem idc_len (l : List (Int × Int)) : (idc l).length = l.length * 2 := by
  induction l with
  | nil => rfl
  | cons x r ih => simp only [idc, List.length_cons, ih]; omega
theorem idc_at : ∀ (l : List (Int × Int)) (k : Nat) (a : Int × Int), l[k]? = some a → (idc l)[k * 2]? = some (.int .i64 a.1) ∧ (idc l)[k * 2 + 1]? = some (.int .i64 a.2)
  | [], k, a, h => by simp at h
  | x :: r, 0, a, h => by obtain rfl := Option.some.inj h; exact ⟨rfl, rfl⟩
  | x :: r, k + 1, a, h => by
    have := idc_at r k a h
    rw [show (k + 1) * 2 = k * 2 + 1 + 1 by omega]
    exact this
theorem one_idc (l : List (Int × Int)) : ∀ v ∈ idc l, v.oneCell' = true := by
  induction l with
  | nil => intro v h; cases h
  | cons x r ih =>
    intro v h
    simp only [idc, List.mem_cons] at h
    rcases h with rfl | rfl | h
    · rfl
    · rfl
    · exact ih v h

/-- 'w owns, from block base on, the slice (A, n, c), which holds the Ids l' -/
def OwnId (w : World) (base : Nat) (A : Option Addr) (n c : Nat) (l : List (Int × Int)) : Prop := w.ownsRow base 26 2 (.slice A n c) n (idc l)
section
variable {w w' : World} {base : Nat} {A : Option Addr} {n c : Nat} {l : List (Int × Int)}
theorem OwnId.len (h : OwnId w base A n c l) : l.length = n := by have := h.1; rw [idc_len] at this; omega
theorem OwnId.below (h : OwnId w base A n c l) (hb : Below w.heap.size w w') : OwnId w' base A n c l :=
  World.ownsRow.kept h (grown_of_below hb none) (by cases (Value.slice A n c).ownBlock <;> simp)
theorem OwnId.alloc (h : OwnId w base A n c l) (o : Obj) : OwnId (w.alloc o) base A n c l := World.ownsRow.alloc h o
theorem OwnId.block (h : OwnId w base A n c l) : ∀ g, (Value.slice A n c).ownBlock = some g → base ≤ g := fun g hg => (World.ownsRow.lt h g hg).1
theorem OwnId.more {base' : Nat} (h : OwnId w base A n c l) (hb : base' ≤ base) : OwnId w base' A n c l := by
  refine ⟨h.1, ?_⟩
  rcases h.2 with hn | ⟨g, cap, cur, e, hg, rest⟩
  · exact .inl hn
  · exact .inr ⟨g, cap, cur, e, Nat.le_trans hb hg, rest⟩
theorem OwnId.drewN (h : OwnId w base A n c l) (k : Nat) : OwnId (w.drewN k) base A n c l := h
/-- the cells of an Id in a row -/
theorem OwnId.at_ (h : OwnId w base A n c l) {k : Nat} {a : Int × Int} (hk : l[k]? = some a) :
    ∃ g, A = some ⟨g, 0, none⟩ ∧ g < w.heap.size ∧ w.cell? ⟨g, k * 2, none⟩ = some (.int .i64 a.1) ∧ w.cell? ⟨g, k * 2 + 1, none⟩ = some (.int .i64 a.2) := by
  have hl := h.len
  have hkn : k < n := by have := (List.getElem?_eq_some_iff.1 hk).1; omega
  obtain ⟨g, cap, hv, _, hlt⟩ := World.ownsRow.form h (by omega)
  injection hv with hA _ _
  subst hA
  obtain ⟨h0, h1⟩ := idc_at l k a hk
  have c0 := World.ownsRow.cells h (g := g) rfl _ _ h0
  have c1 := World.ownsRow.cells h (g := g) rfl _ _ h1
  rw [at_add] at c0 c1
  exact ⟨g, rfl, hlt, by simpa using c0, by simpa using c1⟩
end
theorem OwnId.nil_ (w : World) (base : Nat) : OwnId w base none 0 0 [] := World.ownsRow_nil w base _ 2
theorem OwnId.empty (w : World) : OwnId (w.alloc (.cells #[] 26)) w.heap.size (some ⟨w.heap.size, 0, none⟩) 0 0 [] :=
  World.ownsRow_lit (e := 26) (base := w.heap.size) (size := 2) w #[] 0 (Nat.le_refl _) (by simp [maxLen]) rfl
theorem own_belowD {w w' : World} {base : Nat} {A : Option Addr} {n c : Nat} {l : List (Int × Int)} (h : OwnId w base A n c l) (hb : Below w.drew.heap.size w.drew w') : OwnId w' base A n c l :=
  OwnId.below (w := w.drew) h hb
theorem cell_drew {w : World} {a : Addr} {v : Value} (h : w.cell? a = some v) : w.drew.cell? a = some v := h
/-- new Ids: all else is as it was -/
def FreshId (l : List (Int × Int)) (w : World) (e : Ending) (w' : World) : Prop :=
  ∃ A n c, e = .returned (.slice A n c) ∧ OwnId w' w.heap.size A n c l ∧ Below w.heap.size w w'

/-- the first k Ids of a role -/
def idsK (ro : Int) (k : Nat) : List (Int × Int) := (List.range k).map fun (j : Nat) => (ro, (j : Int))
theorem idsK_next (ro : Int) (k : Nat) : idsK ro (k + 1) = idsK ro k ++ [(ro, (k : Int))] := by
  unfold idsK; rw [List.range_succ, List.map_append]; rfl
theorem idsK_len (ro : Int) (k : Nat) : (idsK ro k).length = k := by simp [idsK]
def Cf.cn (x : Cf) (ro : Int) : Nat := (x.count ro).toNat
theorem Cf.cn_eq (x : Cf) (ro : Int) : x.count ro = (x.cn ro : Int) := by have := x.count_room ro; unfold Cf.cn; omega
theorem Cf.cn_le (x : Cf) (ro : Int) : x.cn ro ≤ 8 := by have := x.count_room ro; unfold Cf.cn; omega
/-- all Ids of roles -/
def Cf.ids (x : Cf) : List Int → List (Int × Int)
  | [] => []
  | ro :: r => idsK ro (x.cn ro) ++ x.ids r
theorem Cf.ids_append (x : Cf) (a b : List Int) : x.ids (a ++ b) = x.ids a ++ x.ids b := by
  induction a with
  | nil => rfl
  | cons ro r ih => simp [Cf.ids, ih]
theorem Cf.ids_len (x : Cf) (l : List Int) : (x.ids l).length ≤ 8 * l.length := by
  induction l with
  | nil => simp [Cf.ids]
  | cons ro r ih => simp only [Cf.ids, List.length_append, List.length_cons, idsK_len]; have := x.cn_le ro; omega
theorem Cf.ids_no {x : Cf} (h : ¬ x.Ok) : ∀ l : List Int, x.ids l = []
  | [] => rfl
  | ro :: r => by
    have e : x.cn ro = 0 := by unfold Cf.cn; rw [Cf.count_no h]; rfl
    show idsK ro (x.cn ro) ++ x.ids r = []
    rw [e, Cf.ids_no h r]; rfl
theorem Cf.ids_next (x : Cf) (l : List Int) (k : Nat) (h : k < l.length) : x.ids (l.take (k + 1)) = x.ids (l.take k) ++ idsK l[k] (x.cn l[k]) := by
  rw [take_snoc l k h, Cf.ids_append]; simp [Cf.ids]
/-- the two cells of an Id that was just built -/
theorem id_cells (w : World) (a b : Int) (t : TypeId) : ∀ j v, [Value.int .i64 a, Value.int .i64 b][j]? = some v → (w.alloc (.cells #[.int .i64 a, .int .i64 b] t)).cell? ((⟨w.heap.size, 0, none⟩ : Addr).add j) = some v := by
  intro j v hj
  have K := Bk.new w t [Value.int .i64 a, .int .i64 b]
  rw [at_add, Nat.zero_add]
  exact (K.cell j).trans hj
end Go.Proofs.Ytmeojepffnoceaa
