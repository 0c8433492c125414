/-
  Rows of the law's votes that are a call's own; two tallies; votes put one after another. Plain lemmas; no statement.
-/
import Derived.Test.YtckmjpbkcpmdpaaTallyLaw2
import Derived.Maps.AppendAt
namespace Go.Proofs.Ytckmjpbkcpmdpaa
open Go.RowKit Go.Sort Go.Shelf
set_option linter.unusedVariables false
set_option maxRecDepth 100000

theorem info_op : (Try.prog.info? 33).map (fun i => (i.zero, i.size, i.bytes)) = some (some (.agg #[.int .i64 0, .int .i64 0, .slice none 0 0, .slice none 0 0]), 4, 64) := by kernel_rfl
/-- 'w owns the slice (A, n, c) of the law's votes' -/
def OwnO (w : World) (base : Nat) (A : Option Addr) (n c : Nat) (l : List Vc) : Prop := w.ownsRow base 33 4 (.slice A n c) n (vcc l)
section
variable {w w' : World} {base : Nat} {A : Option Addr} {n c : Nat} {l : List Vc}
theorem OwnO.len (h : OwnO w base A n c l) : l.length = n := by have := h.1; rw [vcc_len] at this; omega
theorem OwnO.below (h : OwnO w base A n c l) (hb : Below w.heap.size w w') : OwnO w' base A n c l :=
  World.ownsRow.kept h (grown_of_below hb none) (by cases (Value.slice A n c).ownBlock <;> simp)
theorem OwnO.alloc (h : OwnO w base A n c l) (o : Obj) : OwnO (w.alloc o) base A n c l := World.ownsRow.alloc h o
theorem OwnO.block (h : OwnO w base A n c l) : ∀ g, (Value.slice A n c).ownBlock = some g → base ≤ g ∧ g < w.heap.size := fun g hg => World.ownsRow.lt h g hg
theorem OwnO.more {base' : Nat} (h : OwnO w base A n c l) (hb : base' ≤ base) : OwnO w base' A n c l := by
  refine ⟨h.1, ?_⟩
  rcases h.2 with hn | ⟨g, cap, cur, e, hg, rest⟩
  · exact .inl hn
  · exact .inr ⟨g, cap, cur, e, Nat.le_trans hb hg, rest⟩
theorem OwnO.chg {F : Nat → Prop} (h : OwnO w base A n c l) (hc : Chg F w w') (hv : ∀ k, (Value.slice A n c).ownBlock = some k → ¬ F k) : OwnO w' base A n c l := hc.owns h hv
/-- the cells of a vote in a row -/
theorem OwnO.at_ (h : OwnO w base A n c l) {k : Nat} {x : Vc} (hk : l[k]? = some x) :
    ∃ g, A = some ⟨g, 0, none⟩ ∧ g < w.heap.size ∧ w.cell? ⟨g, k * 4, none⟩ = some (.int .i64 x.v.voter) ∧ w.cell? ⟨g, k * 4 + 1, none⟩ = some (.int .i64 x.v.rank) ∧
      w.cell? ⟨g, k * 4 + 2, none⟩ = some (.slice x.ka x.kn x.kc) ∧ w.cell? ⟨g, k * 4 + 3, none⟩ = some (.slice x.la x.ln x.lc) := by
  have hl := h.len
  have hkn : k < n := by have := (List.getElem?_eq_some_iff.1 hk).1; omega
  obtain ⟨g, cap, hv, _, hlt⟩ := World.ownsRow.form h (by omega)
  injection hv with hA _ _
  subst hA
  obtain ⟨h0, h1, h2, h3⟩ := vcc_at l k x hk
  have c0 := World.ownsRow.cells h (g := g) rfl _ _ h0
  have c1 := World.ownsRow.cells h (g := g) rfl _ _ h1
  have c2 := World.ownsRow.cells h (g := g) rfl _ _ h2
  have c3 := World.ownsRow.cells h (g := g) rfl _ _ h3
  rw [at_add] at c0 c1 c2 c3
  exact ⟨g, rfl, hlt, by simpa using c0, by simpa using c1, by simpa using c2, by simpa using c3⟩
theorem OwnO.at2 {g : Nat} (h : OwnO w base (some ⟨g, 0, none⟩) n c l) {k : Nat} {x : Vc} (hk : l[k]? = some x) :
    w.cell? ⟨g, k * 4, none⟩ = some (.int .i64 x.v.voter) ∧ w.cell? ⟨g, k * 4 + 1, none⟩ = some (.int .i64 x.v.rank) ∧
      w.cell? ⟨g, k * 4 + 2, none⟩ = some (.slice x.ka x.kn x.kc) ∧ w.cell? ⟨g, k * 4 + 3, none⟩ = some (.slice x.la x.ln x.lc) := by
  obtain ⟨g', e, _, h⟩ := h.at_ hk
  obtain rfl : g = g' := by injection e with e; injection e
  exact h
end
theorem OwnO.empty (w : World) : OwnO (w.alloc (.cells #[] 33)) w.heap.size (some ⟨w.heap.size, 0, none⟩) 0 0 [] :=
  World.ownsRow_lit (e := 33) (base := w.heap.size) (size := 4) w #[] 0 (Nat.le_refl _) (by simp [maxLen]) rfl
/-- the vote that came in, as it lies -/
def Ov.vc (o : Ov) (B : Option Addr) (p pc : Nat) (C : Option Addr) (q qc : Nat) : Vc := ⟨o.vo, B, p, pc, C, q, qc⟩
/-- what is known of each vote in a row: its key and load lie where the call began -/
def VcOk (w : World) (x : Vc) : Prop := Reads w x ∧ x.v.key.length ≤ 4000 ∧ x.v.load.length ≤ 4000 ∧ x.v.rank ≤ 9223372036854775807
theorem four_cells (w : World) (a b c d : Value) (t : TypeId) : ∀ j v, [a, b, c, d][j]? = some v → (w.alloc (.cells #[a, b, c, d] t)).cell? ((⟨w.heap.size, 0, none⟩ : Addr).add j) = some v := by
  intro j v hj
  have K := Bk.new w t [a, b, c, d]
  rw [at_add, Nat.zero_add]
  exact (K.cell j).trans hj
/-- Put of a vote of such a row -/
theorem put_vc {B0 : Nat} {w0 Y X : World} {F : Nat → Prop} {g : Nat} {N : Int} {vs : List Vo} (hon : TOn B0 w0 Y F g N vs) (x : Vc) (hl : x.v.key.length ≤ 4000 ∧ x.v.load.length ≤ 4000 ∧ x.v.rank ≤ 9223372036854775807) {A5 A6 : Option Addr} {n5 c5 n6 c6 : Nat} (hX : Below Y.heap.size Y X)
    (h5 : OwnB X Y.heap.size A5 n5 c5 x.v.key) (h6 : OwnB X Y.heap.size A6 n6 c6 x.v.load) :
    Calls Try.prog 15 #[.pointer (some ⟨g, 0, none⟩), .int .i64 x.v.voter, .int .i64 x.v.rank, .slice A5 n5 c5, .slice A6 n6 c6] X (fun e w' => e = .returned (.bool (tyTakes N vs x.v.voter x.v.rank)) ∧ ∃ F', TOn B0 w0 w' F' g N (tyAfter N vs x.v) ∧ (∀ i, F' i → F i ∨ Y.heap.size ≤ i) ∧ Chg F X w') :=
  (put_any x.v.voter x.v.rank x.v.key x.v.load A5 n5 c5 A6 n6 c6 F g N vs X (hon.kept hX).tl h5.rd (off_lt hon.lt (fun b e => (h5.block b.block (by rw [e]; rfl)))) h6.rd (off_lt hon.lt (fun b e => (h6.block b.block (by rw [e]; rfl)))) (by omega) (by omega) hl.2.2).mono fun e w' hd => by
    obtain ⟨he, F', h1, h2, h3⟩ := (hon.kept hX).put hd
    exact ⟨he, F', h1, fun i hi => (h2 i hi).imp id (Nat.le_trans hX.size), h3⟩
/-- two tallies that have nothing in common -/
structure T2 (w0 w : World) (F G : Nat → Prop) (g h : Nat) (N : Int) (vs us : List Vo) : Prop where
  on1 : TOn w0.heap.size w0 w F g N vs
  on2 : TOn w0.heap.size w0 w G h N us
  ap : ∀ i, F i → ¬ G i
section
variable {w0 w w' X : World} {F G F' G' H : Nat → Prop} {g h B : Nat} {N : Int} {vs us vs' us' : List Vo}
theorem TOn.chg (k : TOn w0.heap.size w0 w F g N vs) (hc : Chg H w w') (h1 : ∀ i, H i → w0.heap.size ≤ i ∧ ¬ F i) : TOn w0.heap.size w0 w' F g N vs :=
  ⟨k.tl.keep hc (fun i hi hh => (h1 i hh).2 hi), k.up, k.be.trans (hc.below (fun i hi => (h1 i hi).1) k.sz), Nat.le_trans k.sz hc.size⟩
theorem T2.kept (k : T2 w0 w F G g h N vs us) (hb : Below w.heap.size w w') : T2 w0 w' F G g h N vs us := ⟨k.on1.kept hb, k.on2.kept hb, k.ap⟩
theorem T2.chg (k : T2 w0 w F G g h N vs us) (hc : Chg H w w') (h1 : ∀ i, H i → w0.heap.size ≤ i ∧ ¬ F i ∧ ¬ G i) : T2 w0 w' F G g h N vs us :=
  ⟨k.on1.chg hc (fun i hi => ⟨(h1 i hi).1, (h1 i hi).2.1⟩), k.on2.chg hc (fun i hi => ⟨(h1 i hi).1, (h1 i hi).2.2⟩), k.ap⟩
theorem T2.put1 (k : T2 w0 w F G g h N vs us) (hX : Below w.heap.size w X) (hon : TOn w0.heap.size w0 w' F' g N vs') (hF : ∀ i, F' i → F i ∨ w.heap.size ≤ i) (hc : Chg F X w') : T2 w0 w' F' G g h N vs' us :=
  ⟨hon, (k.on2.kept hX).chg hc (fun i hi => ⟨k.on1.up i hi, k.ap i hi⟩), fun i hi hg => (hF i hi).elim (fun q => k.ap i q hg) (fun q => by have := k.on2.lt i hg; omega)⟩
theorem T2.put2 (k : T2 w0 w F G g h N vs us) (hX : Below w.heap.size w X) (hon : TOn w0.heap.size w0 w' G' h N us') (hG : ∀ i, G' i → G i ∨ w.heap.size ≤ i) (hc : Chg G X w') : T2 w0 w' F G' g h N vs us' :=
  ⟨(k.on1.kept hX).chg hc (fun i hi => ⟨k.on2.up i hi, fun q => k.ap i q hi⟩), hon, fun i hi hg => (hG i hg).elim (k.ap i hi) (fun q => by have := k.on1.lt i hi; omega)⟩
end
/-- votes put one after another -/
def tyRun (N : Int) : List Vo → List Vo → List Vo
  | vs, [] => vs
  | vs, v :: r => tyRun N (tyAfter N vs v) r
theorem tyRun_snoc (N : Int) (v : Vo) : ∀ (l vs : List Vo), tyRun N vs (l ++ [v]) = tyAfter N (tyRun N vs l) v
  | [], _ => rfl
  | x :: r, vs => tyRun_snoc N v r (tyAfter N vs x)
theorem tyRun_take {N : Int} {vs l : List Vo} {i : Nat} {v : Vo} (h : l[i]? = some v) : tyRun N vs (l.take (i + 1)) = tyAfter N (tyRun N vs (l.take i)) v := by
  obtain ⟨hi, e⟩ := List.getElem?_eq_some_iff.1 h
  rw [show l.take (i + 1) = l.take i ++ [l[i]] from List.take_succ_eq_append_getElem hi, tyRun_snoc, e]
/-- is a vote of a voter that has none taken? -/
def tyFits (N : Int) (v : Vo) : Bool := decide (0 ≤ v.voter) && decide (v.voter < N) && decide (0 ≤ v.rank)
theorem tyAfter_new {N : Int} {vs : List Vo} {v : Vo} (h : ∀ u ∈ vs, u.voter ≠ v.voter) : (tyAfter N vs v).Perm (if tyFits N v = true then v :: vs else vs) := by
  have e1 : tyKnown vs v.voter = none := by
    cases e : tyKnown vs v.voter with
    | none => rfl
    | some u => exact absurd (tyKnown_some e).2 (h u (tyKnown_some e).1)
  have e2 : tyTakes N vs v.voter v.rank = tyFits N v := by unfold tyTakes tyFits; rw [e1]; simp
  unfold tyAfter
  rw [e2]
  by_cases q : tyFits N v = true
  · rw [if_pos q, if_pos q]
    have := tyIns_perm v (tyOthers v.voter vs)
    rw [tyOthers_none h] at this
    unfold tyPut
    rw [tyOthers_none h]
    exact this
  · rw [if_neg q, if_neg q]
theorem tyRun_perm (N : Int) : ∀ (l vs : List Vo), (l.Pairwise fun a b => a.voter ≠ b.voter) → (∀ u ∈ vs, ∀ v ∈ l, u.voter ≠ v.voter) → (tyRun N vs l).Perm (vs ++ l.filter (tyFits N))
  | [], vs, _, _ => by simp [tyRun]
  | v :: r, vs, hp, hd => by
    obtain ⟨p1, p2⟩ := List.pairwise_cons.1 hp
    have hn : ∀ u ∈ vs, u.voter ≠ v.voter := fun u hu => hd u hu v (by simp)
    have ih := tyRun_perm N r (tyAfter N vs v) p2 (fun u hu x hx => by
      rcases after_mem hu with q | ⟨q, _⟩
      · exact hd u q x (by simp [hx])
      · rw [q]; exact p1 x hx)
    refine ih.trans ?_
    have h1 := (tyAfter_new (N := N) hn).append_right (r.filter (tyFits N))
    refine h1.trans ?_
    by_cases q : tyFits N v = true
    · rw [if_pos q, List.filter_cons_of_pos q, List.cons_append]
      exact List.perm_middle.symm
    · rw [if_neg q, List.filter_cons_of_neg q]
/-- in either order -/
theorem run_either {N : Int} {l : List Vo} (hl : l.Pairwise fun a b => a.voter ≠ b.voter) (h1 : (tyRun N [] l).Pairwise LtV) (h2 : (tyRun N [] l.reverse).Pairwise LtV) : tyRun N [] l = tyRun N [] l.reverse := by
  refine srt_unique ?_ h1 h2
  have p1 := tyRun_perm N l [] hl (fun u hu => by cases hu)
  have p2 := tyRun_perm N l.reverse [] (by rw [List.pairwise_reverse]; exact hl.imp (fun {a b} h => h.symm)) (fun u hu => by cases hu)
  rw [List.nil_append] at p1 p2
  rw [List.filter_reverse] at p2
  exact p1.trans ((List.reverse_perm _).symm.trans p2.symm)
end Go.Proofs.Ytckmjpbkcpmdpaa
