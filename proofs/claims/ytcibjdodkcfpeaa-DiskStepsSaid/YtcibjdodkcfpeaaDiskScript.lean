/-
  A script of calls, call by call: plain facts, and what the loops of the laws keep. No statement.
-/
import Derived.Test.YtcibjdodkcfpeaaDiskLaw
namespace Go.Proofs.Ytcibjdodkcfpeaa
open Go.RowKit
set_option linter.unusedVariables false

theorem InI.below {w w' : World} {v : Value} {l : List Int} (h : InI w v l) (hb : Below w.heap.size w w') : InI w' v l := by
  obtain ⟨A, n, c, e, h1, h2, h3, h4, h5⟩ := h
  exact ⟨A, n, c, e, h1, h2, h3.below hb, h4, h5⟩
theorem InR.below {w w' : World} {v : Value} {l : List (List UInt8)} (h : InR w v l) (hb : Below w.heap.size w w') : InR w' v l := by
  obtain ⟨A, n, c, e, h1, h2, h3, h4⟩ := h
  exact ⟨A, n, c, e, h1, h2, h3.below hb, h4⟩
theorem CallAt.below {w w' : World} {a : Addr} {o : Call} (h : CallAt w a o) (hb : Below w.heap.size w w') : CallAt w' a o := by
  obtain ⟨B, p, pc, C, q, qc, h0, h1, h2, h3, h4, k0, k1, k2, hr, hi, hl⟩ := h
  have st : ∀ {j v}, w.cell? (a.add j) = some v → w'.cell? (a.add j) = some v := fun h => (hb.cell (cell_lt h)).trans h
  exact ⟨B, p, pc, C, q, qc, st h0, st h1, st h2, st h3, st h4, k0, k1, k2, hr.below hb, hi.below hb, hl⟩
theorem RdCalls.below {w w' : World} {A : Option Addr} {n : Nat} {ops : List Call} (h : RdCalls w A n ops) (hb : Below w.heap.size w w') : RdCalls w' A n ops :=
  ⟨h.1, fun k o hk => by
    obtain ⟨a, e, hlt, hc⟩ := h.2 k o hk
    exact ⟨a, e, Nat.lt_of_lt_of_le hlt hb.size, hc.below hb⟩⟩
theorem total_rowsW (ls : List (List UInt8)) : total ls = rowsW ls := by
  induction ls with
  | nil => rfl
  | cons x r ih => simp only [total, rowsW, ih]
theorem flat_rowsW (ls : List (List UInt8)) : ls.flatten.length ≤ rowsW ls := by rw [← total_rowsW]; exact total_flatten ls
namespace PD
theorem power_append (P : PD) (a : Int) (parts) (h : P.power = -1) : (P.append a parts).1.power = -1 := by
  unfold append
  split
  · split
    · exact h
    · unfold setData; split <;> simp [drew, drawn, h]
  · exact h
theorem power_trim (P : PD) (a n : Int) (h : P.power = -1) : (P.trim a n).1.power = -1 := by
  unfold trim
  split
  · split
    · exact h
    · unfold setSafe setData; (split <;> split <;> simp [drew, drawn, h])
  · exact h
theorem power_sync (P : PD) (l : List Int) (h : P.power = -1) : (P.sync l).1.power = -1 := by
  cases hl : l.all known
  · unfold sync; rw [hl]; exact h
  · rw [sync_eq P l hl (by omega)]; simp [drawn, h]
theorem power_act (P : PD) (o : Call) (h : P.power = -1) : (P.act o).1.power = -1 := by
  unfold act
  split
  · exact power_append P _ _ h
  · split
    · exact power_trim P _ _ h
    · split
      · exact power_sync P _ h
      · exact h
theorem len_append (P : PD) (a : Int) (parts) : (P.append a parts).1.d0.length ≤ P.d0.length + parts.flatten.length ∧ (P.append a parts).1.d1.length ≤ P.d1.length + parts.flatten.length := by
  unfold append
  split
  · split
    · exact ⟨Nat.le_add_right _ _, Nat.le_add_right _ _⟩
    · unfold setData data
      split
      · exact ⟨by simp, by simp [drew]⟩
      · exact ⟨by simp [drew], by simp⟩
  · exact ⟨Nat.le_add_right _ _, Nat.le_add_right _ _⟩
theorem len_trim (P : PD) (a n : Int) : (P.trim a n).1.d0.length ≤ P.d0.length ∧ (P.trim a n).1.d1.length ≤ P.d1.length := by
  unfold trim
  split
  · split
    · exact ⟨Nat.le_refl _, Nat.le_refl _⟩
    · unfold setSafe setData data
      split
      · exact ⟨by simp; omega, by simp [drew]⟩
      · exact ⟨by simp [drew], by simp; omega⟩
  · exact ⟨Nat.le_refl _, Nat.le_refl _⟩
theorem len_sync (P : PD) (l : List Int) : (P.sync l).1.d0.length ≤ P.d0.length ∧ (P.sync l).1.d1.length ≤ P.d1.length := by
  cases hl : l.all known
  · unfold sync; rw [hl]; exact ⟨Nat.le_refl _, Nat.le_refl _⟩
  · by_cases hp : P.power = 0
    · unfold sync; rw [hl]; simp [hp]
    · rw [sync_eq P l hl hp]; exact ⟨Nat.le_refl _, Nat.le_refl _⟩
theorem len_act (P : PD) (o : Call) : (P.act o).1.d0.length ≤ P.d0.length + rowsW o.parts ∧ (P.act o).1.d1.length ≤ P.d1.length + rowsW o.parts := by
  have hf := flat_rowsW o.parts
  unfold act
  split
  · have := P.len_append o.area o.parts; omega
  · split
    · have := P.len_trim o.area o.n; omega
    · split
      · have := P.len_sync o.areas; omega
      · simp
theorem len_crash (P : PD) (ks : List Int) (p : Int) : (P.crash ks p).d0.length ≤ P.d0.length ∧ (P.crash ks p).d1.length ≤ P.d1.length := by
  simp only [crash, List.length_take]
  omega
end PD
/-- the lengths behind the first k calls -/
def Small (P : PD) (ops : List Call) (k : Nat) : Prop := P.d0.length ≤ weight (ops.take k) ∧ P.d1.length ≤ weight (ops.take k)
theorem Small.next {P : PD} {ops : List Call} {k : Nat} (h : Small P ops k) (hk : k < ops.length) : Small (P.act ops[k]).1 ops (k + 1) := by
  have e := weight_next ops k hk
  have := P.len_act ops[k]
  obtain ⟨h1, h2⟩ := h
  unfold Small
  omega
theorem weight_take_le (ops : List Call) (k : Nat) : weight (ops.take k) ≤ weight ops := by
  have e : ops = ops.take k ++ ops.drop k := (List.take_append_drop k ops).symm
  have := weight_append (ops.take k) (ops.drop k)
  rw [← e] at this
  omega
theorem weight_at (ops : List Call) (k : Nat) (hk : k < ops.length) : weight (ops.take k) + rowsW ops[k].parts + ops[k].areas.length ≤ weight ops := by
  have e := weight_next ops k hk
  have := weight_take_le ops (k + 1)
  omega
/-- act at the k-th call, where the script is small -/
theorem act_at {g : Nat} {P : PD} {F : Nat → Prop} {ops : List Call} {k : Nat} {B C : Option Addr} {p pc q qc : Nat} {w : World} (hk : k < ops.length) (hw : weight ops ≤ 5000) (hs : Small P ops k) (h : Dk w F g P)
    (hR : RdRows w B p ops[k].parts) (hI : Rd w C q (ops[k].areas.map iv)) :
    Calls Try.prog 17 #[.pointer (some ⟨g, 0, none⟩), .agg #[.int .i64 ops[k].what, .int .i64 ops[k].area, .int .i64 ops[k].n, .slice B p pc, .slice C q qc]] w (Did F g (P.act ops[k]) w) := by
  have h1 := weight_at ops k hk
  have h2 := flat_rowsW ops[k].parts
  have h3 := total_rowsW ops[k].parts
  have h4 : ops[k].areas.length = q := by simpa using hI.1
  obtain ⟨s0, s1⟩ := hs
  exact act_any g P F ops[k] B C p pc q qc w h hR hI (by omega) (by omega) (by omega) (by omega)
/-- a call's cells as the walk names them, with what they lead to -/
structure CallFive (w : World) (x : Addr) (o : Call) (B : Option Addr) (p pc : Nat) (C : Option Addr) (q qc : Nat) : Prop where
  c0 : w.cell? x = some (.int .i64 o.what)
  c1 : w.cell? ⟨x.block, x.off + 1, none⟩ = some (.int .i64 o.area)
  c2 : w.cell? ⟨x.block, x.off + 2, none⟩ = some (.int .i64 o.n)
  c3 : w.cell? ⟨x.block, x.off + 3, none⟩ = some (.slice B p pc)
  c4 : w.cell? ⟨x.block, x.off + 4, none⟩ = some (.slice C q qc)
  rows : RdRows w B p o.parts
  nums : Rd w C q (o.areas.map iv)
theorem CallFive.below {w w' : World} {x : Addr} {o : Call} {B C : Option Addr} {p pc q qc : Nat} (h : CallFive w x o B p pc C q qc) (hb : Below w.heap.size w w') : CallFive w' x o B p pc C q qc := by
  have st : ∀ {y v}, w.cell? y = some v → w'.cell? y = some v := fun h => (hb.cell (cell_lt h)).trans h
  exact ⟨st h.c0, st h.c1, st h.c2, st h.c3, st h.c4, h.rows.below hb, h.nums.below hb⟩
theorem RdCalls.at_ {w : World} {A : Option Addr} {n k : Nat} {ops : List Call} (h : RdCalls w A n ops) (hk : k < ops.length) : ∃ x B p pc C q qc, A = some x ∧ CallFive w (x.add (k * 5)) ops[k] B p pc C q qc ∧ (Lit.int .i64 ops[k].what).wf = true ∧ (Lit.int .i64 ops[k].area).wf = true ∧ (Lit.int .i64 ops[k].n).wf = true := by
  obtain ⟨x, e, _, hc⟩ := h.2 k ops[k] (List.getElem?_eq_getElem hk)
  obtain ⟨R, r, rc, S, s, sc, x0, x1, x2, x3, x4, f0, f1, f2, hRr, hI, _⟩ := hc.five
  obtain ⟨R', r', rc', eB, _, _, hRd, _, _⟩ := hRr
  injection eB with eB1 eB2 eB3
  subst eB1 eB2 eB3
  obtain ⟨S', s', sc', eC, _, _, hRi, _, _⟩ := hI
  injection eC with eC1 eC2 eC3
  subst eC1 eC2 eC3
  exact ⟨x, R, r, rc, S, s, sc, e, ⟨x0, x1, x2, x3, x4, hRd, hRi⟩, f0, f1, f2⟩
end Go.Proofs.Ytcibjdodkcfpeaa
