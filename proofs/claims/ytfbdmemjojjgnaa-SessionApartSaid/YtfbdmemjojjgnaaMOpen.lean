import Derived.Test.YtfbdmemjojjgnaaMBase
import Derived.ProofKit
import Derived.OpenShut
import Derived.ShutString
import Derived.ChangeOld
import Derived.Deep.Matrix
import Derived.Deep.Slices
import Derived.SizedLaws

/-
  What the walks are told of an argument that came in: a slice of bytes, of numbers, of slices of bytes. Plain lemmas on the reading of arguments; no statement.
-/
namespace Go.Proofs.Ytfbdmemjojjgnaa
set_option maxRecDepth 100000
open Go.ChangeShapes Go.WideShapes Go.ChangeAt Go.RowKit Go.Deep
set_option maxRecDepth 100000

/-- a number as a value -/
def iv (n : Int) : Value := .int .i64 n

theorem cell_lt {w : World} {a : Addr} {v : Value} (h : w.cell? a = some v) : a.block < w.heap.size := by
  rcases Nat.lt_or_ge a.block w.heap.size with hl | hg
  · exact hl
  · unfold World.cell? at h
    rw [Array.getElem?_eq_none hg] at h
    simp at h

theorem byte_of_wf {n : Int} (h : (Lit.int .u8 n).wf = true) : ∃ c : UInt8, (c.toNat : Int) = n := by
  have hb : 0 ≤ n ∧ n ≤ 255 := by simpa [Lit.wf, IntKind.min, IntKind.max, IntKind.signed, IntKind.bits] using h
  refine ⟨UInt8.ofNat n.toNat, ?_⟩
  have : (UInt8.ofNat n.toNat).toNat = n.toNat := by simp; omega
  rw [this]; omega
theorem bytes_of_wf : ∀ zs : List Int, (∀ n ∈ zs, (Lit.int .u8 n).wf = true) → ∃ l : List UInt8, l.map bv = zs.map (Value.int .u8) := by
  intro zs
  induction zs with
  | nil => intro _; exact ⟨[], rfl⟩
  | cons z r ih =>
    intro h
    obtain ⟨c, hc⟩ := byte_of_wf (h z (by simp))
    obtain ⟨l, hl⟩ := ih (fun n hn => h n (by simp [hn]))
    exact ⟨c :: l, by simp [bv, hc, hl]⟩

/-- bytes that came in -/
def InB (w : World) (v : Value) (l : List UInt8) : Prop := ∃ A n c, v = .slice A n c ∧ n ≤ c ∧ c ≤ maxLen ∧ Rd w A n (l.map bv) ∧ (A = none → c = 0)

theorem rd_of_cells {w : World} {k : IntKind} {a : Addr} {len : Nat} {zs : List Int} (hl : len ≤ zs.length) (h : ∀ i, i < zs.length → w.cell? (a.add i) = some (.int k (zs.getD i 0))) :
    Rd w (some a) len ((zs.take len).map (Value.int k)) := by
  refine ⟨by simp; omega, fun j u hu => ?_⟩
  rw [List.getElem?_map, List.getElem?_take] at hu
  split at hu
  · rename_i hj
    have hz : j < zs.length := by omega
    have hc := h j hz
    rw [List.getElem?_eq_getElem hz] at hu
    simp only [Option.map_some, Option.some.injEq] at hu
    refine ⟨a, rfl, by have := cell_lt hc; rwa [add_block] at this, ?_⟩
    rw [hc, ← hu]
    simp [List.getD, hz]
  · simp at hu

/-- numbers that came in -/
def InI (w : World) (v : Value) (l : List Int) : Prop := ∃ A n c, v = .slice A n c ∧ n ≤ c ∧ c ≤ maxLen ∧ Rd w A n (l.map iv) ∧ (∀ x ∈ l, (Lit.int .i64 x).wf = true) ∧ (A = none → c = 0)
theorem open_nums {H : Type} {enc : TypeId × Value → H} {W : World} {base : Nat} {v : Value} {d : DataW H} {p : List MemPlace}
    (hv : Value.okWide Try.prog W .any base 37 v) (h : DataW.Trod enc Try.prog W 0 (fun _ => true) true 37 v d p) : ∃ l, InI W v l := by
  obtain ⟨a0, len0, cap0, rfl⟩ := okWide_slice Try.underlying37 hv
  obtain ⟨fuel, hf⟩ := h
  rcases open_ints Try.underlying37 Try.underlying3 (by kernel_rfl) hf with ⟨hcs, _⟩ | ⟨x, l, c, zs, hcs, _, hl, hm, hz, _, hcell, hwz⟩
  · simp [Value.cells] at hcs
    obtain ⟨rfl, rfl, rfl⟩ := hcs
    exact ⟨[], _, _, _, rfl, by omega, by simp [maxLen], Rd.nil_ _ _, by simp, fun _ => rfl⟩
  · simp [Value.cells] at hcs
    obtain ⟨rfl, rfl, rfl⟩ := hcs
    simp only [if_true] at hz
    exact ⟨zs.take len0, _, _, _, rfl, hl, hm, rd_of_cells (by omega) hcell, fun n hn => hwz n (List.mem_of_mem_take hn), fun h => by cases h⟩
/-- a value that is a slice of bytes -/
def RowV (w : World) (u : Value) (l : List UInt8) : Prop := ∃ A c, u = .slice A l.length c ∧ l.length ≤ c ∧ c ≤ maxLen ∧ Rd w A l.length (l.map bv) ∧ (A = none → c = 0)
/-- the slice (A, n) reads as slices of bytes, which read as ls -/
def RdRows (w : World) (A : Option Addr) (n : Nat) (ls : List (List UInt8)) : Prop :=
  ls.length = n ∧ ∃ us : List Value, Rd w A n us ∧ ∀ (k : Nat) (u : Value) (l : List UInt8), us[k]? = some u → ls[k]? = some l → RowV w u l
theorem RowV.keep {w w' : World} {u : Value} {l : List UInt8} (h : RowV w u l) (hb : Below w.heap.size w w') : RowV w' u l := by
  obtain ⟨A, c, e, h1, h2, h3, h4⟩ := h
  exact ⟨A, c, e, h1, h2, h3.below hb, h4⟩
theorem RdRows.below {w w' : World} {A : Option Addr} {n : Nat} {ls : List (List UInt8)} (h : RdRows w A n ls) (hb : Below w.heap.size w w') : RdRows w' A n ls := by
  obtain ⟨h1, us, h2, h3⟩ := h
  exact ⟨h1, us, h2.below hb, fun k u l hu hl => (h3 k u l hu hl).keep hb⟩
theorem RdRows.at_ {w : World} {A : Option Addr} {n : Nat} {ls : List (List UInt8)} (h : RdRows w A n ls) {k : Nat} (hk : k < n) :
    ∃ a B c, A = some a ∧ a.block < w.heap.size ∧ w.cell? (a.add k) = some (.slice B (ls.getD k []).length c) ∧ (ls.getD k []).length ≤ c ∧ c ≤ maxLen ∧ Rd w B (ls.getD k []).length ((ls.getD k []).map bv) ∧ (B = none → c = 0) := by
  obtain ⟨h1, us, h2, h3⟩ := h
  obtain ⟨a, e, hb, hc⟩ := h2.at_ hk
  have hu : k < us.length := by rw [h2.1]; exact hk
  have hl : k < ls.length := by omega
  have hr := h3 k us[k] ls[k] (List.getElem?_eq_getElem hu) (List.getElem?_eq_getElem hl)
  have eu : us.getD k undef = us[k] := by simp [List.getD, hu]
  have el : ls.getD k [] = ls[k] := by simp [List.getD, hl]
  rw [eu] at hc
  rw [el]
  obtain ⟨B, c, e1, h4, h5, h6, h7⟩ := hr
  exact ⟨a, B, c, e, hb, by rw [hc, e1], h4, h5, h6, h7⟩
/-- slices of bytes that came in -/
def InR (w : World) (v : Value) (ls : List (List UInt8)) : Prop := ∃ A n c, v = .slice A n c ∧ n ≤ c ∧ c ≤ maxLen ∧ RdRows w A n ls ∧ (A = none → c = 0) ∧ ∀ l ∈ ls, l.length ≤ 140737488355328

/-- the form's own reach, of one argument -/
theorem sized_arg {H : Type} {P : Program} {ts : List TypeId} {ds : List (DataW H)} (h : (DataW.weightsEach P ts ds).all (· ≤ reachBytes) = true) {j : Nat} {t : TypeId} {d : DataW H} (ht : ts[j]? = some t) (hd : ds[j]? = some d) :
    ∀ m ∈ d.weights P t, m ≤ reachBytes := fun m hm => of_decide_eq_true (List.all_eq_true.1 h _ (DataW.weights_mem_each ht hd m hm))
theorem weights_all_mem {H : Type} {P : Program} {e : TypeId} {ds : List (DataW H)} {d : DataW H} (h : d ∈ ds) : ∀ m ∈ d.weights P e, m ∈ DataW.weightsAll P e ds := by
  induction ds with
  | nil => cases h
  | cons x r ih =>
    intro m hm
    simp only [DataW.weightsAll, List.mem_append]
    rcases List.mem_cons.1 h with rfl | h'
    · exact .inl hm
    · exact .inr (ih h' m hm)
end Go.Proofs.Ytfbdmemjojjgnaa

/-
  What the walks are told of an Id and of a letter that came in. Plain lemmas on the reading of arguments; no statement.
-/
namespace Go.Proofs.Ytfbdmemjojjgnaa
set_option maxRecDepth 100000
open Go.ChangeShapes Go.WideShapes Go.ChangeAt Go.RowKit Go.Deep
set_option linter.unusedVariables false
set_option maxRecDepth 100000

/-- bytes that came in, and how many there may be -/
def InBs (w : World) (v : Value) (l : List UInt8) : Prop := InB w v l ∧ l.length ≤ 140737488355328


theorem take_one {α : Type} {l : List α} {k : Nat} {x : α} (h : (l.drop k).take 1 = [x]) : l[k]? = some x := by
  have e : ((l.drop k).take 1)[0]? = some x := by rw [h]; rfl
  rw [List.getElem?_take] at e
  simpa using e
theorem two_of {α : Type} {l : List α} {x y : α} (hl : l.length = 2) (h0 : l[0]? = some x) (h1 : l[1]? = some y) : l = [x, y] := by
  match l, hl with
  | [a, b], _ => simp at h0 h1; simp [h0, h1]
end Go.Proofs.Ytfbdmemjojjgnaa

/-
  What the walks are told of a script of calls that came in. Plain lemmas on the reading of arguments; no statement.
-/
namespace Go.Proofs.Ytfbdmemjojjgnaa
set_option maxRecDepth 100000
open Go.ChangeShapes Go.WideShapes Go.ChangeAt Go.RowKit Go.Deep
set_option linter.unusedVariables false
set_option maxRecDepth 100000

theorem open_nums_at {H : Type} {enc : TypeId × Value → H} {W : World} {a0 : Option Addr} {len0 cap0 : Nat} {d : DataW H} {p : List MemPlace}
    (h : DataW.Trod enc Try.prog W 0 (fun _ => true) true 37 (.slice a0 len0 cap0) d p) (hwt : ∀ m ∈ d.weights Try.prog 37, m ≤ reachBytes) : ∃ l, InI W (.slice a0 len0 cap0) l ∧ l.length ≤ 140737488355328 := by
  obtain ⟨fuel, hf⟩ := h
  rcases open_ints Try.underlying37 Try.underlying3 (by kernel_rfl) hf with ⟨hcs, _⟩ | ⟨x, l, c, zs, hcs, _, hl, hm, hz, hdat, hcell, hwz⟩
  · simp [Value.cells] at hcs
    obtain ⟨rfl, rfl, rfl⟩ := hcs
    exact ⟨[], ⟨_, _, _, rfl, by omega, by simp [maxLen], Rd.nil_ _ _, by simp, fun _ => rfl⟩, by simp⟩
  · simp [Value.cells] at hcs
    obtain ⟨rfl, rfl, rfl⟩ := hcs
    simp only [if_true] at hz
    refine ⟨zs.take len0, ⟨_, _, _, rfl, hl, hm, rd_of_cells (by omega) hcell, fun n hn => hwz n (List.mem_of_mem_take hn), fun h => by cases h⟩, ?_⟩
    have hd0 : d = _ := congrArg Prod.fst hdat
    subst hd0
    have hb1 : Try.prog.bytesOf 3 = 8 := by kernel_rfl
    have h7 := hwt (cap0 * 8) (by
      simp only [DataW.weights, Try.underlying37, List.mem_cons, hb1]
      left
      simp [lits]
      omega)
    have := reachBytes_lt
    rw [List.length_take]
    omega
/-- numbers that came in, no more than the form's reach -/
def InIs (w : World) (v : Value) (l : List Int) : Prop := InI w v l ∧ l.length ≤ 17592186044416
theorem open_nums_sz {H : Type} {enc : TypeId × Value → H} {W : World} {base : Nat} {v : Value} {d : DataW H} {p : List MemPlace}
    (hv : Value.okWide Try.prog W .any base 37 v) (h : DataW.Trod enc Try.prog W 0 (fun _ => true) true 37 v d p) (hwt : ∀ m ∈ d.weights Try.prog 37, m ≤ reachBytes) : ∃ l, InIs W v l := by
  obtain ⟨a0, len0, cap0, rfl⟩ := okWide_slice Try.underlying37 hv
  obtain ⟨fuel, hf⟩ := h
  rcases open_ints Try.underlying37 Try.underlying3 (by kernel_rfl) hf with ⟨hcs, _⟩ | ⟨x, l, c, zs, hcs, _, hl, hm, hz, hdat, hcell, hwz⟩
  · simp [Value.cells] at hcs
    obtain ⟨rfl, rfl, rfl⟩ := hcs
    exact ⟨[], ⟨_, _, _, rfl, by omega, by simp [maxLen], Rd.nil_ _ _, by simp, fun _ => rfl⟩, by simp⟩
  · simp [Value.cells] at hcs
    obtain ⟨rfl, rfl, rfl⟩ := hcs
    simp only [if_true] at hz
    refine ⟨zs.take len0, ⟨_, _, _, rfl, hl, hm, rd_of_cells (by omega) hcell, fun n hn => hwz n (List.mem_of_mem_take hn), fun h => by cases h⟩, ?_⟩
    have hd0 : d = _ := congrArg Prod.fst hdat
    subst hd0
    have hb1 : Try.prog.bytesOf 3 = 8 := by kernel_rfl
    have h7 := hwt (cap0 * 8) (by
      simp only [DataW.weights, Try.underlying37, List.mem_cons, hb1]
      left
      simp [lits]
      omega)
    have := reachBytes_lt
    rw [List.length_take]
    omega
end Go.Proofs.Ytfbdmemjojjgnaa

/-
  What the walks are told of a script of steps on a log that came in. Plain lemmas on the reading of arguments; no statement.
-/
namespace Go.Proofs.Ytfbdmemjojjgnaa
set_option maxRecDepth 100000
open Go.ChangeShapes Go.WideShapes Go.ChangeAt Go.RowKit Go.Deep
set_option linter.unusedVariables false
set_option maxRecDepth 100000

end Go.Proofs.Ytfbdmemjojjgnaa
