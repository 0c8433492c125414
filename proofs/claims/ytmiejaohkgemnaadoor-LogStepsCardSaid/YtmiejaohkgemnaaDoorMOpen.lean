import Derived.Test.YtmiejaohkgemnaaDoorMBase
import Derived.ProofKit
import Derived.OpenShut
import Derived.ShutString
import Derived.ChangeOld
import Derived.Deep.Matrix
import Derived.Deep.Slices
import Derived.SizedLaws

/-
  What the walks are told of an argument that came in: a slice of bytes, of numbers, of slices of bytes. Plain lemmas on the reading of arguments; no statement.
-/
namespace Go.Proofs.YtmiejaohkgemnaaDoor
open Go.ChangeShapes Go.WideShapes Go.ChangeAt Go.RowKit Go.Deep
set_option maxRecDepth 100000

/-- a number as a value -/
def iv (n : Int) : Value := .int .i64 n

theorem cell_lt {w : World} {a : Addr} {v : Value} (h : w.cell? a = some v) : a.block < w.heap.size := by
  rcases Nat.lt_or_ge a.block w.heap.size with hl | hg
  · exact hl
  · unfold World.cell? at h
    rw [Array.getElem?_eq_none hg] at h
    simp at h

theorem byte_of_wf {n : Int} (h : (Lit.int .u8 n).wf = true) : ∃ c : UInt8, (c.toNat : Int) = n := by
  have hb : 0 ≤ n ∧ n ≤ 255 := by simpa [Lit.wf, IntKind.min, IntKind.max, IntKind.signed, IntKind.bits] using h
  refine ⟨UInt8.ofNat n.toNat, ?_⟩
  have : (UInt8.ofNat n.toNat).toNat = n.toNat := by simp; omega
  rw [this]; omega
theorem bytes_of_wf : ∀ zs : List Int, (∀ n ∈ zs, (Lit.int .u8 n).wf = true) → ∃ l : List UInt8, l.map bv = zs.map (Value.int .u8) := by
  intro zs
  induction zs with
  | nil => intro _; exact ⟨[], rfl⟩
  | cons z r ih =>
    intro h
    obtain ⟨c, hc⟩ := byte_of_wf (h z (by simp))
    obtain ⟨l, hl⟩ := ih (fun n hn => h n (by simp [hn]))
    exact ⟨c :: l, by simp [bv, hc, hl]⟩

/-- bytes that came in -/
def InB (w : World) (v : Value) (l : List UInt8) : Prop := ∃ A n c, v = .slice A n c ∧ n ≤ c ∧ c ≤ maxLen ∧ Rd w A n (l.map bv) ∧ (A = none → c = 0)

theorem rd_of_cells {w : World} {k : IntKind} {a : Addr} {len : Nat} {zs : List Int} (hl : len ≤ zs.length) (h : ∀ i, i < zs.length → w.cell? (a.add i) = some (.int k (zs.getD i 0))) :
    Rd w (some a) len ((zs.take len).map (Value.int k)) := by
  refine ⟨by simp; omega, fun j u hu => ?_⟩
  rw [List.getElem?_map, List.getElem?_take] at hu
  split at hu
  · rename_i hj
    have hz : j < zs.length := by omega
    have hc := h j hz
    rw [List.getElem?_eq_getElem hz] at hu
    simp only [Option.map_some, Option.some.injEq] at hu
    refine ⟨a, rfl, by have := cell_lt hc; rwa [add_block] at this, ?_⟩
    rw [hc, ← hu]
    simp [List.getD, hz]
  · simp at hu

theorem open_bytes_at {H : Type} {enc : TypeId × Value → H} {W : World} {a0 : Option Addr} {len0 cap0 : Nat} {d : DataW H} {p : List MemPlace}
    (h : DataW.Trod enc Tryd.prog W 0 (fun _ => true) true 32 (.slice a0 len0 cap0) d p) : ∃ l, InB W (.slice a0 len0 cap0) l := by
  obtain ⟨fuel, hf⟩ := h
  rcases open_ints Tryd.underlying32 Tryd.underlying5 (by kernel_rfl) hf with ⟨hcs, _⟩ | ⟨x, l, c, zs, hcs, _, hl, hm, hz, _, hcell, hwz⟩
  · simp [Value.cells] at hcs
    obtain ⟨rfl, rfl, rfl⟩ := hcs
    exact ⟨[], _, _, _, rfl, by omega, by simp [maxLen], Rd.nil_ _ _, fun _ => rfl⟩
  · simp [Value.cells] at hcs
    obtain ⟨rfl, rfl, rfl⟩ := hcs
    obtain ⟨bs, hbs⟩ := bytes_of_wf (zs.take len0) (fun n hn => hwz n (List.mem_of_mem_take hn))
    simp only [if_true] at hz
    exact ⟨bs, _, _, _, rfl, hl, hm, by rw [hbs]; exact rd_of_cells (by omega) hcell, fun h => by cases h⟩
theorem open_bytes {H : Type} {enc : TypeId × Value → H} {W : World} {base : Nat} {v : Value} {d : DataW H} {p : List MemPlace}
    (hv : Value.okWide Tryd.prog W .any base 32 v) (h : DataW.Trod enc Tryd.prog W 0 (fun _ => true) true 32 v d p) : ∃ l, InB W v l := by
  obtain ⟨a0, len0, cap0, rfl⟩ := okWide_slice Tryd.underlying32 hv
  exact open_bytes_at h
/-- numbers that came in -/
def InI (w : World) (v : Value) (l : List Int) : Prop := ∃ A n c, v = .slice A n c ∧ n ≤ c ∧ c ≤ maxLen ∧ Rd w A n (l.map iv) ∧ (∀ x ∈ l, (Lit.int .i64 x).wf = true) ∧ (A = none → c = 0)
theorem open_nums {H : Type} {enc : TypeId × Value → H} {W : World} {base : Nat} {v : Value} {d : DataW H} {p : List MemPlace}
    (hv : Value.okWide Tryd.prog W .any base 42 v) (h : DataW.Trod enc Tryd.prog W 0 (fun _ => true) true 42 v d p) : ∃ l, InI W v l := by
  obtain ⟨a0, len0, cap0, rfl⟩ := okWide_slice Tryd.underlying42 hv
  obtain ⟨fuel, hf⟩ := h
  rcases open_ints Tryd.underlying42 Tryd.underlying3 (by kernel_rfl) hf with ⟨hcs, _⟩ | ⟨x, l, c, zs, hcs, _, hl, hm, hz, _, hcell, hwz⟩
  · simp [Value.cells] at hcs
    obtain ⟨rfl, rfl, rfl⟩ := hcs
    exact ⟨[], _, _, _, rfl, by omega, by simp [maxLen], Rd.nil_ _ _, by simp, fun _ => rfl⟩
  · simp [Value.cells] at hcs
    obtain ⟨rfl, rfl, rfl⟩ := hcs
    simp only [if_true] at hz
    exact ⟨zs.take len0, _, _, _, rfl, hl, hm, rd_of_cells (by omega) hcell, fun n hn => hwz n (List.mem_of_mem_take hn), fun h => by cases h⟩
/-- a value that is a slice of bytes -/
def RowV (w : World) (u : Value) (l : List UInt8) : Prop := ∃ A c, u = .slice A l.length c ∧ l.length ≤ c ∧ c ≤ maxLen ∧ Rd w A l.length (l.map bv) ∧ (A = none → c = 0)
/-- the slice (A, n) reads as slices of bytes, which read as ls -/
def RdRows (w : World) (A : Option Addr) (n : Nat) (ls : List (List UInt8)) : Prop :=
  ls.length = n ∧ ∃ us : List Value, Rd w A n us ∧ ∀ (k : Nat) (u : Value) (l : List UInt8), us[k]? = some u → ls[k]? = some l → RowV w u l
theorem RowV.keep {w w' : World} {u : Value} {l : List UInt8} (h : RowV w u l) (hb : Below w.heap.size w w') : RowV w' u l := by
  obtain ⟨A, c, e, h1, h2, h3, h4⟩ := h
  exact ⟨A, c, e, h1, h2, h3.below hb, h4⟩
theorem RdRows.below {w w' : World} {A : Option Addr} {n : Nat} {ls : List (List UInt8)} (h : RdRows w A n ls) (hb : Below w.heap.size w w') : RdRows w' A n ls := by
  obtain ⟨h1, us, h2, h3⟩ := h
  exact ⟨h1, us, h2.below hb, fun k u l hu hl => (h3 k u l hu hl).keep hb⟩
theorem RdRows.at_ {w : World} {A : Option Addr} {n : Nat} {ls : List (List UInt8)} (h : RdRows w A n ls) {k : Nat} (hk : k < n) :
    ∃ a B c, A = some a ∧ a.block < w.heap.size ∧ w.cell? (a.add k) = some (.slice B (ls.getD k []).length c) ∧ (ls.getD k []).length ≤ c ∧ c ≤ maxLen ∧ Rd w B (ls.getD k []).length ((ls.getD k []).map bv) ∧ (B = none → c = 0) := by
  obtain ⟨h1, us, h2, h3⟩ := h
  obtain ⟨a, e, hb, hc⟩ := h2.at_ hk
  have hu : k < us.length := by rw [h2.1]; exact hk
  have hl : k < ls.length := by omega
  have hr := h3 k us[k] ls[k] (List.getElem?_eq_getElem hu) (List.getElem?_eq_getElem hl)
  have eu : us.getD k undef = us[k] := by simp [List.getD, hu]
  have el : ls.getD k [] = ls[k] := by simp [List.getD, hl]
  rw [eu] at hc
  rw [el]
  obtain ⟨B, c, e1, h4, h5, h6, h7⟩ := hr
  exact ⟨a, B, c, e, hb, by rw [hc, e1], h4, h5, h6, h7⟩
/-- slices of bytes that came in -/
def InR (w : World) (v : Value) (ls : List (List UInt8)) : Prop := ∃ A n c, v = .slice A n c ∧ n ≤ c ∧ c ≤ maxLen ∧ RdRows w A n ls ∧ (A = none → c = 0) ∧ ∀ l ∈ ls, l.length ≤ 140737488355328

/-- the form's own reach, of one argument -/
theorem sized_arg {H : Type} {P : Program} {ts : List TypeId} {ds : List (DataW H)} (h : (DataW.weightsEach P ts ds).all (· ≤ reachBytes) = true) {j : Nat} {t : TypeId} {d : DataW H} (ht : ts[j]? = some t) (hd : ds[j]? = some d) :
    ∀ m ∈ d.weights P t, m ≤ reachBytes := fun m hm => of_decide_eq_true (List.all_eq_true.1 h _ (DataW.weights_mem_each ht hd m hm))
theorem weights_all_mem {H : Type} {P : Program} {e : TypeId} {ds : List (DataW H)} {d : DataW H} (h : d ∈ ds) : ∀ m ∈ d.weights P e, m ∈ DataW.weightsAll P e ds := by
  induction ds with
  | nil => cases h
  | cons x r ih =>
    intro m hm
    simp only [DataW.weightsAll, List.mem_append]
    rcases List.mem_cons.1 h with rfl | h'
    · exact .inl hm
    · exact .inr (ih h' m hm)
theorem open_rows_at {H : Type} {enc : TypeId × Value → H} {W : World} {a0 : Option Addr} {len0 cap0 : Nat} {d : DataW H} {p : List MemPlace}
    (h : DataW.Trod enc Tryd.prog W 0 (fun _ => true) true 37 (.slice a0 len0 cap0) d p) (hwt : ∀ m ∈ d.weights Tryd.prog 37, m ≤ reachBytes) : ∃ ls, InR W (.slice a0 len0 cap0) ls := by
  obtain ⟨fuel, hf⟩ := h
  rcases open_int_rows Tryd.underlying37 Tryd.underlying32 Tryd.underlying5 (by kernel_rfl) (by kernel_rfl) hf with ⟨hcs, _⟩ | ⟨x, l, c, A, L, C, Z, hcs, _, hl, hm, hdat, hr⟩
  · simp [Value.cells] at hcs
    obtain ⟨rfl, rfl, rfl⟩ := hcs
    exact ⟨[], _, _, _, rfl, by omega, by simp [maxLen], ⟨rfl, [], Rd.nil_ _ _, fun k u l h => by simp at h⟩, fun _ => rfl, by simp⟩
  · simp [Value.cells] at hcs
    obtain ⟨rfl, rfl, rfl⟩ := hcs
    have hlens : ∀ r, r < len0 → C r ≤ 140737488355328 := by
      intro r hrl
      obtain ⟨_, _, _, h3, _, h5, _⟩ := hr r (by omega)
      rcases hA : A r with _ | ad
      · have := h5 hA; omega
      · have hd0 : d = _ := congrArg Prod.fst hdat
        subst hd0
        have hb1 : Tryd.prog.bytesOf 5 = 1 := by kernel_rfl
        have hin : (intRow (H := H) .u8 (A r) (L r) (Z r)) ∈ (List.range len0).map (fun r => intRow .u8 (A r) (L r) (Z r)) := List.mem_map.2 ⟨r, by simpa using hrl, rfl⟩
        have h7 := hwt (C r) (by
          simp only [DataW.weights, Tryd.underlying37, List.mem_cons, List.mem_append]
          refine .inr (.inl (weights_all_mem hin _ ?_))
          simp only [intRow, hA, DataW.weights, Tryd.underlying32, List.mem_cons, hb1]
          left
          simp [lits]
          omega)
        have := reachBytes_lt
        omega
    have each : ∀ r, r < cap0 → ∃ bs : List UInt8, RowV W (.slice (A r) (L r) (C r)) bs := by
      intro r hrc
      obtain ⟨_, h1, h2, h3, h4, h5, h6⟩ := hr r hrc
      obtain ⟨bs, hbs⟩ := bytes_of_wf ((Z r).take (L r)) (fun n hn => h4 n (List.mem_of_mem_take hn))
      have hlen : bs.length = L r := by
        have := congrArg List.length hbs
        simp at this; omega
      refine ⟨bs, A r, C r, by rw [hlen], by omega, h2, ?_, h5⟩
      rw [hlen, hbs]
      rcases hA : A r with _ | ad
      · have : L r = 0 := by have := h5 hA; omega
        rw [this]; simpa using Rd.nil_ _ _
      · exact rd_of_cells (by omega) (fun i hi => (h6 ad hA).2 i (by omega))
    have pick : ∀ m, m ≤ cap0 → ∃ ls : List (List UInt8), ls.length = m ∧ ∀ (k : Nat) (l : List UInt8), ls[k]? = some l → RowV W (.slice (A k) (L k) (C k)) l := by
      intro m
      induction m with
      | zero => intro _; exact ⟨[], rfl, fun k l h => by simp at h⟩
      | succ m ih =>
        intro hm'
        obtain ⟨ls, h1, h2⟩ := ih (by omega)
        obtain ⟨bs, hbs⟩ := each m (by omega)
        refine ⟨ls ++ [bs], by simp [h1], fun k l hk => ?_⟩
        rcases Nat.lt_or_ge k ls.length with hlt | hge
        · rw [List.getElem?_append_left hlt] at hk; exact h2 k l hk
        · rw [List.getElem?_append_right hge] at hk
          have hk0 : k = m := by
            have := (List.getElem?_eq_some_iff.1 hk).1
            simp at this; omega
          subst hk0
          simp [h1] at hk
          rw [← hk]; exact hbs
    obtain ⟨ls, h1, h2⟩ := pick len0 hl
    refine ⟨ls, _, _, _, rfl, hl, hm, ⟨h1, (List.range len0).map (fun r => Value.slice (A r) (L r) (C r)), ⟨by simp, fun k u hu => ?_⟩, fun k u l hu hl' => ?_⟩, (fun h => by cases h), fun l hl' => ?_⟩
    · rw [List.getElem?_map] at hu
      rcases Nat.lt_or_ge k len0 with hk | hk
      · rw [List.getElem?_range hk] at hu
        simp only [Option.map_some, Option.some.injEq] at hu
        have hc := (hr k (by omega)).1
        exact ⟨x, rfl, by have := cell_lt hc; rwa [add_block] at this, by rw [hc, hu]⟩
      · rw [List.getElem?_eq_none (by simpa using hk)] at hu; simp at hu
    · rw [List.getElem?_map] at hu
      rcases Nat.lt_or_ge k len0 with hk | hk
      · rw [List.getElem?_range hk] at hu
        simp only [Option.map_some, Option.some.injEq] at hu
        rw [← hu]; exact h2 k l hl'
      · rw [List.getElem?_eq_none (by simpa using hk)] at hu; simp at hu
    · obtain ⟨k, hk, e⟩ := List.getElem_of_mem hl'
      obtain ⟨A2, c2, e2, e3, _⟩ := h2 k l (by rw [← e]; exact List.getElem?_eq_getElem hk)
      injection e2 with _ _ e5
      have := hlens k (by omega)
      omega
theorem open_rows {H : Type} {enc : TypeId × Value → H} {W : World} {base : Nat} {v : Value} {d : DataW H} {p : List MemPlace}
    (hv : Value.okWide Tryd.prog W .any base 37 v) (h : DataW.Trod enc Tryd.prog W 0 (fun _ => true) true 37 v d p) (hwt : ∀ m ∈ d.weights Tryd.prog 37, m ≤ reachBytes) : ∃ ls, InR W v ls := by
  obtain ⟨a0, len0, cap0, rfl⟩ := okWide_slice Tryd.underlying37 hv
  exact open_rows_at h hwt
end Go.Proofs.YtmiejaohkgemnaaDoor

/-
  What the walks are told of an Id and of a letter that came in. Plain lemmas on the reading of arguments; no statement.
-/
namespace Go.Proofs.YtmiejaohkgemnaaDoor
open Go.ChangeShapes Go.WideShapes Go.ChangeAt Go.RowKit Go.Deep
set_option linter.unusedVariables false
set_option maxRecDepth 100000

/-- bytes that came in, and how many there may be -/
def InBs (w : World) (v : Value) (l : List UInt8) : Prop := InB w v l ∧ l.length ≤ 140737488355328
theorem open_bytes_sz {H : Type} {enc : TypeId × Value → H} {W : World} {base : Nat} {v : Value} {d : DataW H} {p : List MemPlace}
    (hv : Value.okWide Tryd.prog W .any base 32 v) (h : DataW.Trod enc Tryd.prog W 0 (fun _ => true) true 32 v d p) (hwt : ∀ m ∈ d.weights Tryd.prog 32, m ≤ reachBytes) : ∃ l, InBs W v l := by
  obtain ⟨l, A, n, c, rfl, h1, h2, h3, h4⟩ := open_bytes hv h
  have hl : l.length = n := by simpa using h3.1
  refine ⟨l, ⟨A, n, c, rfl, h1, h2, h3, h4⟩, ?_⟩
  obtain ⟨fuel, hf⟩ := h
  rcases open_ints Tryd.underlying32 Tryd.underlying5 (by kernel_rfl) hf with ⟨hcs, _⟩ | ⟨x, len, c', zs, hcs, _, hl', hm, hz, hdat, _⟩
  · simp [Value.cells] at hcs
    omega
  · simp [Value.cells] at hcs
    obtain ⟨_, rfl, rfl⟩ := hcs
    simp only [if_true] at hz
    have hd0 : d = _ := congrArg Prod.fst hdat
    subst hd0
    have hb1 : Tryd.prog.bytesOf 5 = 1 := by kernel_rfl
    have h7 := hwt c (by
      simp only [DataW.weights, Tryd.underlying32, List.mem_cons, hb1]
      left
      simp [lits]
      omega)
    have := reachBytes_lt
    omega

theorem take_one {α : Type} {l : List α} {k : Nat} {x : α} (h : (l.drop k).take 1 = [x]) : l[k]? = some x := by
  have e : ((l.drop k).take 1)[0]? = some x := by rw [h]; rfl
  rw [List.getElem?_take] at e
  simpa using e
theorem two_of {α : Type} {l : List α} {x y : α} (hl : l.length = 2) (h0 : l[0]? = some x) (h1 : l[1]? = some y) : l = [x, y] := by
  match l, hl with
  | [a, b], _ => simp at h0 h1; simp [h0, h1]
end Go.Proofs.YtmiejaohkgemnaaDoor

/-
  What the walks are told of a script of calls that came in. Plain lemmas on the reading of arguments; no statement.
-/
namespace Go.Proofs.YtmiejaohkgemnaaDoor
open Go.ChangeShapes Go.WideShapes Go.ChangeAt Go.RowKit Go.Deep
set_option linter.unusedVariables false
set_option maxRecDepth 100000

theorem open_nums_at {H : Type} {enc : TypeId × Value → H} {W : World} {a0 : Option Addr} {len0 cap0 : Nat} {d : DataW H} {p : List MemPlace}
    (h : DataW.Trod enc Tryd.prog W 0 (fun _ => true) true 42 (.slice a0 len0 cap0) d p) (hwt : ∀ m ∈ d.weights Tryd.prog 42, m ≤ reachBytes) : ∃ l, InI W (.slice a0 len0 cap0) l ∧ l.length ≤ 140737488355328 := by
  obtain ⟨fuel, hf⟩ := h
  rcases open_ints Tryd.underlying42 Tryd.underlying3 (by kernel_rfl) hf with ⟨hcs, _⟩ | ⟨x, l, c, zs, hcs, _, hl, hm, hz, hdat, hcell, hwz⟩
  · simp [Value.cells] at hcs
    obtain ⟨rfl, rfl, rfl⟩ := hcs
    exact ⟨[], ⟨_, _, _, rfl, by omega, by simp [maxLen], Rd.nil_ _ _, by simp, fun _ => rfl⟩, by simp⟩
  · simp [Value.cells] at hcs
    obtain ⟨rfl, rfl, rfl⟩ := hcs
    simp only [if_true] at hz
    refine ⟨zs.take len0, ⟨_, _, _, rfl, hl, hm, rd_of_cells (by omega) hcell, fun n hn => hwz n (List.mem_of_mem_take hn), fun h => by cases h⟩, ?_⟩
    have hd0 : d = _ := congrArg Prod.fst hdat
    subst hd0
    have hb1 : Tryd.prog.bytesOf 3 = 8 := by kernel_rfl
    have h7 := hwt (cap0 * 8) (by
      simp only [DataW.weights, Tryd.underlying42, List.mem_cons, hb1]
      left
      simp [lits]
      omega)
    have := reachBytes_lt
    rw [List.length_take]
    omega
/-- numbers that came in, no more than the form's reach -/
def InIs (w : World) (v : Value) (l : List Int) : Prop := InI w v l ∧ l.length ≤ 17592186044416
theorem open_nums_sz {H : Type} {enc : TypeId × Value → H} {W : World} {base : Nat} {v : Value} {d : DataW H} {p : List MemPlace}
    (hv : Value.okWide Tryd.prog W .any base 42 v) (h : DataW.Trod enc Tryd.prog W 0 (fun _ => true) true 42 v d p) (hwt : ∀ m ∈ d.weights Tryd.prog 42, m ≤ reachBytes) : ∃ l, InIs W v l := by
  obtain ⟨a0, len0, cap0, rfl⟩ := okWide_slice Tryd.underlying42 hv
  obtain ⟨fuel, hf⟩ := h
  rcases open_ints Tryd.underlying42 Tryd.underlying3 (by kernel_rfl) hf with ⟨hcs, _⟩ | ⟨x, l, c, zs, hcs, _, hl, hm, hz, hdat, hcell, hwz⟩
  · simp [Value.cells] at hcs
    obtain ⟨rfl, rfl, rfl⟩ := hcs
    exact ⟨[], ⟨_, _, _, rfl, by omega, by simp [maxLen], Rd.nil_ _ _, by simp, fun _ => rfl⟩, by simp⟩
  · simp [Value.cells] at hcs
    obtain ⟨rfl, rfl, rfl⟩ := hcs
    simp only [if_true] at hz
    refine ⟨zs.take len0, ⟨_, _, _, rfl, hl, hm, rd_of_cells (by omega) hcell, fun n hn => hwz n (List.mem_of_mem_take hn), fun h => by cases h⟩, ?_⟩
    have hd0 : d = _ := congrArg Prod.fst hdat
    subst hd0
    have hb1 : Tryd.prog.bytesOf 3 = 8 := by kernel_rfl
    have h7 := hwt (cap0 * 8) (by
      simp only [DataW.weights, Tryd.underlying42, List.mem_cons, hb1]
      left
      simp [lits]
      omega)
    have := reachBytes_lt
    rw [List.length_take]
    omega
end Go.Proofs.YtmiejaohkgemnaaDoor

/-
  What the walks are told of a script of steps on a log that came in. Plain lemmas on the reading of arguments; no statement.
-/
namespace Go.Proofs.YtmiejaohkgemnaaDoor
open Go.ChangeShapes Go.WideShapes Go.ChangeAt Go.RowKit Go.Deep
set_option linter.unusedVariables false
set_option maxRecDepth 100000

/-- a step of a script -/
structure Step5 where
  what : Int
  n : Int
  rows : List (List UInt8)
  keeps : List Int
/-- four cells that read as a call -/
def StepAt (w : World) (a : Addr) (o : Step5) : Prop :=
  ∃ B p pc C q qc, w.cell? (a.add 0) = some (.int .i64 o.what) ∧ w.cell? (a.add 1) = some (.int .i64 o.n) ∧ w.cell? (a.add 2) = some (.slice B p pc) ∧ w.cell? (a.add 3) = some (.slice C q qc) ∧
    (Lit.int .i64 o.what).wf = true ∧ (Lit.int .i64 o.n).wf = true ∧ InR w (.slice B p pc) o.rows ∧ InI w (.slice C q qc) o.keeps ∧ o.keeps.length ≤ 140737488355328
theorem cells_step : Tryd.prog.cellsOf 44 = 4 := by kernel_rfl
theorem cells_int5 : Tryd.prog.cellsOf 3 = 1 := by kernel_rfl
theorem cells_ints5 : Tryd.prog.cellsOf 42 = 1 := by kernel_rfl
theorem cells_rows5 : Tryd.prog.cellsOf 37 = 1 := by kernel_rfl
theorem open_step {H : Type} {enc : TypeId × Value → H} {W : World} {a : Addr} {cs : List Value} {fuel : Nat} {x : DataW H × List MemPlace} (hc : W.cells? 0 a 4 = some cs)
    (hf : DataW.trod enc Tryd.prog W 0 (fun _ => true) true fuel 44 cs = some x) (hwt : ∀ m ∈ x.1.weights Tryd.prog 44, m ≤ reachBytes) : ∃ o, StepAt W a o := by
  obtain ⟨xs, n, _, hd, hl, hlen, hx⟩ := DataW.trod_struct Tryd.underlying44 hf
  obtain ⟨_, _, hat⟩ := World.cells?_some hc
  match xs, hlen with
  | [y0, y1, y3, y4], _ =>
    have f0 := hx 0 _ rfl
    have f1 := hx 1 _ rfl
    have f3 := hx 2 _ rfl
    have f4 := hx 3 _ rfl
    simp only [List.getElem?_cons_zero, List.getElem?_cons_succ] at f0 f1 f3 f4
    obtain ⟨z0, e0, _, w0⟩ := DataW.trod_int Tryd.underlying3 f0
    obtain ⟨z1, e1, _, w1⟩ := DataW.trod_int Tryd.underlying3 f1
    have e0 : (cs.drop 0).take (Tryd.prog.cellsOf 3) = _ := e0
    have e1 : (cs.drop 1).take (Tryd.prog.cellsOf 3) = _ := e1
    have f3 : DataW.trod enc Tryd.prog W 0 (fun _ => true) true n 37 ((cs.drop 2).take (Tryd.prog.cellsOf 37)) = _ := f3
    have f4 : DataW.trod enc Tryd.prog W 0 (fun _ => true) true n 42 ((cs.drop 3).take (Tryd.prog.cellsOf 42)) = _ := f4
    rw [cells_int5] at e0 e1
    rw [cells_rows5] at f3
    rw [cells_ints5] at f4
    have hdw : ∀ m, m ∈ y3.1.weights Tryd.prog 37 → m ≤ reachBytes := by
      intro m hm
      refine hwt m ?_
      have hd0 : x.1 = .agg [y0.1, y1.1, y3.1, y4.1] := congrArg Prod.fst hd
      rw [hd0]
      simp only [DataW.weights, Tryd.underlying44]
      exact DataW.weights_mem_each (j := 2) rfl rfl m hm
    have hdw4 : ∀ m, m ∈ y4.1.weights Tryd.prog 42 → m ≤ reachBytes := by
      intro m hm
      refine hwt m ?_
      have hd0 : x.1 = .agg [y0.1, y1.1, y3.1, y4.1] := congrArg Prod.fst hd
      rw [hd0]
      simp only [DataW.weights, Tryd.underlying44]
      exact DataW.weights_mem_each (j := 3) rfl rfl m hm
    have s3 : ∃ A n c, (cs.drop 2).take 1 = [.slice A n c] := by
      rcases DataW.trod_slice Tryd.underlying37 f3 with ⟨e, _⟩ | ⟨a, len, cap, _, _, _, _, e, _⟩
      · exact ⟨_, _, _, e⟩
      · exact ⟨_, _, _, e⟩
    have s4 : ∃ A n c, (cs.drop 3).take 1 = [.slice A n c] := by
      rcases DataW.trod_slice Tryd.underlying42 f4 with ⟨e, _⟩ | ⟨a, len, cap, _, _, _, _, e, _⟩
      · exact ⟨_, _, _, e⟩
      · exact ⟨_, _, _, e⟩
    obtain ⟨B, p, pc, e3⟩ := s3
    obtain ⟨C, q, qc, e4⟩ := s4
    have g3 : ∃ l, InR W (.slice B p pc) l := open_rows_at (enc := enc) (d := y3.1) (p := y3.2) ⟨n, by
      have q := f3
      rw [e3] at q
      simpa [Value.cells] using q⟩ hdw
    have g4 : ∃ l, InI W (.slice C q qc) l ∧ l.length ≤ 140737488355328 := open_nums_at (enc := enc) (d := y4.1) (p := y4.2) ⟨n, by
      have q := f4
      rw [e4] at q
      simpa [Value.cells] using q⟩ hdw4
    obtain ⟨parts, hp⟩ := g3
    obtain ⟨areas, ha⟩ := g4
    exact ⟨⟨z0, z1, parts, areas⟩, B, p, pc, C, q, qc, (hat 0 (by decide)).trans (take_one e0), (hat 1 (by decide)).trans (take_one e1), (hat 2 (by decide)).trans (take_one e3), (hat 3 (by decide)).trans (take_one e4), w0, w1, hp, ha⟩
/-- the slice (A, n) reads as calls -/
def RdSteps (w : World) (A : Option Addr) (n : Nat) (ops : List Step5) : Prop :=
  ops.length = n ∧ ∀ (k : Nat) (o : Step5), ops[k]? = some o → ∃ a, A = some a ∧ a.block < w.heap.size ∧ StepAt w (a.add (k * 4)) o
/-- a script that came in -/
def InSteps (w : World) (v : Value) (ops : List Step5) : Prop := ∃ A n c, v = .slice A n c ∧ n ≤ c ∧ c ≤ maxLen ∧ RdSteps w A n ops ∧ (A = none → c = 0)
theorem open_steps {H : Type} {enc : TypeId × Value → H} {W : World} {base : Nat} {v : Value} {d : DataW H} {p : List MemPlace}
    (hv : Value.okWide Tryd.prog W .any base 22 v) (h : DataW.Trod enc Tryd.prog W 0 (fun _ => true) true 22 v d p)
    (hwt : ∀ m ∈ d.weights Tryd.prog 22, m ≤ reachBytes) : ∃ ops, InSteps W v ops := by
  obtain ⟨a0, len0, cap0, rfl⟩ := okWide_slice Tryd.underlying22 hv
  obtain ⟨fuel, hf⟩ := h
  rcases open_slice Tryd.underlying22 hf with ⟨hcs, _⟩ | ⟨a, len, cap, m, n, D, Pl, hcs, _, hl, hm, hmm, hx, hi⟩
  · simp [Value.cells] at hcs
    obtain ⟨rfl, rfl, rfl⟩ := hcs
    exact ⟨[], _, _, _, rfl, by omega, by simp [maxLen], ⟨rfl, fun k o h => by simp at h⟩, fun _ => rfl⟩
  · simp [Value.cells] at hcs
    obtain ⟨rfl, rfl, rfl⟩ := hcs
    simp only [if_true] at hmm
    have hd0 : d = .slice ((List.range len0).map D) ((List.range (m - len0)).map fun j => D (len0 + j)) := congrArg Prod.fst hx
    subst hmm
    rw [cells_step] at hi
    have each : ∀ r, r < len0 → ∃ o, StepAt W (a.add (r * 4)) o := by
      intro r hr
      obtain ⟨cs', hc, ht⟩ := hi r (by omega)
      refine open_step hc ht fun m hm => hwt m ?_
      rw [hd0]
      simp only [DataW.weights, Tryd.underlying22, List.mem_cons, List.mem_append]
      exact .inr (.inl (weights_all_mem (List.mem_map.2 ⟨r, by simpa using hr, rfl⟩) m hm))
    have pick : ∀ m, m ≤ len0 → ∃ ops : List Step5, ops.length = m ∧ ∀ (k : Nat) (o : Step5), ops[k]? = some o → StepAt W (a.add (k * 4)) o := by
      intro m
      induction m with
      | zero => intro _; exact ⟨[], rfl, fun k l h => by simp at h⟩
      | succ m ih =>
        intro hm'
        obtain ⟨ops, h1, h2⟩ := ih (by omega)
        obtain ⟨o, ho⟩ := each m (by omega)
        refine ⟨ops ++ [o], by simp [h1], fun k o' hk => ?_⟩
        rcases Nat.lt_or_ge k ops.length with hlt | hge
        · rw [List.getElem?_append_left hlt] at hk; exact h2 k o' hk
        · rw [List.getElem?_append_right hge] at hk
          have hk0 : k = m := by
            have := (List.getElem?_eq_some_iff.1 hk).1
            simp at this; omega
          subst hk0
          simp [h1] at hk
          rw [← hk]; exact ho
    obtain ⟨ops, h1, h2⟩ := pick len0 (Nat.le_refl _)
    refine ⟨ops, _, _, _, rfl, hl, hm, ⟨h1, fun k o hk => ⟨a, rfl, ?_, h2 k o hk⟩⟩, fun h => by cases h⟩
    obtain ⟨B, p, pc, C, q, qc, c0, _⟩ := h2 k o hk
    have := cell_lt c0
    rwa [add_block, add_block] at this
end Go.Proofs.YtmiejaohkgemnaaDoor
