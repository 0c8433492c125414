/-
  Votes in order: what enough of them agree on, and reach. Plain lemmas; no statement.
-/
import Derived.Test.YtckmjpbkcpmdpaaChecked
import Derived.Lib.Bytealg
import Derived.Lib.Small
import Derived.Shelf.SlSortCmp.WholeK
namespace Go.Proofs.Ytckmjpbkcpmdpaa
set_option linter.unusedVariables false

/-- a vote: who says it, its rank, its key, its load -/
structure Vo where
  voter : Int
  rank : Int
  key : List UInt8
  load : List UInt8
instance : Inhabited Vo := ⟨⟨0, 0, [], []⟩⟩

abbrev cb (a b : List UInt8) : Int := Lib.compareBytes a b
theorem cb_self : ∀ a, cb a a = 0
  | [] => rfl
  | x :: a => by
    have := cb_self a
    simp only [cb, Lib.compareBytes] at *
    rw [if_neg (UInt8.lt_irrefl x), if_neg (UInt8.lt_irrefl x)]; exact this
theorem cb_zero : ∀ {a b : List UInt8}, cb a b = 0 → a = b
  | [], [], _ => rfl
  | [], _ :: _, h => by simp [cb, Lib.compareBytes] at h
  | _ :: _, [], h => by simp [cb, Lib.compareBytes] at h
  | x :: a, y :: b, h => by
    simp only [cb, Lib.compareBytes] at h
    by_cases h1 : x < y
    · rw [if_pos h1] at h; omega
    · rw [if_neg h1] at h
      by_cases h2 : y < x
      · rw [if_pos h2] at h; omega
      · rw [if_neg h2] at h
        rw [cb_zero h, UInt8.le_antisymm (UInt8.not_lt.1 h2) (UInt8.not_lt.1 h1)]
theorem cb_iff {a b : List UInt8} : cb a b = 0 ↔ a = b := ⟨cb_zero, fun h => by rw [h]; exact cb_self b⟩
theorem cb_swap : ∀ a b : List UInt8, cb b a = - cb a b
  | [], [] => rfl
  | [], _ :: _ => rfl
  | _ :: _, [] => rfl
  | x :: a, y :: b => by
    have ih := cb_swap a b
    simp only [cb, Lib.compareBytes] at *
    by_cases h1 : x < y
    · rw [if_pos h1, if_neg (UInt8.not_lt.2 (UInt8.le_of_lt h1)), if_pos h1]; rfl
    · by_cases h2 : y < x
      · rw [if_pos h2, if_neg h1, if_pos h2]
      · rw [if_neg h2, if_neg h1, if_neg h1, if_neg h2]; exact ih
theorem cb_trans : ∀ {a b c : List UInt8}, cb a b < 0 → cb b c < 0 → cb a c < 0
  | [], [], _, h, _ => by simp [cb, Lib.compareBytes] at h
  | [], _ :: _, [], _, h => by simp [cb, Lib.compareBytes] at h
  | [], _ :: _, _ :: _, _, _ => by simp [cb, Lib.compareBytes]
  | _ :: _, [], _, h, _ => by simp [cb, Lib.compareBytes] at h
  | _ :: _, _ :: _, [], _, h => by simp [cb, Lib.compareBytes] at h
  | x :: a, y :: b, z :: c, h, k => by
    have ih := @cb_trans a b c
    simp only [cb, Lib.compareBytes] at *
    by_cases h1 : x < y
    · by_cases k1 : y < z
      · rw [if_pos (UInt8.lt_trans h1 k1)]; omega
      · rw [if_neg k1] at k
        by_cases k2 : z < y
        · rw [if_pos k2] at k; omega
        · obtain rfl : y = z := UInt8.le_antisymm (UInt8.not_lt.1 k2) (UInt8.not_lt.1 k1)
          rw [if_pos h1]; omega
    · rw [if_neg h1] at h
      by_cases h2 : y < x
      · rw [if_pos h2] at h; omega
      · rw [if_neg h2] at h
        obtain rfl : x = y := UInt8.le_antisymm (UInt8.not_lt.1 h2) (UInt8.not_lt.1 h1)
        by_cases k1 : x < z
        · rw [if_pos k1]; omega
        · rw [if_neg k1] at k ⊢
          by_cases k2 : z < x
          · rw [if_pos k2] at k; omega
          · rw [if_neg k2] at k ⊢
            exact ih h k

/-- how two votes stand to one another -/
def cmpV (a b : Vo) : Int := if a.rank = b.rank then (if cb a.key b.key = 0 then Lib.compareInt a.voter b.voter else cb a.key b.key) else Lib.compareInt b.rank a.rank
/-- ahead: a greater rank, then a lesser key, then a lesser voter -/
def LtV (a b : Vo) : Prop := b.rank < a.rank ∨ (a.rank = b.rank ∧ (cb a.key b.key < 0 ∨ (a.key = b.key ∧ a.voter < b.voter)))
theorem cmpV_lt (a b : Vo) : cmpV a b < 0 ↔ LtV a b := by
  unfold cmpV LtV Lib.compareInt
  by_cases h1 : a.rank = b.rank
  · rw [if_pos h1]
    by_cases h2 : cb a.key b.key = 0
    · rw [if_pos h2]
      have := cb_zero h2
      by_cases h3 : a.voter < b.voter
      · simp [h1, h3, this]
      · rw [if_neg h3]
        by_cases h4 : a.voter > b.voter
        · simp [h1, h3, h4, this, cb_self]
        · simp [h1, h3, h4, this, cb_self]
    · rw [if_neg h2]
      have h5 : a.key ≠ b.key := fun e => h2 (by rw [e]; exact cb_self _)
      simp [h1, h5]
  · rw [if_neg h1]
    by_cases h3 : b.rank < a.rank
    · simp [h3]
    · rw [if_neg h3]
      have : b.rank > a.rank ∨ ¬ b.rank > a.rank := by omega
      simp [h1, h3]
      split <;> omega
theorem LtV.irrefl (a : Vo) : ¬ LtV a a := by
  intro h
  unfold LtV at h
  rw [cb_self] at h
  omega
theorem LtV.trans {a b c : Vo} (h : LtV a b) (k : LtV b c) : LtV a c := by
  unfold LtV at *
  rcases h with h | ⟨h1, h⟩
  · rcases k with k | ⟨k1, _⟩
    · left; omega
    · left; omega
  · rcases k with k | ⟨k1, k⟩
    · left; omega
    · right
      refine ⟨by omega, ?_⟩
      rcases h with h | ⟨h2, h⟩
      · rcases k with k | ⟨k2, k⟩
        · exact .inl (cb_trans h k)
        · rw [← k2]; exact .inl h
      · rcases k with k | ⟨k2, k⟩
        · rw [h2]; exact .inl k
        · exact .inr ⟨h2.trans k2, by omega⟩
/-- alike but for the load -/
def Al (a b : Vo) : Prop := a.rank = b.rank ∧ a.key = b.key ∧ a.voter = b.voter
theorem LtV.tri (a b : Vo) : LtV a b ∨ LtV b a ∨ Al a b := by
  unfold LtV Al
  rcases Int.lt_trichotomy a.rank b.rank with h | h | h
  · exact .inr (.inl (.inl h))
  · have hs := cb_swap a.key b.key
    rcases Int.lt_trichotomy (cb a.key b.key) 0 with k | k | k
    · exact .inl (.inr ⟨h, .inl k⟩)
    · have e := cb_zero k
      rcases Int.lt_trichotomy a.voter b.voter with m | m | m
      · exact .inl (.inr ⟨h, .inr ⟨e, m⟩⟩)
      · exact .inr (.inr ⟨h, e, m⟩)
      · exact .inr (.inl (.inr ⟨h.symm, .inr ⟨e.symm, m⟩⟩))
    · exact .inr (.inl (.inr ⟨h.symm, .inl (by omega)⟩))
  · exact .inl (.inl h)
theorem Al.left {a b c : Vo} (h : Al a b) (k : LtV b c) : LtV a c := by
  unfold LtV Al at *
  obtain ⟨h1, h2, h3⟩ := h
  rw [h1, h2, h3]; exact k
theorem Al.right {a b c : Vo} (h : Al b c) (k : LtV a b) : LtV a c := by
  unfold LtV Al at *
  obtain ⟨h1, h2, h3⟩ := h
  rw [← h1, ← h2, ← h3]; exact k
theorem Al.symm {a b : Vo} (h : Al a b) : Al b a := ⟨h.1.symm, h.2.1.symm, h.2.2.symm⟩
theorem LtV.ntrans {a b c : Vo} (h : ¬ LtV a b) (k : ¬ LtV b c) : ¬ LtV a c := by
  intro m
  rcases LtV.tri a b with x | x | x
  · exact h x
  · exact k (x.trans m)
  · exact k (x.symm.left m)
theorem swo_of {α : Type} (f : α → Vo) : Sort.SWO (ltOf fun x y => cmpV (f x) (f y)) where
  irrefl x := by unfold ltOf; simp only [decide_eq_false_iff_not, cmpV_lt]; exact LtV.irrefl _
  trans x y z h k := by unfold ltOf at *; simp only [decide_eq_true_eq, cmpV_lt] at *; exact h.trans k
  ntrans x y z h k := by unfold ltOf at *; simp only [decide_eq_false_iff_not, cmpV_lt] at *; exact LtV.ntrans h k

/-- a list in order is one -/
theorem srt_unique : ∀ {a b : List Vo}, a.Perm b → a.Pairwise LtV → b.Pairwise LtV → a = b
  | [], b, h, _, _ => by rw [List.nil_perm.1 h]
  | x :: a, [], h, _, _ => by simp at h
  | x :: a, y :: b, h, ha, hb => by
    have e : x = y := by
      have hx : x ∈ y :: b := h.subset (by simp)
      have hy : y ∈ x :: a := h.symm.subset (by simp)
      rcases List.mem_cons.1 hx with e | hx
      · exact e
      · rcases List.mem_cons.1 hy with e | hy
        · exact e.symm
        · exact absurd (((List.pairwise_cons.1 ha).1 y hy).trans ((List.pairwise_cons.1 hb).1 x hx)) (LtV.irrefl x)
    subst e
    rw [srt_unique (List.perm_cons x |>.1 h) (List.pairwise_cons.1 ha).2 (List.pairwise_cons.1 hb).2]
/-- a vote laid into a list in order -/
def tyIns (v : Vo) : List Vo → List Vo
  | [] => [v]
  | u :: r => if cmpV v u < 0 then v :: u :: r else u :: tyIns v r
theorem tyIns_perm (v : Vo) : ∀ l, (tyIns v l).Perm (v :: l)
  | [] => List.Perm.refl _
  | u :: r => by
    unfold tyIns
    split
    · exact List.Perm.refl _
    · exact ((tyIns_perm v r).cons u).trans (List.Perm.swap v u r)
theorem tyIns_srt {v : Vo} : ∀ {l : List Vo}, l.Pairwise LtV → (∀ u ∈ l, u.voter ≠ v.voter) → (tyIns v l).Pairwise LtV
  | [], _, _ => by simp [tyIns]
  | u :: r, h, hn => by
    obtain ⟨h1, h2⟩ := List.pairwise_cons.1 h
    unfold tyIns
    split
    · rename_i hc
      rw [cmpV_lt] at hc
      refine List.pairwise_cons.2 ⟨fun x hx => ?_, h⟩
      rcases List.mem_cons.1 hx with e | hx
      · rw [e]; exact hc
      · exact hc.trans (h1 x hx)
    · rename_i hc
      rw [cmpV_lt] at hc
      refine List.pairwise_cons.2 ⟨fun x hx => ?_, tyIns_srt h2 (fun w hw => hn w (by simp [hw]))⟩
      rcases List.mem_cons.1 ((tyIns_perm v r).subset hx) with e | hx
      · rw [e]
        rcases LtV.tri v u with y | y | y
        · exact absurd y hc
        · exact y
        · exact absurd y.2.2.symm (hn u (by simp))
      · exact h1 x hx
/-- all others' votes -/
def tyOthers (a : Int) (vs : List Vo) : List Vo := vs.filter fun u => decide (u.voter ≠ a)
/-- this is now its voter's vote -/
def tyPut (vs : List Vo) (v : Vo) : List Vo := tyIns v (tyOthers v.voter vs)
def tyKnown (vs : List Vo) (a : Int) : Option Vo := vs.find? fun u => decide (u.voter = a)
/-- is the vote taken? -/
def tyTakes (N : Int) (vs : List Vo) (a r : Int) : Bool := decide (0 ≤ a) && decide (a < N) && decide (0 ≤ r) && (match tyKnown vs a with | some u => decide (u.rank < r) | none => true)
structure TyGood (N : Int) (vs : List Vo) : Prop where
  n0 : 0 ≤ N
  n64 : N ≤ 64
  srt : vs.Pairwise LtV
  ids : vs.Pairwise fun a b => a.voter ≠ b.voter
  rng : ∀ v ∈ vs, 0 ≤ v.voter ∧ v.voter < N ∧ 0 ≤ v.rank ∧ v.rank ≤ 9223372036854775807 ∧ v.key.length ≤ 1099511627776 ∧ v.load.length ≤ 1099511627776
theorem tyOthers_mem {a : Int} {vs : List Vo} {u : Vo} : u ∈ tyOthers a vs ↔ u ∈ vs ∧ u.voter ≠ a := by simp [tyOthers]
theorem tyOthers_none {a : Int} {vs : List Vo} (h : ∀ u ∈ vs, u.voter ≠ a) : tyOthers a vs = vs := List.filter_eq_self.2 (by simpa using h)
theorem tyPut_mem {vs : List Vo} {v u : Vo} : u ∈ tyPut vs v ↔ u = v ∨ (u ∈ vs ∧ u.voter ≠ v.voter) := by
  rw [tyPut, (tyIns_perm v _).mem_iff, List.mem_cons, tyOthers_mem]
/-- lists of numbers, none twice, below n -/
theorem few_ints : ∀ (n : Nat) (l : List Int), l.Nodup → (∀ x ∈ l, 0 ≤ x ∧ x < n) → l.length ≤ n
  | 0, l, _, h => by
    cases l with
    | nil => simp
    | cons x r => have := h x (by simp); omega
  | n + 1, l, hn, h => by
    have e := few_ints n (l.erase (n : Int)) (hn.erase _) (fun x hx => by
      have h1 := h x (List.mem_of_mem_erase hx)
      have h2 : x ≠ (n : Int) := (hn.mem_erase_iff.1 hx).1
      omega)
    have := List.length_erase (a := (n : Int)) (l := l)
    split at this <;> omega
theorem ids_nodup {vs : List Vo} (h : vs.Pairwise fun a b => a.voter ≠ b.voter) : (vs.map (·.voter)).Nodup := List.pairwise_map.2 h
theorem TyGood.len {N : Int} {vs : List Vo} (h : TyGood N vs) : vs.length ≤ 64 := by
  have := few_ints 64 (vs.map (·.voter)) (ids_nodup h.ids) (fun x hx => by
    obtain ⟨v, hv, rfl⟩ := List.mem_map.1 hx
    have h1 := h.rng v hv
    have h2 := h.n64
    omega)
  simpa using this
theorem TyGood.nil {N : Int} (h0 : 0 ≤ N) (h1 : N ≤ 64) : TyGood N [] := ⟨h0, h1, List.Pairwise.nil, List.Pairwise.nil, fun v h => by cases h⟩
theorem TyGood.put {N : Int} {vs : List Vo} {v : Vo} (h : TyGood N vs) (hv : 0 ≤ v.voter ∧ v.voter < N ∧ 0 ≤ v.rank ∧ v.rank ≤ 9223372036854775807 ∧ v.key.length ≤ 1099511627776 ∧ v.load.length ≤ 1099511627776) : TyGood N (tyPut vs v) := by
  refine ⟨h.n0, h.n64, tyIns_srt (h.srt.filter _) (fun u hu => (tyOthers_mem.1 hu).2), ?_, fun u hu => ?_⟩
  · refine ((tyIns_perm v _).pairwise_iff (fun {a b} hab => Ne.symm hab)).2 (List.pairwise_cons.2 ⟨fun u hu => (tyOthers_mem.1 hu).2.symm, h.ids.filter _⟩)
  · rcases tyPut_mem.1 hu with rfl | ⟨hu, _⟩
    · exact hv
    · exact h.rng u hu
theorem TyGood.one {N : Int} {vs : List Vo} (h : TyGood N vs) {u v : Vo} (hu : u ∈ vs) (hv : v ∈ vs) (e : u.voter = v.voter) : u = v := by
  have := h.ids
  induction vs with
  | nil => cases hu
  | cons x r ih =>
    obtain ⟨p, q⟩ := List.pairwise_cons.1 this
    rcases List.mem_cons.1 hu with hu1 | hu1 <;> rcases List.mem_cons.1 hv with hv1 | hv1
    · rw [hu1, hv1]
    · exact absurd (by rw [← hu1]; exact e) (p v hv1)
    · exact absurd (by rw [← hv1]; exact e.symm) (p u hu1)
    · exact ih ⟨h.n0, h.n64, (List.pairwise_cons.1 h.srt).2, q, fun v hv => h.rng v (by simp [hv])⟩ hu1 hv1 q
theorem tyKnown_some {vs : List Vo} {a : Int} {u : Vo} (h : tyKnown vs a = some u) : u ∈ vs ∧ u.voter = a := ⟨List.mem_of_find?_eq_some h, by simpa using List.find?_some h⟩
theorem tyKnown_none {vs : List Vo} {a : Int} (h : tyKnown vs a = none) : ∀ u ∈ vs, u.voter ≠ a := by simpa [tyKnown] using h
theorem TyGood.known_of {N : Int} {vs : List Vo} (h : TyGood N vs) {u : Vo} (hu : u ∈ vs) : tyKnown vs u.voter = some u := by
  cases e : tyKnown vs u.voter with
  | none => exact absurd rfl (tyKnown_none e u hu)
  | some x => rw [h.one hu (tyKnown_some e).1 (tyKnown_some e).2.symm]

/-- the same rank and key -/
def tySame (a b : Vo) : Bool := decide (a.rank = b.rank) && decide (a.key = b.key)
/-- who has a rank and key -/
def tyHaves (vs : List Vo) (r : Int) (k : List UInt8) : List Int := (vs.filter fun u => decide (u.rank = r) && decide (u.key = k)).map (·.voter)
/-- how many are needed besides the first -/
def tyBehind (k : Int) : Nat := (max k 1 - 1).toNat
/-- what enough agree on -/
def tyAgree (vs : List Vo) (k : Int) : Option Vo :=
  ((List.range (vs.length - tyBehind k)).find? fun i => tySame (vs.getD (i + tyBehind k) default) (vs.getD i default)).map fun i => vs.getD i default
def tyReach (vs : List Vo) (k : Int) : Option Int := (vs[tyBehind k]?).map (·.rank)

/-- ahead of a class, in it, behind it -/
def tyBelow (u x : Vo) : Bool := decide (u.rank < x.rank) || (decide (x.rank = u.rank) && decide (cb x.key u.key < 0))
def tyAbove (u x : Vo) : Bool := decide (x.rank < u.rank) || (decide (x.rank = u.rank) && decide (cb u.key x.key < 0))
theorem class_cases (u x : Vo) : (tyBelow u x = true ∧ tySame x u = false ∧ tyAbove u x = false) ∨ (tyBelow u x = false ∧ tySame x u = true ∧ tyAbove u x = false) ∨ (tyBelow u x = false ∧ tySame x u = false ∧ tyAbove u x = true) := by
  unfold tyBelow tySame tyAbove
  have hs := cb_swap x.key u.key
  rcases Int.lt_trichotomy x.rank u.rank with h | h | h
  · simp [h, show ¬ u.rank < x.rank by omega, show ¬ x.rank = u.rank by omega]
  · rcases Int.lt_trichotomy (cb x.key u.key) 0 with k | k | k
    · have e : x.key ≠ u.key := fun e => by rw [e, cb_self] at k; omega
      simp [h, k, e, show ¬ cb u.key x.key < 0 by omega]
    · have e := cb_zero k
      simp [h, e, cb_self]
    · have e : x.key ≠ u.key := fun e => by rw [e, cb_self] at k; omega
      simp [h, e, show ¬ cb x.key u.key < 0 by omega, show cb u.key x.key < 0 by omega]
  · simp [h, show ¬ x.rank < u.rank by omega, show ¬ x.rank = u.rank by omega]
theorem tyAbove_next {u x y : Vo} (h : LtV x y) (hx : tyAbove u x = true) : tyAbove u y = true := by
  unfold tyAbove at *
  unfold LtV at h
  simp only [Bool.or_eq_true, Bool.and_eq_true, decide_eq_true_eq] at *
  rcases h with h | ⟨h1, h⟩
  · left; omega
  · rcases hx with hx | ⟨hx, hk⟩
    · left; omega
    · right
      refine ⟨by omega, ?_⟩
      rcases h with h | ⟨h, _⟩
      · exact cb_trans hk h
      · rw [← h]; exact hk
theorem tySame_next {u x y : Vo} (h : LtV x y) (hx : tySame x u = true) : tyBelow u y = false := by
  unfold tySame at hx
  unfold tyBelow
  unfold LtV at h
  simp only [Bool.and_eq_true, decide_eq_true_eq] at hx
  obtain ⟨h1, h2⟩ := hx
  rw [h1, h2] at h
  have hs := cb_swap y.key u.key
  simp only [Bool.or_eq_false_iff, Bool.and_eq_false_iff, decide_eq_false_iff_not]
  rcases h with h | ⟨h1, h⟩
  · exact ⟨by omega, .inl (by omega)⟩
  · refine ⟨by omega, .inr ?_⟩
    rcases h with h | ⟨h, _⟩
    · omega
    · rw [h, cb_self] at *; omega
/-- a class stands together -/
theorem split_class (u : Vo) : ∀ {vs : List Vo}, vs.Pairwise LtV → vs = vs.filter (tyBelow u) ++ (vs.filter (fun x => tySame x u) ++ vs.filter (tyAbove u))
  | [], _ => rfl
  | x :: r, h => by
    obtain ⟨h1, h2⟩ := List.pairwise_cons.1 h
    have ih := split_class u h2
    rcases class_cases u x with ⟨a, b, c⟩ | ⟨a, b, c⟩ | ⟨a, b, c⟩
    · simp only [List.filter_cons, a, b, c, if_true, Bool.false_eq_true, if_false, List.cons_append]
      rw [← ih]
    · have e : r.filter (tyBelow u) = [] := List.filter_eq_nil_iff.2 fun y hy => by rw [tySame_next (h1 y hy) b]; simp
      simp only [List.filter_cons, a, b, c, if_true, Bool.false_eq_true, if_false]
      rw [e] at ih ⊢
      simp only [List.nil_append, List.cons_append] at ih ⊢
      rw [← ih]
    · have e : ∀ y ∈ r, tyAbove u y = true := fun y hy => tyAbove_next (h1 y hy) c
      have e1 : r.filter (tyBelow u) = [] := List.filter_eq_nil_iff.2 fun y hy => by
        rcases class_cases u y with ⟨_, _, z⟩ | ⟨_, _, z⟩ | ⟨z, _, _⟩
        · rw [e y hy] at z; cases z
        · rw [e y hy] at z; cases z
        · simp [z]
      have e2 : r.filter (fun x => tySame x u) = [] := List.filter_eq_nil_iff.2 fun y hy => by
        rcases class_cases u y with ⟨_, _, z⟩ | ⟨_, _, z⟩ | ⟨_, z, _⟩
        · rw [e y hy] at z; cases z
        · rw [e y hy] at z; cases z
        · simp [z]
      simp only [List.filter_cons, a, b, c, if_true, Bool.false_eq_true, if_false]
      rw [e1, e2] at ih ⊢
      simp only [List.nil_append] at ih ⊢
      rw [← ih]
theorem tyHaves_len (vs : List Vo) (u : Vo) : (tyHaves vs u.rank u.key).length = (vs.filter fun x => tySame x u).length := by
  simp [tyHaves, tySame]
theorem tySame_iff {a b : Vo} : tySame a b = true ↔ a.rank = b.rank ∧ a.key = b.key := by simp [tySame]
/-- of votes in order, i ahead of j or the same -/
theorem srt_le {vs : List Vo} (h : vs.Pairwise LtV) {i j : Nat} (hij : i ≤ j) (hj : j < vs.length) : vs.getD i default = vs.getD j default ∨ LtV (vs.getD i default) (vs.getD j default) := by
  rcases Nat.eq_or_lt_of_le hij with e | e
  · rw [e]; exact .inl rfl
  · right
    rw [show vs.getD i default = vs[i]'(by omega) by simp [List.getD, show i < vs.length by omega], show vs.getD j default = vs[j]'hj by simp [List.getD, hj]]
    exact List.pairwise_iff_getElem.1 h i j (by omega) hj e
/-- what is agreed on has enough voters -/
theorem tyAgree_some {vs : List Vo} (h : vs.Pairwise LtV) {k : Int} {v : Vo} (ha : tyAgree vs k = some v) : v ∈ vs ∧ tyBehind k < (tyHaves vs v.rank v.key).length ∧ ∃ i, i + tyBehind k < vs.length ∧ vs.getD i default = v ∧ tySame (vs.getD (i + tyBehind k) default) v = true := by
  unfold tyAgree at ha
  generalize tyBehind k = b at *
  rw [Option.map_eq_some_iff] at ha
  obtain ⟨i, hf, rfl⟩ := ha
  have hm := List.mem_of_find?_eq_some hf
  have hs := List.find?_some hf
  rw [List.mem_range] at hm
  have gi : vs.getD i default = vs[i]'(by omega) := by simp [List.getD, show i < vs.length by omega]
  have gb : vs.getD (i + b) default = vs[i + b]'(by omega) := by simp [List.getD, show i + b < vs.length by omega]
  refine ⟨by rw [gi]; exact List.getElem_mem _, ?_, i, by omega, rfl, hs⟩
  rw [tyHaves_len]
  have e := split_class (vs.getD i default) h
  generalize hA : vs.filter (tyBelow (vs.getD i default)) = A at e
  generalize hB : vs.filter (tyAbove (vs.getD i default)) = B at e
  generalize hC : vs.filter (fun x => tySame x (vs.getD i default)) = C at e ⊢
  have hi : A.length ≤ i := by
    rcases Nat.lt_or_ge i A.length with hlt | hge
    · exfalso
      have h1 : vs.getD i default = A[i] := by
        rw [gi]
        simp only [e]
        rw [List.getElem_append_left hlt]
      have h2 : A[i] ∈ vs.filter (tyBelow (vs.getD i default)) := by rw [hA]; exact List.getElem_mem _
      have h3 := (List.mem_filter.1 h2).2
      rw [← h1] at h3
      rcases class_cases (vs.getD i default) (vs.getD i default) with ⟨_, z, _⟩ | ⟨z, _, _⟩ | ⟨z, _, _⟩
      · simp [tySame] at z
      · rw [h3] at z; cases z
      · rw [h3] at z; cases z
    · exact hge
  have hb : i + b < A.length + C.length := by
    rcases Nat.lt_or_ge (i + b) (A.length + C.length) with hlt | hge
    · exact hlt
    · exfalso
      have hl : vs.length = A.length + (C.length + B.length) := by
        have := congrArg List.length e
        simpa using this
      have h1 : vs.getD (i + b) default = B[i + b - (A.length + C.length)]'(by omega) := by
        rw [gb]
        simp only [e]
        rw [List.getElem_append_right (by omega), List.getElem_append_right (by omega)]
        congr 1
        omega
      have h2 : B[i + b - (A.length + C.length)]'(by omega) ∈ vs.filter (tyAbove (vs.getD i default)) := by rw [hB]; exact List.getElem_mem _
      have h3 := (List.mem_filter.1 h2).2
      rw [← h1] at h3
      rcases class_cases (vs.getD i default) (vs.getD (i + b) default) with ⟨_, _, z⟩ | ⟨_, _, z⟩ | ⟨_, z, _⟩
      · rw [h3] at z; cases z
      · rw [h3] at z; cases z
      · rw [hs] at z; cases z
  omega
/-- what enough have is agreed on, or something ahead of it -/
theorem tyAgree_of {vs : List Vo} (h : vs.Pairwise LtV) {k : Int} {u : Vo} (hu : tyBehind k < (tyHaves vs u.rank u.key).length) : ∃ v, tyAgree vs k = some v ∧ (u.rank < v.rank ∨ (u.rank = v.rank ∧ cb v.key u.key ≤ 0)) := by
  rw [tyHaves_len] at hu
  unfold tyAgree
  generalize tyBehind k = b at *
  have e := split_class u h
  generalize hA : vs.filter (tyBelow u) = A at e
  generalize hB : vs.filter (tyAbove u) = B at e
  generalize hC : vs.filter (fun x => tySame x u) = C at e hu
  have hl : vs.length = A.length + (C.length + B.length) := by
    have := congrArg List.length e
    simpa using this
  have at_ : ∀ j, (hj : j < C.length) → vs.getD (A.length + j) default = C[j] := by
    intro j hj
    rw [show vs.getD (A.length + j) default = vs[A.length + j]'(by omega) by simp [List.getD, show A.length + j < vs.length by omega]]
    simp only [e]
    rw [List.getElem_append_right (by omega), List.getElem_append_left (by omega)]
    congr 1
    omega
  have sm : ∀ j, (hj : j < C.length) → tySame (vs.getD (A.length + j) default) u = true := by
    intro j hj
    rw [at_ j hj]
    have : C[j] ∈ vs.filter (fun x => tySame x u) := by rw [hC]; exact List.getElem_mem _
    exact (List.mem_filter.1 this).2
  have s0 := sm 0 (by omega)
  have sb := sm b hu
  rw [tySame_iff] at s0 sb
  cases hf : (List.range (vs.length - b)).find? fun i => tySame (vs.getD (i + b) default) (vs.getD i default) with
  | none =>
    exfalso
    have := List.find?_eq_none.1 hf A.length (by rw [List.mem_range]; omega)
    apply this
    rw [tySame_iff]
    rw [Nat.add_zero] at s0
    exact ⟨sb.1.trans s0.1.symm, sb.2.trans s0.2.symm⟩
  | some i =>
    refine ⟨_, rfl, ?_⟩
    have hle : i ≤ A.length := by
      rcases Nat.lt_or_ge A.length i with hlt | hge
      · exfalso
        obtain ⟨xa, xb, e1, e2⟩ := List.find?_eq_some_iff_append.1 hf |>.2
        have hlen : xa.length = i := by
          have h1 : (List.range (vs.length - b))[xa.length]? = some i := by rw [e1]; simp
          have := (List.getElem?_eq_some_iff.1 h1)
          obtain ⟨h2, h3⟩ := this
          simpa using h3
        have h4 : A.length ∈ xa := by
          have h5 : xa = (List.range (vs.length - b)).take xa.length := by rw [e1]; simp
          rw [h5]
          refine List.mem_take_iff_getElem.2 ⟨A.length, by simp; omega, by simp⟩
        have := e2 _ h4
        rw [Bool.not_eq_true', ← Bool.not_eq_true] at this
        apply this
        rw [tySame_iff]
        rw [Nat.add_zero] at s0
        exact ⟨sb.1.trans s0.1.symm, sb.2.trans s0.2.symm⟩
      · exact hge
    rw [Nat.add_zero] at s0
    show u.rank < (vs.getD i default).rank ∨ u.rank = (vs.getD i default).rank ∧ cb (vs.getD i default).key u.key ≤ 0
    rcases srt_le h hle (by omega) with q | q
    · rw [q, s0.1, s0.2, cb_self]; exact .inr ⟨rfl, Int.le_refl _⟩
    · unfold LtV at q
      rw [s0.1, s0.2] at q
      rcases q with q | ⟨q1, q | ⟨q, _⟩⟩
      · exact .inl q
      · exact .inr ⟨q1.symm, by omega⟩
      · exact .inr ⟨q1.symm, by rw [q, cb_self]; omega⟩
/-- voters of a class, rising -/
theorem tyHaves_up {vs : List Vo} (h : vs.Pairwise LtV) (r : Int) (k : List UInt8) : (tyHaves vs r k).Pairwise (· < ·) := by
  unfold tyHaves
  refine List.pairwise_map.2 (List.Pairwise.imp_of_mem ?_ (h.filter _))
  intro a b ha hb hab
  have h1 := (List.mem_filter.1 ha).2
  have h2 := (List.mem_filter.1 hb).2
  simp only [Bool.and_eq_true, decide_eq_true_eq] at h1 h2
  unfold LtV at hab
  rw [h1.1, h1.2, h2.1, h2.2, cb_self] at hab
  omega
theorem tyHaves_mem {vs : List Vo} {r : Int} {k : List UInt8} {a : Int} : a ∈ tyHaves vs r k ↔ ∃ u ∈ vs, u.rank = r ∧ u.key = k ∧ u.voter = a := by
  simp [tyHaves, and_assoc]
theorem up_unique : ∀ {a b : List Int}, a.Perm b → a.Pairwise (· < ·) → b.Pairwise (· < ·) → a = b
  | [], b, h, _, _ => by rw [List.nil_perm.1 h]
  | x :: a, [], h, _, _ => by simp at h
  | x :: a, y :: b, h, ha, hb => by
    have e : x = y := by
      have hx : x ∈ y :: b := h.subset (by simp)
      have hy : y ∈ x :: a := h.symm.subset (by simp)
      rcases List.mem_cons.1 hx with e | hx
      · exact e
      · rcases List.mem_cons.1 hy with e | hy
        · exact e.symm
        · have h1 := (List.pairwise_cons.1 ha).1 y hy
          have h2 := (List.pairwise_cons.1 hb).1 x hx
          omega
    subst e
    rw [up_unique (List.perm_cons x |>.1 h) (List.pairwise_cons.1 ha).2 (List.pairwise_cons.1 hb).2]
theorem tyBehind_one (k : Int) : (tyBehind k : Int) = max k 1 - 1 := by unfold tyBehind; omega
end Go.Proofs.Ytckmjpbkcpmdpaa
