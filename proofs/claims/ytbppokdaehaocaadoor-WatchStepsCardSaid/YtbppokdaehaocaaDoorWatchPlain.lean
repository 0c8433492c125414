/-
  Watches and tables of watches as plain lists: the document's answers. Plain words and lemmas; no statement.
-/
import Derived.Test.YtbppokdaehaocaaDoorPathLem
import Derived.Test.YtbppokdaehaocaaDoorLbOrd
namespace Go.Proofs.YtbppokdaehaocaaDoor
set_option maxRecDepth 100000
set_option linter.unusedVariables false

/-- a watch -/
structure Wt where
  client : Int
  kind : Int
  path : List UInt8
deriving DecidableEq
instance : Inhabited Wt := ⟨⟨0, 0, []⟩⟩
def wRight (x : Wt) : Bool := decide (0 ≤ x.client ∧ x.client < 8 ∧ (x.kind = 1 ∨ x.kind = 2)) && (partsOf x.path).isSome
/-- ahead of -/
def wLt (a b : Wt) : Prop := lb a.path b.path ∨ (a.path = b.path ∧ (a.kind < b.kind ∨ (a.kind = b.kind ∧ a.client < b.client)))
instance (a b : Wt) : Decidable (wLt a b) := inferInstanceAs (Decidable (_ ∨ _))
def wOf (c : Int) (t : List Wt) : Nat := t.countP fun x => decide (x.client = c)
/-- a watch put in its place -/
def wIns (x : Wt) : List Wt → List Wt
  | [] => [x]
  | y :: r => if wLt x y then x :: y :: r else y :: wIns x r
def wAdd (x : Wt) (t : List Wt) : List Wt × Int :=
  if wRight x = false then (t, 90) else if x ∈ t then (t, 0) else if 8 ≤ wOf x.client t then (t, 104) else (wIns x t, 0)
def wHit (k : Int) (ps : List (List UInt8)) (x : Wt) : Bool := decide (x.kind = k ∧ x.path ∈ ps)
def wLeft (k : Int) (ps : List (List UInt8)) (t : List Wt) : List Wt := t.filter fun x => !wHit k ps x
def wFired (k : Int) (ps : List (List UInt8)) (t : List Wt) : List Wt := t.filter (wHit k ps)
def wDrop (cs : List Int) (t : List Wt) : List Wt := t.filter fun x => !decide (x.client ∈ cs)
/-- a table as calls make it -/
def WOk (t : List Wt) : Prop := t.Pairwise wLt ∧ (∀ x ∈ t, wRight x = true) ∧ ∀ x ∈ t, wOf x.client t ≤ 8
instance (t : List Wt) : Decidable (WOk t) := inferInstanceAs (Decidable (_ ∧ _ ∧ _))

theorem wLt_irr (a : Wt) : ¬ wLt a a := by
  rintro (h | ⟨_, h⟩)
  · exact lb_irr _ h
  · omega
theorem wLt_trans {a b c : Wt} (h : wLt a b) (k : wLt b c) : wLt a c := by
  rcases h with h | ⟨e1, h⟩ <;> rcases k with k | ⟨e2, k⟩
  · exact .inl (lb_trans h k)
  · exact .inl (e2 ▸ h)
  · exact .inl (e1 ▸ k)
  · exact .inr ⟨e1.trans e2, by omega⟩
theorem wLt_total (a b : Wt) (h : a ≠ b) : wLt a b ∨ wLt b a := by
  obtain ⟨c1, k1, p1⟩ := a
  obtain ⟨c2, k2, p2⟩ := b
  by_cases hp : p1 = p2
  · subst hp
    by_cases hk : k1 = k2
    · subst hk
      have hc : c1 ≠ c2 := fun e => h (by rw [e])
      rcases Int.lt_or_gt_of_ne hc with q | q
      · exact .inl (.inr ⟨rfl, .inr ⟨rfl, q⟩⟩)
      · exact .inr (.inr ⟨rfl, .inr ⟨rfl, q⟩⟩)
    · rcases Int.lt_or_gt_of_ne hk with q | q
      · exact .inl (.inr ⟨rfl, .inl q⟩)
      · exact .inr (.inr ⟨rfl, .inl q⟩)
  · rcases lb_total p1 p2 hp with q | q
    · exact .inl (.inl q)
    · exact .inr (.inl q)
theorem wLt_asym {a b : Wt} (h : wLt a b) : ¬ wLt b a := fun k => wLt_irr _ (wLt_trans h k)
theorem wLt_ne {a b : Wt} (h : wLt a b) : a ≠ b := fun e => wLt_irr b (by rw [e] at h; exact h)
/-- below 0 where a is ahead of b, 0 where they are the same -/
def wCmp (a b : Wt) : Int := if wLt a b then -1 else if a = b then 0 else 1
theorem wCmp_lt {a b : Wt} : wCmp a b < 0 ↔ wLt a b := by
  unfold wCmp
  by_cases h : wLt a b
  · simp [h]
  · rw [if_neg h]
    by_cases e : a = b <;> simp [e, h] <;> exact wLt_irr _
theorem wCmp_eq {a b : Wt} : wCmp a b = 0 ↔ a = b := by
  unfold wCmp
  by_cases h : wLt a b
  · rw [if_pos h]
    exact ⟨fun q => by omega, fun q => absurd q (wLt_ne h)⟩
  · rw [if_neg h]
    by_cases e : a = b
    · simp [e]
    · simp [e]
theorem parts64 {q : List UInt8} (h : (partsOf q).isSome = true) : q.length ≤ 64 := by
  cases e : partsOf q with
  | none => rw [e] at h; cases h
  | some u => exact (whole_parts e).2.2
theorem wRight_path {x : Wt} (h : wRight x = true) : x.path.length ≤ 64 := by
  unfold wRight at h
  rw [Bool.and_eq_true] at h
  exact parts64 h.2
theorem wRight_client {x : Wt} (h : wRight x = true) : 0 ≤ x.client ∧ x.client < 8 := by
  unfold wRight at h
  rw [Bool.and_eq_true, decide_eq_true_eq] at h
  exact ⟨h.1.1, h.1.2.1⟩
/-- where a watch is looked for -/
theorem countP_bound {α : Type} (p : α → Bool) : ∀ (l : List α) (i : Nat), i ≤ l.length → (∀ k x, k < i → l[k]? = some x → p x = true) → (∀ k x, i ≤ k → l[k]? = some x → p x = false) → l.countP p = i
  | [], i, hi, _, _ => by simp at hi; simp [hi]
  | a :: r, 0, _, _, h2 => by
    rw [List.countP_eq_zero]
    intro x hx
    obtain ⟨k, hk, rfl⟩ := List.getElem_of_mem hx
    rw [h2 k _ (Nat.zero_le _) (List.getElem?_eq_getElem hk)]
    simp
  | a :: r, i + 1, hi, h1, h2 => by
    rw [List.countP_cons_of_pos (h1 0 a (Nat.succ_pos _) rfl), countP_bound p r i (by simpa using hi) (fun k x hk hx => h1 (k + 1) x (by omega) hx) (fun k x hk hx => h2 (k + 1) x (by omega) hx)]
def wAt (x : Wt) (t : List Wt) : Nat := t.countP fun y => decide (wLt y x)
theorem wAt_le (x : Wt) (t : List Wt) : wAt x t ≤ t.length := List.countP_le_length
theorem wAt_of {x : Wt} {t : List Wt} {i : Nat} (hi : i ≤ t.length) (h1 : ∀ k y, k < i → t[k]? = some y → wLt y x) (h2 : ∀ k y, i ≤ k → t[k]? = some y → ¬ wLt y x) : wAt x t = i :=
  countP_bound _ t i hi (fun k y hk hy => by simpa using h1 k y hk hy) (fun k y hk hy => by simpa using h2 k y hk hy)
theorem wAt_mem {x : Wt} {t : List Wt} (hs : t.Pairwise wLt) : (t[wAt x t]? = some x) ↔ x ∈ t := by
  refine ⟨List.mem_of_getElem?, fun hx => ?_⟩
  obtain ⟨k, hk, e⟩ := List.getElem_of_mem hx
  have hp := List.pairwise_iff_getElem.1 hs
  rw [wAt_of (i := k) (Nat.le_of_lt hk) (fun j y hj hy => by
    obtain ⟨hjl, ey⟩ := List.getElem?_eq_some_iff.1 hy
    rw [← ey, ← e]; exact hp j k hjl hk hj) (fun j y hj hy => by
    obtain ⟨hjl, ey⟩ := List.getElem?_eq_some_iff.1 hy
    rw [← ey, ← e]
    rcases Nat.eq_or_lt_of_le hj with q | q
    · subst q; exact wLt_irr _
    · exact wLt_asym (hp k j hk hjl q))]
  rw [List.getElem?_eq_getElem hk, e]
theorem wIns_at {x : Wt} : ∀ {t : List Wt}, t.Pairwise wLt → x ∉ t → t.take (wAt x t) ++ x :: t.drop (wAt x t) = wIns x t
  | [], _, _ => rfl
  | y :: r, hs, hx => by
    obtain ⟨h1, h2⟩ := List.pairwise_cons.1 hs
    unfold wIns
    by_cases h : wLt x y
    · rw [if_pos h]
      have h0 : wAt x (y :: r) = 0 := by
        unfold wAt
        rw [List.countP_eq_zero]
        intro z hz
        rcases List.mem_cons.1 hz with rfl | hz
        · simpa using wLt_asym h
        · simpa using wLt_asym (wLt_trans h (h1 z hz))
      rw [h0]; rfl
    · rw [if_neg h]
      have hy : wLt y x := (wLt_total x y (fun e => hx (by rw [e]; exact List.mem_cons_self ..))).resolve_left h
      have hc : wAt x (y :: r) = wAt x r + 1 := by
        unfold wAt
        rw [List.countP_cons_of_pos (by simpa using hy)]
      rw [hc, List.take_succ_cons, List.drop_succ_cons, List.cons_append, wIns_at h2 fun hr => hx (List.mem_cons_of_mem _ hr)]
theorem mem_wIns {x z : Wt} : ∀ {t : List Wt}, z ∈ wIns x t ↔ z = x ∨ z ∈ t
  | [] => by simp [wIns]
  | y :: r => by
    unfold wIns
    split
    · simp
    · rw [List.mem_cons, mem_wIns, List.mem_cons]
      constructor
      · rintro (h | h | h)
        · exact .inr (.inl h)
        · exact .inl h
        · exact .inr (.inr h)
      · rintro (h | h | h)
        · exact .inr (.inl h)
        · exact .inl h
        · exact .inr (.inr h)
theorem wIns_len {x : Wt} : ∀ {t : List Wt}, (wIns x t).length = t.length + 1
  | [] => rfl
  | y :: r => by
    unfold wIns
    split
    · rfl
    · rw [List.length_cons, wIns_len]; rfl
theorem wOf_ins {x : Wt} (c : Int) : ∀ {t : List Wt}, wOf c (wIns x t) = wOf c t + (if x.client = c then 1 else 0)
  | [] => by by_cases h : x.client = c <;> simp [wOf, wIns, h]
  | y :: r => by
    have ih := wOf_ins (x := x) c (t := r)
    unfold wOf at ih ⊢
    unfold wIns
    split
    · rw [List.countP_cons]
      by_cases h : x.client = c <;> simp [h]
    · rw [List.countP_cons, List.countP_cons, ih]
      by_cases h : y.client = c <;> simp [h] <;> omega
theorem wIns_srt {x : Wt} : ∀ {t : List Wt}, t.Pairwise wLt → x ∉ t → (wIns x t).Pairwise wLt
  | [], _, _ => List.pairwise_singleton _ _
  | y :: r, hs, hx => by
    obtain ⟨h1, h2⟩ := List.pairwise_cons.1 hs
    unfold wIns
    by_cases h : wLt x y
    · rw [if_pos h]
      refine List.pairwise_cons.2 ⟨fun z hz => ?_, hs⟩
      rcases List.mem_cons.1 hz with rfl | hz
      · exact h
      · exact wLt_trans h (h1 z hz)
    · rw [if_neg h]
      have hy : wLt y x := (wLt_total x y (fun e => hx (by rw [e]; exact List.mem_cons_self ..))).resolve_left h
      refine List.pairwise_cons.2 ⟨fun z hz => ?_, wIns_srt h2 fun hr => hx (List.mem_cons_of_mem _ hr)⟩
      rcases mem_wIns.1 hz with rfl | hz
      · exact hy
      · exact h1 z hz
theorem wOk_nil : WOk [] := ⟨List.Pairwise.nil, (fun _ h => absurd h List.not_mem_nil), fun _ h => absurd h List.not_mem_nil⟩
theorem wOf_all {t : List Wt} (h : WOk t) (c : Int) : wOf c t ≤ 8 := by
  by_cases hc : ∃ x ∈ t, x.client = c
  · obtain ⟨x, hx, rfl⟩ := hc
    exact h.2.2 x hx
  · have : wOf c t = 0 := by
      unfold wOf
      rw [List.countP_eq_zero]
      intro x hx
      simp only [decide_eq_true_eq]
      exact fun e => hc ⟨x, hx, e⟩
    omega
theorem WOk.filter {t : List Wt} (h : WOk t) (p : Wt → Bool) : WOk (t.filter p) := by
  refine ⟨h.1.sublist List.filter_sublist, fun x hx => h.2.1 x (List.mem_filter.1 hx).1, fun x hx => Nat.le_trans ?_ (h.2.2 x (List.mem_filter.1 hx).1)⟩
  exact List.Sublist.countP_le List.filter_sublist
theorem WOk.take {t : List Wt} (h : WOk t) (n : Nat) : WOk (t.take n) := by
  refine ⟨h.1.sublist (List.take_sublist _ _), fun x hx => h.2.1 x (List.mem_of_mem_take hx), fun x hx => Nat.le_trans ?_ (h.2.2 x (List.mem_of_mem_take hx))⟩
  exact List.Sublist.countP_le (List.take_sublist _ _)
theorem WOk.ins {t : List Wt} {x : Wt} (h : WOk t) (hr : wRight x = true) (hx : x ∉ t) (hc : ¬ 8 ≤ wOf x.client t) : WOk (wIns x t) := by
  refine ⟨wIns_srt h.1 hx, fun z hz => ?_, fun z hz => ?_⟩
  · rcases mem_wIns.1 hz with rfl | hz
    · exact hr
    · exact h.2.1 z hz
  · rw [wOf_ins]
    split
    · rename_i e
      rw [← e]; omega
    · exact wOf_all h _
theorem WOk.add {t : List Wt} (h : WOk t) (x : Wt) : WOk (wAdd x t).1 := by
  unfold wAdd
  split
  · exact h
  · rename_i hr
    split
    · exact h
    · rename_i hx
      split
      · exact h
      · rename_i hc
        exact h.ins (by simpa using hr) hx hc
theorem wSum (t : List Wt) (h : ∀ x ∈ t, wRight x = true) : t.length = wOf 0 t + wOf 1 t + wOf 2 t + wOf 3 t + wOf 4 t + wOf 5 t + wOf 6 t + wOf 7 t := by
  induction t with
  | nil => rfl
  | cons x r ih =>
    have ih := ih fun y hy => h y (List.mem_cons_of_mem _ hy)
    obtain ⟨h0, h1⟩ := wRight_client (h x (List.mem_cons_self ..))
    unfold wOf at ih ⊢
    simp only [List.countP_cons, List.length_cons, decide_eq_true_eq]
    rcases (show x.client = 0 ∨ x.client = 1 ∨ x.client = 2 ∨ x.client = 3 ∨ x.client = 4 ∨ x.client = 5 ∨ x.client = 6 ∨ x.client = 7 by omega) with e | e | e | e | e | e | e | e <;> simp [e] <;> omega
theorem WOk.len {t : List Wt} (h : WOk t) : t.length ≤ 64 := by
  have h1 := wSum t h.2.1
  have := wOf_all h 0; have := wOf_all h 1; have := wOf_all h 2; have := wOf_all h 3
  have := wOf_all h 4; have := wOf_all h 5; have := wOf_all h 6; have := wOf_all h 7
  omega
end Go.Proofs.YtbppokdaehaocaaDoor
