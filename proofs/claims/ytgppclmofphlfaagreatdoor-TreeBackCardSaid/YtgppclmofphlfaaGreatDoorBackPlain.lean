/-
  A node made, set and dropped again. Plain lemmas; no statement.
-/
import Derived.Test.YtgppclmofphlfaaGreatDoorOwnedPlain
import Derived.Test.YtgppclmofphlfaaGreatDoorTreeDev6
namespace Go.Proofs.YtgppclmofphlfaaGreatDoor
set_option maxRecDepth 100000
set_option linter.unusedVariables false

theorem at_new (l : Lf) {t : List Lf} (h : Srt t) : ∃ k, tAt l.path (tWith l t) = some k ∧ (tWith l t).getD k lfRoot = l := at_mem (tWith_srt l h) ((mem_tWith l l t).2 (.inl rfl))
/-- a node in the place of the one of its path: all others stand -/
theorem tWith_map {b : Lf} : ∀ {t : List Lf}, Srt t → (∃ a ∈ t, a.path = b.path) → tWith b t = t.map fun x => if x.path = b.path then b else x
  | [], _, h => by obtain ⟨a, ha, _⟩ := h; cases ha
  | x :: r, hs, h => by
    have hs' := List.pairwise_cons.1 hs
    by_cases hx : x.path = b.path
    · have hr : ∀ y ∈ r, y.path ≠ b.path := fun y hy e => lb_ne (hs'.1 y hy) (by rw [hx, e])
      have hm : r.map (fun x => if x.path = b.path then b else x) = r := by
        conv => rhs; rw [← List.map_id r]
        exact List.map_congr_left fun y hy => if_neg (hr y hy)
      have hf : (x :: r).filter (fun y => decide (y.path ≠ b.path)) = r := by
        rw [List.filter_cons_of_neg (by simp [hx])]
        exact List.filter_eq_self.2 fun y hy => by simpa using hr y hy
      rw [List.map_cons, if_pos hx, hm, tWith_put]
      unfold kPut
      rw [hf]
      cases r with
      | nil => rfl
      | cons y r =>
        have : lb b.path y.path := by rw [← hx]; exact hs'.1 y List.mem_cons_self
        show (if Op.bytesLess b.path y.path = true then b :: y :: r else _) = _
        rw [if_pos this]
    · obtain ⟨a, ha, he⟩ := h
      have har : a ∈ r := by
        rcases List.mem_cons.1 ha with rfl | ha
        · exact absurd he hx
        · exact ha
      have hlt : lb x.path b.path := by rw [← he]; exact hs'.1 a har
      have ih := tWith_map hs'.2 ⟨a, har, he⟩
      rw [List.map_cons, if_neg hx, ← ih]
      show tGo b false (x :: r) = x :: tGo b false r
      conv => lhs; unfold tGo
      rw [if_neg hx, if_neg (fun hh => lb_asym hlt hh.2)]
/-- what Make comes to: nothing, or a node more -/
structure MadeP (t : List Lf) (p data : List UInt8) (numbered : Bool) (q : List UInt8) (a : Lf) : Prop where
  mem : a ∈ t
  up : parentP q = some a.path
  own : a.own = -1
  no : ∀ x ∈ t, x.path ≠ q
  path : (partsOf q).isSome = true
  small : data.length ≤ 128
  len : t.length < 32
  num : numbered = true → 0 ≤ a.next ∧ a.next ≤ 99999
def upB (numbered : Bool) (a : Lf) : Lf := if numbered then { a with next := a.next + 1 } else a
theorem made_cases {n : Nat} {t : List Lf} (h : TOk n t) (p data : List UInt8) (numbered : Bool) :
    (∃ e : Int, e ≠ 0 ∧ tMake p data (-1) 5 numbered t = (t, [], e)) ∨
    ∃ q a, MadeP t p data numbered q a ∧ tMake p data (-1) 5 numbered t = (tWith ⟨q, data, 0, -1, 0, 5⟩ (tWith (upB numbered a) t), q, 0) := by
  unfold tMake
  cases hu : parentP p with
  | none => exact .inl ⟨90, by decide, rfl⟩
  | some up =>
    simp only
    by_cases hd : data.length > 128
    · rw [if_pos hd]; exact .inl ⟨104, by decide, rfl⟩
    rw [if_neg hd]
    cases hk : tAt up t with
    | none => exact .inl ⟨100, by decide, rfl⟩
    | some k =>
      obtain ⟨a, hka, hap⟩ := tAt_mem hk
      have hg : t.getD k lfRoot = a := by rw [List.getD_eq_getElem?_getD, hka]; rfl
      have ha : a ∈ t := List.mem_of_getElem? hka
      simp only [hg]
      by_cases ho : a.own ≠ -1
      · rw [if_pos ho]; exact .inl ⟨105, by decide, rfl⟩
      rw [if_neg ho]
      have ho' : a.own = -1 := Decidable.not_not.1 ho
      cases hq : (if numbered = true then numberedP p a.next else some p) with
      | none => exact .inl ⟨90, by decide, rfl⟩
      | some q =>
        simp only
        by_cases ht : (tAt q t).isSome = true
        · rw [if_pos ht]; exact .inl ⟨101, by decide, rfl⟩
        rw [if_neg ht]
        have ht' : tAt q t = none := by cases hh : tAt q t with
          | none => rfl
          | some j => rw [hh] at ht; exact absurd rfl ht
        by_cases hl : t.length ≥ 32
        · rw [if_pos hl]; exact .inl ⟨104, by decide, rfl⟩
        rw [if_neg hl]
        refine .inr ⟨q, a, ⟨ha, ?_, ho', tAt_no.1 ht', ?_, by omega, by omega, ?_⟩, rfl⟩
        · cases numbered with
          | false =>
            rw [if_neg (by simp)] at hq
            cases hq
            rw [hap]; exact hu
          | true =>
            rw [if_pos rfl] at hq
            rw [hap]; exact numbered_parent hq hu
        · cases numbered with
          | false =>
            rw [if_neg (by simp)] at hq
            cases hq
            unfold parentP at hu
            cases hh : partsOf p with
            | none => rw [hh] at hu; cases hu
            | some _ => rfl
          | true =>
            rw [if_pos rfl] at hq
            exact (numbered_some hq).1
        · intro hn
          subst hn
          rw [if_pos rfl] at hq
          exact (numbered_some hq).2
section
variable {n : Nat} {t : List Lf} {p data q : List UInt8} {numbered : Bool} {a : Lf}
theorem upB_path (numbered : Bool) (a : Lf) : (upB numbered a).path = a.path := by cases numbered <;> rfl
theorem upB_own (numbered : Bool) (a : Lf) : (upB numbered a).own = a.own := by cases numbered <;> rfl
/-- the node with what it holds, in its tree -/
def T1 (t : List Lf) (numbered : Bool) (a : Lf) (q data : List UInt8) (v : Int) : List Lf := tWith ⟨q, data, v, -1, 0, 5⟩ (tWith (upB numbered a) t)
theorem t1_srt (h : TOk n t) (data : List UInt8) (v : Int) : Srt (T1 t numbered a q data v) := tWith_srt _ (tWith_srt _ h.srt)
theorem t1_len (h : TOk n t) (m : MadeP t p data numbered q a) (d : List UInt8) (v : Int) : (T1 t numbered a q d v).length = t.length + 1 := by
  unfold T1
  rw [len_new (l := ⟨q, d, v, -1, 0, 5⟩), len_swap h.srt m.mem (upB_path numbered a).symm]
  refine tAt_no.2 fun x hx e => ?_
  rcases (mem_tWith _ x t).1 hx with rfl | hx
  · rw [upB_path] at e; exact m.no a m.mem e
  · exact m.no x hx.1 e
theorem t1_get (h : TOk n t) (m : MadeP t p data numbered q a) (d : List UInt8) (v : Int) : tGet q (T1 t numbered a q d v) = (some ⟨q, d, v, -1, 0, 5⟩, 0) := by
  obtain ⟨k, hk, hg⟩ := at_new ⟨q, d, v, -1, 0, 5⟩ (tWith_srt (upB numbered a) h.srt)
  rw [tGet_at m.path]
  show (match tAt q (T1 t numbered a q d v) with | none => _ | some k => _) = _
  have hk' : tAt q (T1 t numbered a q d v) = some k := hk
  rw [hk']
  show (some ((T1 t numbered a q d v).getD k lfRoot), (0 : Int)) = _
  rw [show (T1 t numbered a q d v).getD k lfRoot = _ from hg]
theorem t1_again (h : TOk n t) (d d' : List UInt8) (v v' : Int) : tWith ⟨q, d', v', -1, 0, 5⟩ (T1 t numbered a q d v) = T1 t numbered a q d' v' := by
  unfold T1
  generalize tWith (upB numbered a) t = s
  rw [tWith_put, tWith_put, tWith_put]
  have hx : ∀ l : List Lf, (kIns Lf.path ⟨q, d, v, -1, 0, 5⟩ (l.filter fun y => decide (y.path ≠ q))).filter (fun y => decide (y.path ≠ q)) = l.filter fun y => decide (y.path ≠ q) := by
    intro l
    have hh : ∀ l : List Lf, (∀ y ∈ l, y.path ≠ q) → (kIns Lf.path ⟨q, d, v, -1, 0, 5⟩ l).filter (fun y => decide (y.path ≠ q)) = l := by
      intro l
      induction l with
      | nil => intro _; simp [kIns]
      | cons y r ih =>
        intro hy
        unfold kIns
        have h1 := hy y List.mem_cons_self
        have h2 := fun z hz => hy z (List.mem_cons_of_mem _ hz)
        split
        · rw [List.filter_cons_of_neg (by simp)]
          exact List.filter_eq_self.2 fun z hz => by simpa using hy z hz
        · rw [List.filter_cons_of_pos (by simpa using h1), ih h2]
    exact hh _ fun y hy => by simpa using (List.mem_filter.1 hy).2
  unfold kPut
  show kIns Lf.path _ (List.filter (fun y => decide (y.path ≠ q)) (kIns Lf.path ⟨q, d, v, -1, 0, 5⟩ (List.filter (fun y => decide (y.path ≠ q)) _))) = kIns Lf.path _ (List.filter (fun y => decide (y.path ≠ q)) _)
  rw [hx]
theorem t1_set (h : TOk n t) (m : MadeP t p data numbered q a) (d : List UInt8) : tSet q [111, 116, 104, 101, 114] 0 (T1 t numbered a q d 0) = (T1 t numbered a q [111, 116, 104, 101, 114] 1, 1, 0) := by
  rw [tSet_has (t1_get h m d 0), if_neg (by simp), if_neg (by simp)]
  show (tWith ⟨q, [111, 116, 104, 101, 114], 1, -1, 0, 5⟩ _, (1 : Int), (0 : Int)) = _
  rw [t1_again h]
theorem t1_set2 (h : TOk n t) (m : MadeP t p data numbered q a) (d : List UInt8) : tSet q [] 0 (T1 t numbered a q d 1) = (T1 t numbered a q d 1, 0, 102) := by
  rw [tSet_has (t1_get h m d 1), if_pos (by simp)]
theorem made_ne (m : MadeP t p data numbered q a) : q ≠ [47] := by
  rintro rfl
  have := m.up
  cases this
theorem t1_drop0 (h : TOk n t) (m : MadeP t p data numbered q a) (d : List UInt8) : tDrop q 0 (T1 t numbered a q d 1) = (T1 t numbered a q d 1, 102) := by
  rw [tDrop_has (made_ne m) (t1_srt h d 1) (t1_get h m d 1), if_pos (by simp)]
theorem t1_drop1 (h : TOk n t) (m : MadeP t p data numbered q a) (d : List UInt8) : tDrop q 1 (T1 t numbered a q d 1) = (tWith (upB numbered a) t, 0) := by
  have hnq : ∀ x ∈ tWith (upB numbered a) t, x.path ≠ q := fun x hx e => by
    rcases (mem_tWith _ x t).1 hx with rfl | hx
    · rw [upB_path] at e; exact m.no a m.mem e
    · exact m.no x hx.1 e
  have hpar : ∀ x ∈ t, parentP x.path ≠ some q := fun x hx e => by
    have hne : x.path ≠ [47] := fun e' => by rw [e'] at e; cases e
    obtain ⟨z, hz, hz2, _⟩ := h.par x hx hne
    exact m.no z hz (Option.some.inj (e.symm.trans hz2)).symm
  have hnk : tKids q (T1 t numbered a q d 1) = [] := by
    unfold tKids
    rw [List.filter_eq_nil_iff.2, List.map_nil]
    intro x hx
    rw [decide_eq_true_iff]
    intro e
    rcases (mem_tWith _ x _).1 hx with rfl | ⟨hx, _⟩
    · have e2 : parentP q = some q := e
      rw [m.up] at e2
      exact m.no a m.mem (Option.some.inj e2)
    · rcases (mem_tWith _ x t).1 hx with rfl | ⟨hx, _⟩
      · rw [upB_path] at e; exact hpar a m.mem e
      · exact hpar x hx e
  rw [tDrop_has (made_ne m) (t1_srt h d 1) (t1_get h m d 1), if_neg (by simp), if_neg (fun hh => hh hnk)]
  congr 1
  unfold T1
  rw [tWith_put]
  have hf : (tWith (upB numbered a) t).filter (fun y => decide (y.path ≠ q)) = tWith (upB numbered a) t := List.filter_eq_self.2 fun y hy => by simpa using hnq y hy
  unfold kPut
  show List.filter _ (kIns Lf.path ⟨q, d, 1, -1, 0, 5⟩ (List.filter (fun y => decide (y.path ≠ q)) _)) = _
  rw [hf]
  have hh : ∀ l : List Lf, (∀ y ∈ l, y.path ≠ q) → (kIns Lf.path ⟨q, d, 1, -1, 0, 5⟩ l).filter (fun y => decide (y.path ≠ q)) = l := by
    intro l
    induction l with
    | nil => intro _; simp [kIns]
    | cons y r ih =>
      intro hy
      unfold kIns
      have h1 := hy y List.mem_cons_self
      split
      · rw [List.filter_cons_of_neg (by simp)]
        exact List.filter_eq_self.2 fun z hz => by simpa using hy z hz
      · rw [List.filter_cons_of_pos (by simpa using h1), ih fun z hz => hy z (List.mem_cons_of_mem _ hz)]
  exact hh _ hnq
/-- the parent's number taken back -/
def unB (numbered : Bool) (up : List UInt8) (x : Lf) : Lf := if x.path = up ∧ numbered = true then { x with next := IntKind.i64.wrap (x.next - 1) } else x
theorem t1_back (h : TOk n t) (m : MadeP t p data numbered q a) : (tWith (upB numbered a) t).map (unB numbered a.path) = t := by
  rw [tWith_map h.srt ⟨a, m.mem, (upB_path numbered a).symm⟩, List.map_map]
  conv => rhs; rw [← List.map_id t]
  refine List.map_congr_left fun x hx => ?_
  show unB numbered a.path (if x.path = (upB numbered a).path then upB numbered a else x) = x
  rw [upB_path]
  by_cases hp : x.path = a.path
  · have : x = a := srt_uniq h.srt hx m.mem hp
    subst this
    rw [if_pos rfl]
    cases hn : numbered with
    | false => unfold unB upB; simp
    | true =>
      have hb := h.next x hx
      have hw : IntKind.i64.wrap (x.next + 1 - 1) = x.next := by simp only [IntKind.wrap, IntKind.bits, IntKind.signed]; simp; omega
      unfold unB upB
      simp only [if_true, and_self, hw]
  · rw [if_neg hp]
    unfold unB
    rw [if_neg (fun hh => hp hh.1)]
end
end Go.Proofs.YtgppclmofphlfaaGreatDoor
