/-
  Paths in their order: lists that are put in their place, looked up, sorted. Plain lemmas; no statement.
-/
import Derived.Test.YtgppclmofphlfaaGreatDoorTreePlain
import Derived.Sort.Walk0
import Derived.Sort.KeysCollected
namespace Go.Proofs.YtgppclmofphlfaaGreatDoor
set_option maxRecDepth 100000
open Go.RowKit
set_option linter.unusedVariables false

/-- ahead of, byte by byte -/
abbrev lb (x y : List UInt8) : Prop := Op.bytesLess x y = true
theorem bb_eq : ∀ x y : List UInt8, bytesBefore x y = Op.bytesLess x y
  | [], [] => rfl
  | [], _ :: _ => rfl
  | _ :: _, [] => rfl
  | a :: x, b :: y => by
    show (decide (a < b) || (a == b && bytesBefore x y)) = (decide (a < b) || (a == b && Op.bytesLess x y))
    rw [bb_eq x y]
theorem lb_cons {a b : UInt8} {x y : List UInt8} : lb (a :: x) (b :: y) ↔ a < b ∨ (a = b ∧ lb x y) := by
  show (decide (a < b) || (a == b && Op.bytesLess x y)) = true ↔ _
  simp [lb]
theorem lb_irr : ∀ x : List UInt8, ¬ lb x x
  | [] => by simp [lb, Op.bytesLess]
  | a :: x => by
    rw [lb_cons]
    rintro (h | ⟨_, h⟩)
    · exact absurd h (UInt8.lt_irrefl a)
    · exact lb_irr x h
theorem lb_trans : ∀ {x y z : List UInt8}, lb x y → lb y z → lb x z
  | x, y, [], _, h => by cases y <;> simp [lb, Op.bytesLess] at h
  | [], y, c :: z, _, _ => rfl
  | a :: x, [], c :: z, h, _ => by simp [lb, Op.bytesLess] at h
  | a :: x, b :: y, c :: z, h, k => by
    rw [lb_cons] at h k ⊢
    rcases h with h | ⟨rfl, h⟩ <;> rcases k with k | ⟨rfl, k⟩
    · exact .inl (UInt8.lt_trans h k)
    · exact .inl h
    · exact .inl k
    · exact .inr ⟨rfl, lb_trans h k⟩
theorem lb_total : ∀ (x y : List UInt8), x ≠ y → lb x y ∨ lb y x
  | [], [], h => absurd rfl h
  | [], _ :: _, _ => .inl rfl
  | _ :: _, [], _ => .inr rfl
  | a :: x, b :: y, h => by
    rw [lb_cons, lb_cons]
    rcases Nat.lt_trichotomy a.toNat b.toNat with e | e | e
    · exact .inl (.inl (UInt8.lt_iff_toNat_lt.2 e))
    · have hab : a = b := UInt8.toNat_inj.1 e
      subst hab
      rcases lb_total x y (fun e => h (by rw [e])) with q | q
      · exact .inl (.inr ⟨rfl, q⟩)
      · exact .inr (.inr ⟨rfl, q⟩)
    · exact .inr (.inl (UInt8.lt_iff_toNat_lt.2 e))
theorem lb_asym {x y : List UInt8} (h : lb x y) : ¬ lb y x := fun k => lb_irr _ (lb_trans h k)
theorem lb_ne {x y : List UInt8} (h : lb x y) : x ≠ y := fun e => lb_irr y (by rw [e] at h; exact h)

/-- nodes by rising paths -/
def Srt (t : List Lf) : Prop := t.Pairwise fun x y => lb x.path y.path
section
variable {α β : Type}
/-- an element in its place -/
def kIns (f : α → List UInt8) (x : α) : List α → List α
  | [] => [x]
  | y :: r => if Op.bytesLess (f x) (f y) = true then x :: y :: r else y :: kIns f x r
/-- an element in its place, in place of the one of its name -/
def kPut (f : α → List UInt8) (x : α) (l : List α) : List α := kIns f x (l.filter fun y => decide (f y ≠ f x))
theorem kIns_map (f : β → List UInt8) (g : α → β) (x : α) : ∀ l : List α, (kIns (fun a => f (g a)) x l).map g = kIns f (g x) (l.map g)
  | [] => rfl
  | y :: r => by
    show (if _ then _ else _ : List α).map g = (if Op.bytesLess (f (g x)) (f (g y)) = true then g x :: g y :: r.map g else g y :: kIns f (g x) (r.map g))
    split
    · rfl
    · rw [← kIns_map f g x r]; rfl
theorem kPut_map (f : β → List UInt8) (g : α → β) (x : α) (l : List α) : (kPut (fun a => f (g a)) x l).map g = kPut f (g x) (l.map g) := by
  unfold kPut
  rw [kIns_map, List.filter_map]
  rfl
theorem mem_kIns (f : α → List UInt8) (x y : α) : ∀ l : List α, y ∈ kIns f x l ↔ y = x ∨ y ∈ l
  | [] => by simp [kIns]
  | z :: r => by
    unfold kIns
    split
    · simp
    · rw [List.mem_cons, mem_kIns f x y r, List.mem_cons]
      constructor
      · rintro (h | h | h) <;> simp [h]
      · rintro (h | h | h) <;> simp [h]
theorem mem_kPut (f : α → List UInt8) (x y : α) (l : List α) : y ∈ kPut f x l ↔ y = x ∨ (y ∈ l ∧ f y ≠ f x) := by
  unfold kPut
  rw [mem_kIns, List.mem_filter, decide_eq_true_iff]
theorem kIns_sorted (f : α → List UInt8) (x : α) : ∀ l : List α, l.Pairwise (fun a b => lb (f a) (f b)) → (∀ y ∈ l, f y ≠ f x) → (kIns f x l).Pairwise (fun a b => lb (f a) (f b))
  | [], _, _ => by simp [kIns]
  | y :: r, h, hn => by
    obtain ⟨h1, h2⟩ := List.pairwise_cons.1 h
    unfold kIns
    split
    · rename_i hb
      refine List.pairwise_cons.2 ⟨fun z hz => ?_, h⟩
      rcases List.mem_cons.1 hz with rfl | hz
      · exact hb
      · exact lb_trans hb (h1 z hz)
    · rename_i hb
      refine List.pairwise_cons.2 ⟨fun z hz => ?_, kIns_sorted f x r h2 fun z hz => hn z (List.mem_cons_of_mem _ hz)⟩
      rcases (mem_kIns f x z r).1 hz with rfl | hz
      · exact (lb_total _ _ (hn y (List.mem_cons_self ..))).resolve_right hb
      · exact h1 z hz
theorem kPut_sorted (f : α → List UInt8) (x : α) (l : List α) (h : l.Pairwise (fun a b => lb (f a) (f b))) : (kPut f x l).Pairwise (fun a b => lb (f a) (f b)) :=
  kIns_sorted f x _ (h.filter _) fun y hy => by simpa using (List.mem_filter.1 hy).2
theorem len_kIns (f : α → List UInt8) (x : α) : ∀ l : List α, (kIns f x l).length = l.length + 1
  | [] => rfl
  | y :: r => by
    unfold kIns
    split
    · rfl
    · simp [len_kIns f x r]
theorem len_kPut_le (f : α → List UInt8) (x : α) (l : List α) : (kPut f x l).length ≤ l.length + 1 := by
  unfold kPut
  rw [len_kIns]
  have := List.length_filter_le (fun y => decide (f y ≠ f x)) l
  omega
end
/-- the reference's word is the map's -/
theorem tGo_true (l : Lf) : ∀ t : List Lf, tGo l true t = t.filter fun y => decide (y.path ≠ l.path)
  | [] => rfl
  | x :: r => by
    unfold tGo
    by_cases h : x.path = l.path
    · rw [if_pos h, List.filter_cons_of_neg (by simp [h]), tGo_true l r]
    · rw [if_neg h, if_neg (by simp), List.filter_cons_of_pos (by simp [h]), tGo_true l r]
theorem tWith_put (l : Lf) : ∀ t : List Lf, tWith l t = kPut Lf.path l t
  | [] => rfl
  | x :: r => by
    have ih := tWith_put l r
    unfold tWith kPut at ih ⊢
    unfold tGo
    by_cases h : x.path = l.path
    · rw [if_pos h, List.filter_cons_of_neg (by simp [h]), ih]
    · rw [if_neg h, List.filter_cons_of_pos (by simp [h])]
      unfold kIns
      by_cases hb : Op.bytesLess l.path x.path = true
      · rw [if_pos ⟨rfl, hb⟩, if_pos hb, tGo_true]
      · rw [if_neg (fun e => hb e.2), if_neg hb, ih]
theorem tWith_srt {t : List Lf} (l : Lf) (h : Srt t) : Srt (tWith l t) := by
  rw [tWith_put]
  exact kPut_sorted Lf.path l t h
theorem mem_tWith (l y : Lf) (t : List Lf) : y ∈ tWith l t ↔ y = l ∨ (y ∈ t ∧ y.path ≠ l.path) := by
  rw [tWith_put]
  exact mem_kPut Lf.path l y t
/-- where a node stands -/
theorem tAt_mem {p : List UInt8} : ∀ {t : List Lf} {k : Nat}, tAt p t = some k → ∃ l, t[k]? = some l ∧ l.path = p
  | [], k, h => by simp [tAt] at h
  | x :: r, k, h => by
    unfold tAt at h
    split at h
    · rename_i e
      obtain rfl := Option.some.inj h
      exact ⟨x, rfl, e⟩
    · obtain ⟨j, hj, rfl⟩ := Option.map_eq_some_iff.1 h
      obtain ⟨l, h1, h2⟩ := tAt_mem hj
      exact ⟨l, by simpa using h1, h2⟩
theorem tAt_no {p : List UInt8} : ∀ {t : List Lf}, tAt p t = none ↔ ∀ l ∈ t, l.path ≠ p
  | [] => by simp [tAt]
  | x :: r => by
    unfold tAt
    split
    · rename_i e
      simp [e]
    · rename_i e
      rw [Option.map_eq_none_iff, tAt_no]
      simp [e]
theorem srt_at {t : List Lf} (h : Srt t) {j k : Nat} {x y : Lf} (hx : t[j]? = some x) (hy : t[k]? = some y) : j < k ↔ lb x.path y.path := by
  have mono : ∀ {j k : Nat} {x y : Lf}, t[j]? = some x → t[k]? = some y → j < k → lb x.path y.path := by
    intro j k x y hx hy hlt
    obtain ⟨h1, rfl⟩ := List.getElem?_eq_some_iff.1 hx
    obtain ⟨h2, rfl⟩ := List.getElem?_eq_some_iff.1 hy
    exact List.pairwise_iff_getElem.1 h j k h1 h2 hlt
  constructor
  · exact mono hx hy
  · intro hb
    rcases Nat.lt_trichotomy j k with e | e | e
    · exact e
    · subst e
      rw [hx] at hy
      obtain rfl := Option.some.inj hy
      exact absurd hb (lb_irr _)
    · exact absurd (mono hy hx e) (lb_asym hb)
theorem srt_same {t : List Lf} (h : Srt t) {j k : Nat} {x y : Lf} (hx : t[j]? = some x) (hy : t[k]? = some y) (e : x.path = y.path) : j = k := by
  rcases Nat.lt_trichotomy j k with q | q | q
  · exact absurd ((srt_at h hx hy).1 q) (by rw [e]; exact lb_irr _)
  · exact q
  · exact absurd ((srt_at h hy hx).1 q) (by rw [e]; exact lb_irr _)
theorem srt_uniq {t : List Lf} (h : Srt t) {x y : Lf} (hx : x ∈ t) (hy : y ∈ t) (e : x.path = y.path) : x = y := by
  obtain ⟨j, h1, rfl⟩ := List.getElem_of_mem hx
  obtain ⟨k, h2, rfl⟩ := List.getElem_of_mem hy
  have := srt_same h (List.getElem?_eq_getElem h1) (List.getElem?_eq_getElem h2) e
  subst this
  rfl
theorem tAt_of {t : List Lf} (h : Srt t) {k : Nat} {l : Lf} (hl : t[k]? = some l) : tAt l.path t = some k := by
  cases e : tAt l.path t with
  | none => exact absurd rfl (tAt_no.1 e l (List.mem_of_getElem? hl))
  | some j =>
    obtain ⟨x, h1, h2⟩ := tAt_mem e
    rw [srt_same h h1 hl h2]
/-- a node less -/
theorem drop_filter {t : List Lf} (h : Srt t) {k : Nat} {l : Lf} (hl : t[k]? = some l) : t.take k ++ t.drop (k + 1) = t.filter fun y => decide (y.path ≠ l.path) := by
  obtain ⟨hk, e⟩ := List.getElem?_eq_some_iff.1 hl
  have h1 : t = t.take k ++ l :: t.drop (k + 1) := by rw [← e, List.getElem_cons_drop, List.take_append_drop]
  conv => rhs; rw [h1]
  have hall : ∀ j y, t[j]? = some y → j ≠ k → y.path ≠ l.path := fun j y hy hj he => hj (srt_same h hy hl he)
  rw [List.filter_append, List.filter_cons_of_neg (by simp)]
  rw [List.filter_eq_self.2, List.filter_eq_self.2]
  · intro y hy
    obtain ⟨j, hj, rfl⟩ := List.getElem_of_mem hy
    rw [decide_eq_true_iff]
    refine hall (k + 1 + j) _ ?_ (by omega)
    rw [List.getElem_drop]
    exact List.getElem?_eq_getElem _
  · intro y hy
    obtain ⟨j, hj, rfl⟩ := List.getElem_of_mem hy
    rw [decide_eq_true_iff]
    refine hall j _ ?_ (by simp at hj; omega)
    rw [List.getElem_take]
    exact List.getElem?_eq_getElem _
/-- sorted, a row that is a permutation of rising paths is these -/
theorem sorted_paths {t : List Lf} (h : Srt t) {ss : List (List UInt8)} (hp : ss.Perm (t.map (·.path))) : ss.mergeSort (fun x y => decide (x ≤ y)) = t.map (·.path) := by
  rw [mergeSort_of_perm hp]
  refine List.mergeSort_of_pairwise ?_
  rw [List.pairwise_map]
  refine h.imp fun hab => ?_
  have hn : ¬ lb _ _ := lb_asym hab
  rw [lb, Go.Proofs.bytesLess_eq] at hn
  rw [decide_eq_true_iff] at hn ⊢
  exact List.not_lt.1 hn
theorem tKids_snoc (p : List UInt8) (t : List Lf) (x : Lf) : tKids p (t ++ [x]) = tKids p t ++ (if parentP x.path = some p then [x.path] else []) := by
  unfold tKids
  rw [List.filter_append, List.map_append]
  congr 1
  by_cases h : parentP x.path = some p <;> simp [h]
theorem tKids_le (p : List UInt8) (t : List Lf) : (tKids p t).length ≤ t.length := by
  unfold tKids
  rw [List.length_map]
  exact List.length_filter_le _ _
theorem parent_le {p up : List UInt8} (h : parentP p = some up) : p.length ≤ 64 := by
  rcases path_cases p with e | ⟨rfl, e⟩ | ⟨_, _, _, _, _, _, e⟩
  · rw [(belowP_none e).2.1] at h; cases h
  · simp
  · exact e
end Go.Proofs.YtgppclmofphlfaaGreatDoor
