import Derived.Test.YtgppclmofphlfaaGreatDoorPathLem
import Derived.Sort.Walk0
import Derived.Sort.KeysCollected
import Derived.Test.YtgppclmofphlfaaGreatDoorRdrMem
import Derived.Test.YtgppclmofphlfaaGreatDoorPathUse
import Derived.Test.YtgppclmofphlfaaGreatDoorMRows
import Derived.Maps.OwnSet

/-
  Trees of nodes as plain lists: the document's answers. Plain words; no statement.
-/
namespace Go.Proofs.YtgppclmofphlfaaGreatDoor
set_option maxRecDepth 100000
set_option linter.unusedVariables false

/-- a node -/
structure Lf where
  path : List UInt8
  data : List UInt8
  ver : Int
  own : Int
  next : Int
  born : Int
deriving DecidableEq
def lfRoot : Lf := ⟨[47], [], 0, -1, 0, 0⟩
/-- where a path's node stands -/
def tAt (p : List UInt8) : List Lf → Option Nat
  | [] => none
  | x :: r => if x.path = p then some 0 else (tAt p r).map (· + 1)
/-- the list with this node in its place; put: it stands already -/
def tGo (l : Lf) : Bool → List Lf → List Lf
  | put, [] => if put then [] else [l]
  | put, x :: r => if x.path = l.path then tGo l put r else if put = false ∧ Op.bytesLess l.path x.path = true then l :: x :: tGo l true r else x :: tGo l put r
def tWith (l : Lf) (t : List Lf) : List Lf := tGo l false t
/-- a node's children -/
def tKids (p : List UInt8) (t : List Lf) : List (List UInt8) := (t.filter fun x => decide (parentP x.path = some p)).map (·.path)
def tOwned (os : List Int) (t : List Lf) : List (List UInt8) := (t.reverse.filter fun x => decide (x.own ∈ os)).map (·.path)
/-- what Make makes: a path, or an error's number -/
def tMake (p data : List UInt8) (own born : Int) (numbered : Bool) (t : List Lf) : List Lf × List UInt8 × Int :=
  match parentP p with
  | none => (t, [], 90)
  | some up =>
    if data.length > 128 then (t, [], 104) else
    match tAt up t with
    | none => (t, [], 100)
    | some k =>
      let a := t.getD k lfRoot
      if a.own ≠ -1 then (t, [], 105) else
      match (if numbered then numberedP p a.next else some p) with
      | none => (t, [], 90)
      | some q =>
        if (tAt q t).isSome then (t, [], 101) else
        if t.length ≥ 32 then (t, [], 104) else
        (tWith ⟨q, data, 0, max own (-1), 0, max born 0⟩ (tWith (if numbered then { a with next := a.next + 1 } else a) t), q, 0)
def tDrop (p : List UInt8) (v : Int) (t : List Lf) : List Lf × Int :=
  match parentP p with
  | none => (t, 90)
  | some up => match tAt p t with
    | none => (t, 100)
    | some k => if 0 ≤ v ∧ (t.getD k lfRoot).ver ≠ v then (t, 102) else if tKids p t ≠ [] then (t, 103) else (t.take k ++ t.drop (k + 1), 0)
def tSet (p data : List UInt8) (v : Int) (t : List Lf) : List Lf × Int × Int :=
  if partsOf p = none then (t, 0, 90) else
  match tAt p t with
  | none => (t, 0, 100)
  | some k =>
    let a := t.getD k lfRoot
    if 0 ≤ v ∧ a.ver ≠ v then (t, 0, 102) else if data.length > 128 then (t, 0, 104) else
    (tWith { a with data := data, ver := IntKind.i64.wrap (a.ver + 1) } t, IntKind.i64.wrap (a.ver + 1), 0)
def tGet (p : List UInt8) (t : List Lf) : Option Lf × Int :=
  if partsOf p = none then (none, 90) else match tAt p t with
    | none => (none, 100)
    | some k => (some (t.getD k lfRoot), 0)
/-- is the node at place k such as Load takes? -/
def tRight (t : List Lf) (k : Nat) : Bool :=
  let l := t.getD k lfRoot
  decide (-1 ≤ l.own ∧ 0 ≤ l.ver ∧ 0 ≤ l.next ∧ 0 ≤ l.born ∧ l.data.length ≤ 128) && (k == 0 ||
    (Op.bytesLess (t.getD (k - 1) lfRoot).path l.path && match parentP l.path with
      | none => false
      | some up => match tAt up t with
        | none => false
        | some j => decide ((t.getD j lfRoot).own = -1)))
def tLoads (t : List Lf) : Bool :=
  decide (1 ≤ t.length ∧ t.length ≤ 32) && decide ((t.getD 0 lfRoot).path = [47] ∧ (t.getD 0 lfRoot).own = -1 ∧ (t.getD 0 lfRoot).born = 0) && (List.range t.length).all (tRight t)
end Go.Proofs.YtgppclmofphlfaaGreatDoor

/-
  Paths in their order: lists that are put in their place, looked up, sorted. Plain lemmas; no statement.
-/
namespace Go.Proofs.YtgppclmofphlfaaGreatDoor
set_option maxRecDepth 100000
open Go.RowKit
set_option linter.unusedVariables false

/-- ahead of, byte by byte -/
abbrev lb (x y : List UInt8) : Prop := Op.bytesLess x y = true
theorem bb_eq : ∀ x y : List UInt8, bytesBefore x y = Op.bytesLess x y
  | [], [] => rfl
  | [], _ :: _ => rfl
  | _ :: _, [] => rfl
  | a :: x, b :: y => by
    show (decide (a < b) || (a == b && bytesBefore x y)) = (decide (a < b) || (a == b && Op.bytesLess x y))
    rw [bb_eq x y]
theorem lb_cons {a b : UInt8} {x y : List UInt8} : lb (a :: x) (b :: y) ↔ a < b ∨ (a = b ∧ lb x y) := by
  show (decide (a < b) || (a == b && Op.bytesLess x y)) = true ↔ _
  simp [lb]
theorem lb_irr : ∀ x : List UInt8, ¬ lb x x
  | [] => by simp [lb, Op.bytesLess]
  | a :: x => by
    rw [lb_cons]
    rintro (h | ⟨_, h⟩)
    · exact absurd h (UInt8.lt_irrefl a)
    · exact lb_irr x h
theorem lb_trans : ∀ {x y z : List UInt8}, lb x y → lb y z → lb x z
  | x, y, [], _, h => by cases y <;> simp [lb, Op.bytesLess] at h
  | [], y, c :: z, _, _ => rfl
  | a :: x, [], c :: z, h, _ => by simp [lb, Op.bytesLess] at h
  | a :: x, b :: y, c :: z, h, k => by
    rw [lb_cons] at h k ⊢
    rcases h with h | ⟨rfl, h⟩ <;> rcases k with k | ⟨rfl, k⟩
    · exact .inl (UInt8.lt_trans h k)
    · exact .inl h
    · exact .inl k
    · exact .inr ⟨rfl, lb_trans h k⟩
theorem lb_total : ∀ (x y : List UInt8), x ≠ y → lb x y ∨ lb y x
  | [], [], h => absurd rfl h
  | [], _ :: _, _ => .inl rfl
  | _ :: _, [], _ => .inr rfl
  | a :: x, b :: y, h => by
    rw [lb_cons, lb_cons]
    rcases Nat.lt_trichotomy a.toNat b.toNat with e | e | e
    · exact .inl (.inl (UInt8.lt_iff_toNat_lt.2 e))
    · have hab : a = b := UInt8.toNat_inj.1 e
      subst hab
      rcases lb_total x y (fun e => h (by rw [e])) with q | q
      · exact .inl (.inr ⟨rfl, q⟩)
      · exact .inr (.inr ⟨rfl, q⟩)
    · exact .inr (.inl (UInt8.lt_iff_toNat_lt.2 e))
theorem lb_asym {x y : List UInt8} (h : lb x y) : ¬ lb y x := fun k => lb_irr _ (lb_trans h k)
theorem lb_ne {x y : List UInt8} (h : lb x y) : x ≠ y := fun e => lb_irr y (by rw [e] at h; exact h)

/-- nodes by rising paths -/
def Srt (t : List Lf) : Prop := t.Pairwise fun x y => lb x.path y.path
section
variable {α β : Type}
/-- an element in its place -/
def kIns (f : α → List UInt8) (x : α) : List α → List α
  | [] => [x]
  | y :: r => if Op.bytesLess (f x) (f y) = true then x :: y :: r else y :: kIns f x r
/-- an element in its place, in place of the one of its name -/
def kPut (f : α → List UInt8) (x : α) (l : List α) : List α := kIns f x (l.filter fun y => decide (f y ≠ f x))
theorem kIns_map (f : β → List UInt8) (g : α → β) (x : α) : ∀ l : List α, (kIns (fun a => f (g a)) x l).map g = kIns f (g x) (l.map g)
  | [] => rfl
  | y :: r => by
    show (if _ then _ else _ : List α).map g = (if Op.bytesLess (f (g x)) (f (g y)) = true then g x :: g y :: r.map g else g y :: kIns f (g x) (r.map g))
    split
    · rfl
    · rw [← kIns_map f g x r]; rfl
theorem kPut_map (f : β → List UInt8) (g : α → β) (x : α) (l : List α) : (kPut (fun a => f (g a)) x l).map g = kPut f (g x) (l.map g) := by
  unfold kPut
  rw [kIns_map, List.filter_map]
  rfl
theorem mem_kIns (f : α → List UInt8) (x y : α) : ∀ l : List α, y ∈ kIns f x l ↔ y = x ∨ y ∈ l
  | [] => by simp [kIns]
  | z :: r => by
    unfold kIns
    split
    · simp
    · rw [List.mem_cons, mem_kIns f x y r, List.mem_cons]
      constructor
      · rintro (h | h | h) <;> simp [h]
      · rintro (h | h | h) <;> simp [h]
theorem mem_kPut (f : α → List UInt8) (x y : α) (l : List α) : y ∈ kPut f x l ↔ y = x ∨ (y ∈ l ∧ f y ≠ f x) := by
  unfold kPut
  rw [mem_kIns, List.mem_filter, decide_eq_true_iff]
theorem kIns_sorted (f : α → List UInt8) (x : α) : ∀ l : List α, l.Pairwise (fun a b => lb (f a) (f b)) → (∀ y ∈ l, f y ≠ f x) → (kIns f x l).Pairwise (fun a b => lb (f a) (f b))
  | [], _, _ => by simp [kIns]
  | y :: r, h, hn => by
    obtain ⟨h1, h2⟩ := List.pairwise_cons.1 h
    unfold kIns
    split
    · rename_i hb
      refine List.pairwise_cons.2 ⟨fun z hz => ?_, h⟩
      rcases List.mem_cons.1 hz with rfl | hz
      · exact hb
      · exact lb_trans hb (h1 z hz)
    · rename_i hb
      refine List.pairwise_cons.2 ⟨fun z hz => ?_, kIns_sorted f x r h2 fun z hz => hn z (List.mem_cons_of_mem _ hz)⟩
      rcases (mem_kIns f x z r).1 hz with rfl | hz
      · exact (lb_total _ _ (hn y (List.mem_cons_self ..))).resolve_right hb
      · exact h1 z hz
theorem kPut_sorted (f : α → List UInt8) (x : α) (l : List α) (h : l.Pairwise (fun a b => lb (f a) (f b))) : (kPut f x l).Pairwise (fun a b => lb (f a) (f b)) :=
  kIns_sorted f x _ (h.filter _) fun y hy => by simpa using (List.mem_filter.1 hy).2
theorem len_kIns (f : α → List UInt8) (x : α) : ∀ l : List α, (kIns f x l).length = l.length + 1
  | [] => rfl
  | y :: r => by
    unfold kIns
    split
    · rfl
    · simp [len_kIns f x r]
theorem len_kPut_le (f : α → List UInt8) (x : α) (l : List α) : (kPut f x l).length ≤ l.length + 1 := by
  unfold kPut
  rw [len_kIns]
  have := List.length_filter_le (fun y => decide (f y ≠ f x)) l
  omega
end
/-- the reference's word is the map's -/
theorem tGo_true (l : Lf) : ∀ t : List Lf, tGo l true t = t.filter fun y => decide (y.path ≠ l.path)
  | [] => rfl
  | x :: r => by
    unfold tGo
    by_cases h : x.path = l.path
    · rw [if_pos h, List.filter_cons_of_neg (by simp [h]), tGo_true l r]
    · rw [if_neg h, if_neg (by simp), List.filter_cons_of_pos (by simp [h]), tGo_true l r]
theorem tWith_put (l : Lf) : ∀ t : List Lf, tWith l t = kPut Lf.path l t
  | [] => rfl
  | x :: r => by
    have ih := tWith_put l r
    unfold tWith kPut at ih ⊢
    unfold tGo
    by_cases h : x.path = l.path
    · rw [if_pos h, List.filter_cons_of_neg (by simp [h]), ih]
    · rw [if_neg h, List.filter_cons_of_pos (by simp [h])]
      unfold kIns
      by_cases hb : Op.bytesLess l.path x.path = true
      · rw [if_pos ⟨rfl, hb⟩, if_pos hb, tGo_true]
      · rw [if_neg (fun e => hb e.2), if_neg hb, ih]
theorem tWith_srt {t : List Lf} (l : Lf) (h : Srt t) : Srt (tWith l t) := by
  rw [tWith_put]
  exact kPut_sorted Lf.path l t h
theorem mem_tWith (l y : Lf) (t : List Lf) : y ∈ tWith l t ↔ y = l ∨ (y ∈ t ∧ y.path ≠ l.path) := by
  rw [tWith_put]
  exact mem_kPut Lf.path l y t
/-- where a node stands -/
theorem tAt_mem {p : List UInt8} : ∀ {t : List Lf} {k : Nat}, tAt p t = some k → ∃ l, t[k]? = some l ∧ l.path = p
  | [], k, h => by simp [tAt] at h
  | x :: r, k, h => by
    unfold tAt at h
    split at h
    · rename_i e
      obtain rfl := Option.some.inj h
      exact ⟨x, rfl, e⟩
    · obtain ⟨j, hj, rfl⟩ := Option.map_eq_some_iff.1 h
      obtain ⟨l, h1, h2⟩ := tAt_mem hj
      exact ⟨l, by simpa using h1, h2⟩
theorem tAt_no {p : List UInt8} : ∀ {t : List Lf}, tAt p t = none ↔ ∀ l ∈ t, l.path ≠ p
  | [] => by simp [tAt]
  | x :: r => by
    unfold tAt
    split
    · rename_i e
      simp [e]
    · rename_i e
      rw [Option.map_eq_none_iff, tAt_no]
      simp [e]
theorem srt_at {t : List Lf} (h : Srt t) {j k : Nat} {x y : Lf} (hx : t[j]? = some x) (hy : t[k]? = some y) : j < k ↔ lb x.path y.path := by
  have mono : ∀ {j k : Nat} {x y : Lf}, t[j]? = some x → t[k]? = some y → j < k → lb x.path y.path := by
    intro j k x y hx hy hlt
    obtain ⟨h1, rfl⟩ := List.getElem?_eq_some_iff.1 hx
    obtain ⟨h2, rfl⟩ := List.getElem?_eq_some_iff.1 hy
    exact List.pairwise_iff_getElem.1 h j k h1 h2 hlt
  constructor
  · exact mono hx hy
  · intro hb
    rcases Nat.lt_trichotomy j k with e | e | e
    · exact e
    · subst e
      rw [hx] at hy
      obtain rfl := Option.some.inj hy
      exact absurd hb (lb_irr _)
    · exact absurd (mono hy hx e) (lb_asym hb)
theorem srt_same {t : List Lf} (h : Srt t) {j k : Nat} {x y : Lf} (hx : t[j]? = some x) (hy : t[k]? = some y) (e : x.path = y.path) : j = k := by
  rcases Nat.lt_trichotomy j k with q | q | q
  · exact absurd ((srt_at h hx hy).1 q) (by rw [e]; exact lb_irr _)
  · exact q
  · exact absurd ((srt_at h hy hx).1 q) (by rw [e]; exact lb_irr _)
theorem srt_uniq {t : List Lf} (h : Srt t) {x y : Lf} (hx : x ∈ t) (hy : y ∈ t) (e : x.path = y.path) : x = y := by
  obtain ⟨j, h1, rfl⟩ := List.getElem_of_mem hx
  obtain ⟨k, h2, rfl⟩ := List.getElem_of_mem hy
  have := srt_same h (List.getElem?_eq_getElem h1) (List.getElem?_eq_getElem h2) e
  subst this
  rfl
theorem tAt_of {t : List Lf} (h : Srt t) {k : Nat} {l : Lf} (hl : t[k]? = some l) : tAt l.path t = some k := by
  cases e : tAt l.path t with
  | none => exact absurd rfl (tAt_no.1 e l (List.mem_of_getElem? hl))
  | some j =>
    obtain ⟨x, h1, h2⟩ := tAt_mem e
    rw [srt_same h h1 hl h2]
/-- a node less -/
theorem drop_filter {t : List Lf} (h : Srt t) {k : Nat} {l : Lf} (hl : t[k]? = some l) : t.take k ++ t.drop (k + 1) = t.filter fun y => decide (y.path ≠ l.path) := by
  obtain ⟨hk, e⟩ := List.getElem?_eq_some_iff.1 hl
  have h1 : t = t.take k ++ l :: t.drop (k + 1) := by rw [← e, List.getElem_cons_drop, List.take_append_drop]
  conv => rhs; rw [h1]
  have hall : ∀ j y, t[j]? = some y → j ≠ k → y.path ≠ l.path := fun j y hy hj he => hj (srt_same h hy hl he)
  rw [List.filter_append, List.filter_cons_of_neg (by simp)]
  rw [List.filter_eq_self.2, List.filter_eq_self.2]
  · intro y hy
    obtain ⟨j, hj, rfl⟩ := List.getElem_of_mem hy
    rw [decide_eq_true_iff]
    refine hall (k + 1 + j) _ ?_ (by omega)
    rw [List.getElem_drop]
    exact List.getElem?_eq_getElem _
  · intro y hy
    obtain ⟨j, hj, rfl⟩ := List.getElem_of_mem hy
    rw [decide_eq_true_iff]
    refine hall j _ ?_ (by simp at hj; omega)
    rw [List.getElem_take]
    exact List.getElem?_eq_getElem _
/-- sorted, a row that is a permutation of rising paths is these -/
theorem sorted_paths {t : List Lf} (h : Srt t) {ss : List (List UInt8)} (hp : ss.Perm (t.map (·.path))) : ss.mergeSort (fun x y => decide (x ≤ y)) = t.map (·.path) := by
  rw [mergeSort_of_perm hp]
  refine List.mergeSort_of_pairwise ?_
  rw [List.pairwise_map]
  refine h.imp fun hab => ?_
  have hn : ¬ lb _ _ := lb_asym hab
  rw [lb, Go.Proofs.bytesLess_eq] at hn
  rw [decide_eq_true_iff] at hn ⊢
  exact List.not_lt.1 hn
theorem tKids_snoc (p : List UInt8) (t : List Lf) (x : Lf) : tKids p (t ++ [x]) = tKids p t ++ (if parentP x.path = some p then [x.path] else []) := by
  unfold tKids
  rw [List.filter_append, List.map_append]
  congr 1
  by_cases h : parentP x.path = some p <;> simp [h]
theorem tKids_le (p : List UInt8) (t : List Lf) : (tKids p t).length ≤ t.length := by
  unfold tKids
  rw [List.length_map]
  exact List.length_filter_le _ _
theorem parent_le {p up : List UInt8} (h : parentP p = some up) : p.length ≤ 64 := by
  rcases path_cases p with e | ⟨rfl, e⟩ | ⟨_, _, _, _, _, _, e⟩
  · rw [(belowP_none e).2.1] at h; cases h
  · simp
  · exact e
end Go.Proofs.YtgppclmofphlfaaGreatDoor

/-
  Nodes as they lie in memory. Plain lemmas; no statement.
-/
namespace Go.Proofs.YtgppclmofphlfaaGreatDoor
set_option maxRecDepth 100000
open Go.RowKit
set_option linter.unusedVariables false

def lfC (l : Lf) (A : Option Addr) (c : Nat) : List Value := [.string ⟨l.path.toArray⟩, .slice A l.data.length c, .int .i64 l.ver, .int .i64 l.own, .int .i64 l.next, .int .i64 l.born]
/-- a node -/
def RLf : Rdr Lf where
  sz := 6
  rd F w cs l := ∃ A c, cs = lfC l A c ∧ BF F w A c l.data
  len := by rintro F w cs x ⟨A, c, rfl, _⟩; rfl
  keep := by rintro F F' w w' cs x ⟨A, c, rfl, h⟩ hk hf; exact ⟨A, c, rfl, h.keep hk hf⟩
theorem info_leaf : (Tryz.prog.info? 50).map (fun i => (i.zero, i.size, i.bytes)) = some (some (.agg #[.string ByteArray.empty, .slice none 0 0, .int .i64 0, .int .i64 0, .int .i64 0, .int .i64 0]), 6, 72) := by kernel_rfl
theorem info_leaf1 : (Tryz.prog.info? 50).map (·.size) = some 6 := by kernel_rfl
theorem lf_add (x : Addr) (k j : Nat) (hj : 0 < j) : x.add (k + j) = ⟨(x.add k).block, (x.add k).off + j, none⟩ := add_at x k j hj
theorem RdS.lf6 {F : Nat → Prop} {w : World} {A : Option Addr} {c : Nat} {ls : List Lf} (h : RdS RLf F w A c ls) {k : Nat} {l : Lf} (hk : ls[k]? = some l) :
    ∃ x B d, A = some x ∧ x.block < w.heap.size ∧ w.cell? (x.add (k * 6)) = some (.string ⟨l.path.toArray⟩) ∧ w.cell? ⟨(x.add (k * 6)).block, (x.add (k * 6)).off + 1, none⟩ = some (.slice B l.data.length d) ∧
      w.cell? ⟨(x.add (k * 6)).block, (x.add (k * 6)).off + 2, none⟩ = some (.int .i64 l.ver) ∧ w.cell? ⟨(x.add (k * 6)).block, (x.add (k * 6)).off + 3, none⟩ = some (.int .i64 l.own) ∧
      w.cell? ⟨(x.add (k * 6)).block, (x.add (k * 6)).off + 4, none⟩ = some (.int .i64 l.next) ∧ w.cell? ⟨(x.add (k * 6)).block, (x.add (k * 6)).off + 5, none⟩ = some (.int .i64 l.born) ∧ BF F w B d l.data := by
  obtain ⟨x, cs, e, hb, hc, B, d, rfl, hB⟩ := h.at_ hk
  refine ⟨x, B, d, e, hb, hc 0 _ rfl, ?_, ?_, ?_, ?_, ?_, hB⟩
  · rw [← add_at x (k * 6) 1 (by omega)]; exact hc 1 _ rfl
  · rw [← add_at x (k * 6) 2 (by omega)]; exact hc 2 _ rfl
  · rw [← add_at x (k * 6) 3 (by omega)]; exact hc 3 _ rfl
  · rw [← add_at x (k * 6) 4 (by omega)]; exact hc 4 _ rfl
  · rw [← add_at x (k * 6) 5 (by omega)]; exact hc 5 _ rfl
theorem bf_from {B B' : Nat} {w : World} {A : Option Addr} {c : Nat} {l : List UInt8} (h : BF (From B) w A c l) (hB : B' ≤ B) : BF (From B') w A c l := h.keep ⟨Nat.le_refl _, fun _ _ _ => rfl⟩ fun b hb _ => Nat.le_trans hB hb
theorem rds_from {α : Type} {R : Rdr α} {B B' : Nat} {w : World} {A : Option Addr} {c : Nat} {l : List α} (h : RdS R (From B) w A c l) (hB : B' ≤ B) : RdS R (From B') w A c l := h.keep ⟨Nat.le_refl _, fun _ _ _ => rfl⟩ fun b hb _ => Nat.le_trans hB hb
/-- bytes whose blocks aren't block g stay behind stores into it -/
theorem bf_set {F : Nat → Prop} {w w' : World} {g : Nat} {A : Option Addr} {c : Nat} {l : List UInt8} (h : BF F w A c l) (hg : w.grownBy w' (some g)) (hne : ∀ b, F b → b ≠ g) : BF F w' A c l :=
  h.keep (Kp.of_grown hg fun b hb e => hne b hb (Option.some.inj e)) fun _ h _ => h
theorem news_row (w : World) (cs : List Value) (t : TypeId) : ∀ j u, cs[j]? = some u → (w.alloc (.cells cs.toArray t)).cell? ((⟨w.heap.size, 0, none⟩ : Addr).add j) = some u :=
  fun j u hu => World.news_of_block (heap_alloc_new w _) j u (by simpa using hu)
theorem form_row {w : World} {base : Nat} {e : TypeId} {sz n : Nat} {v : Value} {xs : List Value} (h : w.ownsRow base e sz v (n + 1) xs) : ∃ A c, v = .slice A (n + 1) c := by
  rcases h.2 with ⟨_, e⟩ | ⟨g, cap, cur, e, _⟩
  · omega
  · exact ⟨_, _, e⟩
theorem cell_kept {w w' : World} {p : Addr} {v : Value} (h : w.cell? p = some v) (hb : Below w.heap.size w w') : w'.cell? p = some v := (hb.cell (World.block_lt_of_cell? _ _ h)).trans h
theorem wpList_store_bkT {P : Program} {ops : Array Oper} {rest : List Oper} {o : Oper} {a : Act} {w : World} {Q : Exit → Act → World → Prop} (hgd : o.guard = none) (ty : TypeId) (x y : Operand) (ho : o.op = .store ty x y)
    (g : Nat) (vs : List Value) (hx : a.eval x = .pointer (some ⟨g, 0, none⟩)) (hy : a.eval y = .agg vs.toArray) (t : TypeId) (cur : List Value) (hb : Bk w g t cur) (hl : vs.length = cur.length)
    (hi : (P.info? ty).map (·.size) = some vs.length) (h1 : vs.all (·.oneCell') = true) (h : ∀ w', Hid (Bk w' g t vs) → Hid (w.grownBy w' (some g)) → wpList P ops Q rest (a.put o.dst undef) w') : wpList P ops Q (o :: rest) a w := by
  refine wpList_store_mid hgd ty x y ho g 0 vs.toArray hx hy (hb.there (by simp; omega)) (by simpa using hi) (all_oneCell_toArray (fun v hv => List.all_eq_true.1 h1 v hv)) ?_
  exact h _ (Lib.hid (hb.setAll vs hl)) (Lib.hid (grown_setCells vs 0 (grown_refl w _)))
/-- a cell of a known block stored -/
theorem run_storeAt_cell {P : Program} (w : World) (g i : Nat) (ty : TypeId) (v : Value) (hv : v.cells = #[v]) (h1 : v.oneCell' = true) (hi : (P.info? ty).map (·.size) = some 1) (hc : (w.cell? ⟨g, i, none⟩).isSome = true) (hf : w.frozen? ⟨g, i, none⟩ = false) :
    (Instr.storeAt ty (.pointer (some ⟨g, i, none⟩)) v).run P w = .ok () (w.setCell ⟨g, i, none⟩ v) := by
  have e := run_storeCells_cells (P := P) g i [v] 0 w (fun j hj => by obtain rfl : j = 0 := (by simpa using hj); simpa using hc) (fun j hj => by obtain rfl : j = 0 := (by simpa using hj); simpa using hf) (fun u hu => by obtain rfl := List.mem_singleton.1 hu; exact h1)
  have hs : (storeVar ty ⟨g, i, none⟩ v).run P w = .ok () (w.setCell ⟨g, i, none⟩ v) := by
    cases hq : P.info? ty with
    | none => simp [hq] at hi
    | some x =>
      have hsz : x.size = 1 := by simpa [hq] using hi
      simp only [Nat.add_zero] at e
      simp [storeVar, sizeOf, typeInfo, hq, hv, hsz, e]
      rfl
  simp only [Instr.storeAt, Instr.sureAddr, Sem.run_bind, Sem.run_pure, Result.andThen_ok, hs]
theorem wpList_store_cell {P : Program} {ops : Array Oper} {rest : List Oper} {o : Oper} {a : Act} {w : World} {Q : Exit → Act → World → Prop} (hgd : o.guard = none) (ty : TypeId) (x y : Operand) (ho : o.op = .store ty x y)
    (g i : Nat) (v : Value) (hx : a.eval x = .pointer (some ⟨g, i, none⟩)) (hy : a.eval y = v) (hvc : v.cells = #[v]) (hv : v.oneCell' = true) (hi : (P.info? ty).map (·.size) = some 1) (t : TypeId) (cur : List Value) (hb : Bk w g t cur) (hl : i < cur.length)
    (h : ∀ w', Hid (Bk w' g t (cur.set i v)) → Hid (w.grownBy w' (some g)) → wpList P ops Q rest (a.put o.dst undef) w') : wpList P ops Q (o :: rest) a w := by
  refine wpList_plain hgd fun K hK => ?_
  have hc : (w.cell? ⟨g, i, none⟩).isSome = true := by rw [hb.cell, List.getElem?_eq_getElem hl]; rfl
  unfold Oper.wp execOp
  simp only [ho, hx, hy, run_storeAt_cell w g i ty v hvc hv hi hc (hb.frozen i), Sem.run_bind, Sem.run_pure, Result.andThen_ok]
  exact hK _ _ (h _ (Lib.hid (hb.set i v)) (Lib.hid (grown_set (grown_refl w (some g)) i v)))
/-- a node in new memory, or the error -/
def GetP (r : Option Lf × Int) (w : World) (e : Ending) (w' : World) : Prop :=
  Below w.heap.size w w' ∧ match r.1 with
    | some l => ∃ A c, e = .returned (.tuple #[.agg (lfC l A c).toArray, .int .i64 r.2]) ∧ BF (From w.heap.size) w' A c l.data
    | none => e = .returned (.tuple #[.agg #[.string ⟨#[]⟩, .slice none 0 0, .int .i64 0, .int .i64 0, .int .i64 0, .int .i64 0], .int .i64 r.2])
/-- a node's children's paths, or the error -/
def KidsP (r : Option Lf × Int) (ks : List (List UInt8)) (w : World) (e : Ending) (w' : World) : Prop :=
  if r.2 = 0 then ∃ v, FreshT ks w (.returned v) w' ∧ e = .returned (.tuple #[v, .int .i64 0]) else Below w.heap.size w w' ∧ e = .returned (.tuple #[.slice none 0 0, .int .i64 r.2])
end Go.Proofs.YtgppclmofphlfaaGreatDoor

/-
  A tree's nodes in a map of the call's own: what it reads as, what a look, a store and a delete come to. Plain lemmas; no statement.
-/
namespace Go.Proofs.YtgppclmofphlfaaGreatDoor
set_option maxRecDepth 100000
open Go.RowKit Go.Maps
open Go.ChangeMaps (putKey delKey notKey)
set_option linter.unusedVariables false

/-- a node, and where its data lie -/
abbrev En := Lf × Option Addr × Nat
def enV (x : En) : Value := .agg (lfC x.1 x.2.1 x.2.2).toArray
/-- an element as it is -/
def asIs (v : Value) : Option (DataW Value × List MemPlace) := some (.held v, [])
def ent (es : List En) : List (Lit × DataW Value) := es.map fun x => (.string x.1.path, .held (enV x))
theorem ent_path (x : En) : (fun a : En => Lf.path a.1) x = x.1.path := rfl
theorem ent_ins (x : En) : ∀ es : List En, DataW.insert (.string x.1.path, .held (enV x)) (ent es) = ent (kIns (fun a : En => a.1.path) x es)
  | [] => rfl
  | y :: r => by
    show (if (Lit.string x.1.path).before (Lit.string y.1.path) = true then _ else _) = ent (if Op.bytesLess x.1.path y.1.path = true then x :: y :: r else y :: kIns (fun a : En => a.1.path) x r)
    have e : (Lit.string x.1.path).before (Lit.string y.1.path) = Op.bytesLess x.1.path y.1.path := bb_eq _ _
    rw [e]
    split
    · rfl
    · show _ :: DataW.insert (.string x.1.path, .held (enV x)) (ent r) = _ :: ent (kIns (fun a : En => a.1.path) x r)
      rw [ent_ins x r]
theorem ent_not (p : List UInt8) (es : List En) : (ent es).filter (fun q => !q.1.sameKey (.string p)) = ent (es.filter fun y => decide (y.1.path ≠ p)) := by
  unfold ent
  rw [List.filter_map]
  congr 1
  refine List.filter_congr fun y _ => ?_
  show (!(Lit.string y.1.path).sameKey (.string p)) = decide (y.1.path ≠ p)
  show (!(y.1.path == p)) = decide (y.1.path ≠ p)
  by_cases h : y.1.path = p <;> simp [h]
theorem ent_put (x : En) (es : List En) : (DataW.map (ent es)).put (.string x.1.path) (.held (enV x)) = .map (ent (kPut (fun a : En => a.1.path) x es)) := by
  show DataW.map (DataW.insert _ ((ent es).filter fun q => !q.1.sameKey (.string x.1.path))) = _
  rw [ent_not, ent_ins]
  rfl
theorem ent_del (p : List UInt8) (es : List En) : (DataW.map (ent es)).del (.string p) = .map (ent (es.filter fun y => decide (y.1.path ≠ p))) := by
  show DataW.map ((ent es).filter fun q => !q.1.sameKey (.string p)) = _
  rw [ent_not]
theorem at_cons (p : List UInt8) (x : En) (r : List En) (zd : DataW Value) : (DataW.map (ent (x :: r))).atKey (.string p) zd = if x.1.path = p then .held (enV x) else (DataW.map (ent r)).atKey (.string p) zd := by
  have e : (Lit.string x.1.path).sameKey (.string p) = (x.1.path == p) := rfl
  by_cases h : x.1.path = p
  · have e2 : (x.1.path == p) = true := by simpa using h
    rw [if_pos h]
    simp only [DataW.atKey, ent, List.map_cons, List.find?_cons, e, e2]
  · have e2 : (x.1.path == p) = false := by simpa using h
    rw [if_neg h]
    simp only [DataW.atKey, ent, List.map_cons, List.find?_cons, e, e2]
theorem ent_no {p : List UInt8} : ∀ {es : List En}, tAt p (es.map (·.1)) = none → Maps.has (.map (ent es)) (.string p) = false ∧ ∀ zd, (DataW.map (ent es)).atKey (.string p) zd = zd
  | [], _ => ⟨rfl, fun _ => rfl⟩
  | x :: r, h => by
    have h0 := (tAt_no.1 h)
    have hx : x.1.path ≠ p := h0 x.1 (by simp)
    obtain ⟨h1, h2⟩ := ent_no (p := p) (es := r) (tAt_no.2 fun l hl => h0 l (by simp only [List.map_cons, List.mem_cons]; exact .inr hl))
    have e : (Lit.string x.1.path).sameKey (.string p) = false := by show (x.1.path == p) = false; simpa using hx
    constructor
    · show (((Lit.string x.1.path).sameKey (.string p)) || _) = false
      rw [e]; exact h1
    · intro zd
      rw [at_cons, if_neg hx]
      exact h2 zd
theorem ent_yes {p : List UInt8} : ∀ {es : List En} {k : Nat}, tAt p (es.map (·.1)) = some k → ∃ x, es[k]? = some x ∧ x.1.path = p ∧ Maps.has (.map (ent es)) (.string p) = true ∧ ∀ zd, (DataW.map (ent es)).atKey (.string p) zd = .held (enV x)
  | [], k, h => by simp [tAt] at h
  | x :: r, k, h => by
    rw [List.map_cons] at h
    unfold tAt at h
    split at h
    · rename_i hx
      obtain rfl := Option.some.inj h
      have e : (Lit.string x.1.path).sameKey (.string p) = true := by show (x.1.path == p) = true; simpa using hx
      refine ⟨x, rfl, hx, ?_, fun zd => ?_⟩
      · show (((Lit.string x.1.path).sameKey (.string p)) || _) = true
        rw [e]; rfl
      · rw [at_cons, if_pos hx]
    · rename_i hx
      obtain ⟨j, hj, rfl⟩ := Option.map_eq_some_iff.1 h
      obtain ⟨y, h1, h2, h3, h4⟩ := ent_yes hj
      have e : (Lit.string x.1.path).sameKey (.string p) = false := by show (x.1.path == p) = false; simpa using hx
      refine ⟨y, by simpa using h1, h2, ?_, fun zd => ?_⟩
      · show (((Lit.string x.1.path).sameKey (.string p)) || _) = true
        rw [e]; exact h3
      · rw [at_cons, if_neg hx]
        exact h4 zd
/-- bytes don't lie in a map's block -/
theorem bf_off {F : Nat → Prop} {w w' : World} {A : Option Addr} {c b : Nat} {l : List UInt8} (h : BF F w A c l) (hm : ∃ es clock, w.heap[b]? = some (.map es clock)) (hg : w.grownBy w' (some b)) : BF F w' A c l := by
  have h' : BF (fun k => F k ∧ k ≠ b) w A c l := by
    refine ⟨h.1, fun a e hne => ⟨h.2 a e hne, fun e2 => ?_⟩⟩
    obtain ⟨es, clock, hb⟩ := hm
    have hr := h.rd
    have h0 : 0 < l.length := by cases l with
      | nil => exact absurd rfl hne
      | cons => simp
    obtain ⟨a', ea, _, hc⟩ := hr.2 0 (bv (l[0]'h0)) (by rw [List.getElem?_map, List.getElem?_eq_getElem h0]; rfl)
    rw [e] at ea
    obtain rfl := Option.some.inj ea
    have hbk : (a.add 0).block = b := by rw [add_block]; exact e2
    simp [World.cell?, hbk, hb] at hc
  exact h'.keep (Kp.of_grown hg fun k hk e => hk.2 (Option.some.inj e)) fun _ hk _ => hk.1

/-- block b is a map of these nodes, their data in blocks of F -/
def MpAt (F : Nat → Prop) (w : World) (b : Nat) (t : List Lf) : Prop :=
  ∃ es : List En, es.map (·.1) = t ∧ w.ownsMap Tryz.prog 9 asIs b t.length (.map (ent es)) ∧ ∀ x ∈ es, BF F w x.2.1 x.2.2 x.1.data
theorem str_keyed : Keyed Tryz.prog 9 := string_keyed Tryz.underlying9
theorem key_of {p : List UInt8} (h : p.length ≤ maxLen) : keyOf Tryz.prog 9 (.string ⟨p.toArray⟩) = some (.string p) := WideMaps.keyOf_string_mk Tryz.underlying9 (s := ⟨p.toArray⟩) h
/-- no node -/
abbrev lfNo : Value := .agg #[.string ⟨#[]⟩, .slice none 0 0, .int .i64 0, .int .i64 0, .int .i64 0, .int .i64 0]
theorem zero_leaf (w : World) : (zeroValue 50).run Tryz.prog w = .ok lfNo w := by kernel_rfl
section
variable {F F' : Nat → Prop} {w w' : World} {b : Nat} {t : List Lf}
theorem MpAt.isMap (h : MpAt F w b t) : ∃ es clock, w.heap[b]? = some (.map es clock) := by
  obtain ⟨es, _, ⟨e, c, hb, _⟩, _⟩ := h
  exact ⟨e, c, hb⟩
theorem MpAt.lt (h : MpAt F w b t) : b < w.heap.size := by
  obtain ⟨es, _, h2, _⟩ := h
  exact h2.lt
theorem MpAt.chg {G : Nat → Prop} (h : MpAt F w b t) (hc : Chg G w w') (hb : ¬ G b) (hG : ∀ k, F k → k < w.heap.size → ¬ G k) : MpAt F w' b t := by
  obtain ⟨es, h1, ⟨e, c, h2, h3, h4, h5⟩, h6⟩ := h
  have hlt : b < w.heap.size := (Array.getElem?_eq_some_iff.1 h2).1
  exact ⟨es, h1, ⟨e, c, (hc.block b hlt hb).trans h2, h3, h4, h5⟩, fun x hx => (h6 x hx).keep ⟨hc.size, fun k hk hl => hc.block k hl (hG k hk hl)⟩ fun _ hk _ => hk⟩
theorem MpAt.below (h : MpAt F w b t) (hb : Below w.heap.size w w') : MpAt F w' b t :=
  h.chg (Chg.of_below (fun _ => False) hb) id fun _ _ _ => id
theorem MpAt.more (h : MpAt F w b t) (hF : ∀ k, F k → k < w.heap.size → F' k) : MpAt F' w b t := by
  obtain ⟨es, h1, h2, h3⟩ := h
  exact ⟨es, h1, h2, fun x hx => (h3 x hx).keep ⟨Nat.le_refl _, fun _ _ _ => rfl⟩ hF⟩
/-- the map's own world, whatever else -/
theorem MpAt.paths_le (h : MpAt F w b t) : ∀ l ∈ t, l.path.length ≤ maxLen := by
  obtain ⟨es, h1, h2, h3⟩ := h
  intro l hl
  rw [← h1] at hl
  obtain ⟨x, hx, rfl⟩ := List.mem_map.1 hl
  have hk : x.1.path ∈ strKeys (DataW.map (ent es)) := by
    show x.1.path ∈ (ent es).map fun p => strOf p.1
    unfold ent
    rw [List.map_map]
    exact List.mem_map.2 ⟨x, hx, rfl⟩
  exact strKeys_le h2 Tryz.underlying9 _ hk
theorem MpAt.srt (h : MpAt F w b t) : Srt t := by
  obtain ⟨es, h1, ⟨e, c, hb, hf, hs, hD⟩, h3⟩ := h
  have hp := Maps.fit_rising str_keyed hf
  injection hD with hD
  rw [← hD] at hp
  rw [← h1]
  clear hD hf hs hb h3 h1
  unfold Srt
  have hpw : (ent es).Pairwise (fun p q => p.1.before q.1 = true) := by
    have tr : ∀ {es : List En}, DataW.rising (ent es) = true → (ent es).Pairwise (fun p q => p.1.before q.1 = true) := by
      intro es
      induction es with
      | nil => intro _; exact List.Pairwise.nil
      | cons x r ih =>
        intro h
        cases r with
        | nil => exact List.pairwise_singleton _ _
        | cons y r =>
          have hxy : ((Lit.string x.1.path).before (Lit.string y.1.path) && DataW.rising (ent (y :: r))) = true := h
          rw [Bool.and_eq_true] at hxy
          have ih2 := ih hxy.2
          refine List.pairwise_cons.2 ⟨fun q hq => ?_, ih2⟩
          have hq' : q ∈ (Lit.string y.1.path, DataW.held (enV y)) :: ent r := hq
          rcases List.mem_cons.1 hq' with rfl | hq'
          · exact hxy.1
          · exact WideShapes.before_trans hxy.1 ((List.pairwise_cons.1 ih2).1 q hq')
    exact tr hp
  unfold ent at hpw
  rw [List.pairwise_map] at hpw ⊢
  refine hpw.imp fun hab => ?_
  show Op.bytesLess _ _ = true
  rw [← bb_eq]
  exact hab
/-- a new map -/
theorem mpAt_made (F : Nat → Prop) (w : World) : MpAt F (w.alloc (.map #[] 0)) w.heap.size [] :=
  ⟨[], rfl, World.ownsMap_made w _ _ _, fun x hx => by cases hx⟩
/-- a node put -/
theorem MpAt.store (h : MpAt F w b t) (l : Lf) (A : Option Addr) (c : Nat) (hB : BF F w A c l.data) (hl : l.path.length ≤ maxLen) (hn : t.length ≤ 1000) :
    ∃ w', (Instr.mapUpdate 74 (.map (some b)) (.string ⟨l.path.toArray⟩) (.agg (lfC l A c).toArray)).run Tryz.prog w = .ok () w' ∧ MpAt F w' b (tWith l t) ∧ w.grownBy w' (some b) := by
  have hm := h.isMap
  obtain ⟨es, h1, h2, h3⟩ := h
  obtain ⟨w', r1, r2, r3⟩ := h2.update str_keyed Tryz.underlying74 (by simp only [maxLen]; omega) (key_of hl) (show asIs (enV (l, A, c)) = some (.held (enV (l, A, c)), []) from rfl)
  refine ⟨w', r1, ⟨kPut (fun a : En => a.1.path) (l, A, c) es, ?_, ?_, ?_⟩, r3⟩
  · rw [tWith_put, ← h1]
    exact kPut_map Lf.path Prod.fst (l, A, c) es
  · rw [show (Lit.string l.path) = Lit.string (l, A, c).1.path from rfl, ent_put] at r2
    obtain ⟨e, cl, hb, hf, hs, hD⟩ := r2
    refine ⟨e, cl, hb, hf, ?_, hD⟩
    injection hD with hD
    have hlen := congrArg List.length hD
    rw [length_sorted, List.length_map] at hlen
    have e2 : (tWith l t).length = (kPut (fun a : En => a.1.path) (l, A, c) es).length := by
      rw [tWith_put, ← h1, ← kPut_map Lf.path Prod.fst (l, A, c) es, List.length_map]
    have e3 : (ent (kPut (fun a : En => a.1.path) (l, A, c) es)).length = (kPut (fun a : En => a.1.path) (l, A, c) es).length := by unfold ent; rw [List.length_map]
    rw [e2, ← e3, hlen]
    simp
  · intro x hx
    rcases (mem_kPut _ _ _ _).1 hx with rfl | ⟨hx, _⟩
    · exact bf_off hB hm r3
    · exact bf_off (h3 x hx) hm r3
/-- a node less -/
theorem MpAt.drop (h : MpAt F w b t) (p : List UInt8) (hl : p.length ≤ maxLen) (ty : TypeId) :
    ∃ w', (Builtin.delete_ #[74, 9] ty #[.map (some b), .string ⟨p.toArray⟩]).run Tryz.prog w = .ok (.tuple #[]) w' ∧ MpAt F w' b (t.filter fun y => decide (y.path ≠ p)) ∧ w.grownBy w' (some b) := by
  have hm := h.isMap
  obtain ⟨es, h1, h2, h3⟩ := h
  obtain ⟨w', r1, r2, r3⟩ := h2.drop str_keyed Tryz.underlying74 (key_of hl) ty
  have hg : w.grownBy w' (some b) := by
    obtain ⟨e, cl, e', cl', hb, rfl⟩ := r3
    exact ⟨rfl, rfl, rfl, by simp [Go.ChangeMaps.setBlock], fun i _ hi => Go.ChangeMaps.heap_setBlock_other hb _ (fun e => hi (by rw [e]))⟩
  refine ⟨w', r1, ⟨es.filter fun y => decide (y.1.path ≠ p), ?_, ?_, fun x hx => bf_off (h3 x (List.mem_filter.1 hx).1) hm hg⟩, hg⟩
  · rw [← h1, List.filter_map]; rfl
  · rw [ent_del] at r2
    obtain ⟨e, cl, hb, hf, hs, hD⟩ := r2
    refine ⟨e, cl, hb, hf, ?_, hD⟩
    injection hD with hD
    have hlen := congrArg List.length hD
    rw [length_sorted, List.length_map] at hlen
    have e2 : (t.filter fun y => decide (y.path ≠ p)).length = (es.filter fun y => decide (y.1.path ≠ p)).length := by
      rw [← h1, List.filter_map, List.length_map]; rfl
    have e3 : (ent (es.filter fun y => decide (y.1.path ≠ p))).length = (es.filter fun y => decide (y.1.path ≠ p)).length := by unfold ent; rw [List.length_map]
    rw [e2, ← e3, hlen]
    simp
/-- a look for a node -/
theorem MpAt.look_yes (h : MpAt F w b t) (c : Bool) {p : List UInt8} {k : Nat} {l : Lf} (hat : tAt p t = some k) (hl : t[k]? = some l) (hp : p.length ≤ maxLen) :
    ∃ A cc, BF F w A cc l.data ∧ (Instr.lookup 74 (.map (some b)) (.string ⟨p.toArray⟩) c).run Tryz.prog w = .ok (if c then .tuple #[.agg (lfC l A cc).toArray, .bool true] else .agg (lfC l A cc).toArray) w := by
  obtain ⟨es, h1, ⟨e, cl, hb, hf, hs, hD⟩, h3⟩ := h
  rw [← h1] at hat hl
  obtain ⟨x, hx, hxp, hh, ha⟩ := ent_yes hat
  rw [List.getElem?_map, hx] at hl
  obtain rfl : x.1 = l := Option.some.inj hl
  refine ⟨x.2.1, x.2.2, h3 x (List.mem_of_getElem? hx), ?_⟩
  rcases Maps.fit_look c str_keyed Tryz.underlying74 (zero_leaf w) hb hf (key_of hp) with ⟨_, _, q⟩ | ⟨e0, y, _, _, hrun, hR, q, _⟩
  · have := q (.held lfNo)
    rw [← hD, ha] at this
    have q2 := q (.held (.bool true))
    rw [← hD, ha] at q2
    rw [this] at q2
    cases q2
  · have q1 := q (.held lfNo)
    rw [← hD, ha] at q1
    have : y.1 = .held e0.val := by
      have : y = (.held e0.val, []) := (Option.some.inj hR).symm
      rw [this]
    rw [this] at q1
    injection q1 with q1
    rw [hrun, ← q1]
    rfl
theorem MpAt.look_no (h : MpAt F w b t) (c : Bool) {p : List UInt8} (hat : tAt p t = none) (hp : p.length ≤ maxLen) :
    (Instr.lookup 74 (.map (some b)) (.string ⟨p.toArray⟩) c).run Tryz.prog w = .ok (if c then .tuple #[lfNo, .bool false] else lfNo) w := by
  obtain ⟨es, h1, ⟨e, cl, hb, hf, hs, hD⟩, h3⟩ := h
  rw [← h1] at hat
  obtain ⟨hh, ha⟩ := ent_no hat
  rcases Maps.fit_look c str_keyed Tryz.underlying74 (zero_leaf w) hb hf (key_of hp) with ⟨hrun, _, _⟩ | ⟨e0, y, _, _, _, _, q, _⟩
  · exact hrun
  · have q1 := q (.held lfNo)
    have q2 := q (.held (.bool true))
    rw [← hD, ha] at q1 q2
    rw [← q1] at q2
    cases q2
theorem MpAt.len_ (h : MpAt F w b t) (ty : TypeId) : (Builtin.len_ #[74] ty #[.map (some b)]).run Tryz.prog w = .ok (.int .i64 (t.length : Int)) w := by
  obtain ⟨es, h1, h2, h3⟩ := h
  have := h2.len Tryz.underlying74 ty
  rw [this, ← h1]
  simp [Maps.size, ent]
end
/-- a tree: its struct in block g, its map and data in blocks of F -/
def TreeAt (F : Nat → Prop) (w : World) (g : Nat) (t : List Lf) : Prop := ∃ b, Bk w g 76 [.map (some b)] ∧ F g ∧ F b ∧ MpAt F w b t
section
variable {F F' : Nat → Prop} {w w' : World} {g : Nat} {t : List Lf}
theorem TreeAt.chg {G : Nat → Prop} (h : TreeAt F w g t) (hc : Chg G w w') (hG : ∀ k, F k → k < w.heap.size → ¬ G k) : TreeAt F w' g t := by
  obtain ⟨b, h1, h2, h3, h4⟩ := h
  exact ⟨b, hc.bk h1 (hG g h2 h1.lt), h2, h3, h4.chg hc (hG b h3 h4.lt) hG⟩
theorem TreeAt.below (h : TreeAt F w g t) (hb : Below w.heap.size w w') : TreeAt F w' g t := h.chg (Chg.of_below (fun _ => False) hb) fun _ _ _ => id
theorem TreeAt.more (h : TreeAt F w g t) (hF : ∀ k, F k → k < w.heap.size → F' k) : TreeAt F' w g t := by
  obtain ⟨b, h1, h2, h3, h4⟩ := h
  exact ⟨b, h1, hF g h2 h1.lt, hF b h3 h4.lt, h4.more hF⟩
theorem TreeAt.srt (h : TreeAt F w g t) : Srt t := h.choose_spec.2.2.2.srt
theorem TreeAt.lt (h : TreeAt F w g t) : g < w.heap.size := h.choose_spec.1.lt
theorem TreeAt.paths_le (h : TreeAt F w g t) : ∀ l ∈ t, l.path.length ≤ maxLen := h.choose_spec.2.2.2.paths_le
end
/-- a call that changes the tree: what it answers, and the tree behind it -/
def TDid (F : Nat → Prop) (g : Nat) (t' : List Lf) (r : Value) (w : World) (e : Ending) (w' : World) : Prop :=
  e = .returned r ∧ ∃ F', TreeAt F' w' g t' ∧ (∀ k, F' k → F k ∨ w.heap.size ≤ k) ∧ Chg F w w'
end Go.Proofs.YtgppclmofphlfaaGreatDoor
