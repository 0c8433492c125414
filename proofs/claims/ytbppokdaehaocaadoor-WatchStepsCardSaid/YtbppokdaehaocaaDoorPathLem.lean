/-
  Paths by bytes: what joins, cuts and looks come to. Plain lemmas; no statement.
-/
import Derived.Test.YtbppokdaehaocaaDoorMPathA
namespace Go.Proofs.YtbppokdaehaocaaDoor
set_option maxRecDepth 100000
open Go.RowKit
set_option linter.unusedVariables false

/-- a byte that may stand in a part, over lists -/
theorem isPart_eq (s : List UInt8) : isPart s = (s.all pchar && decide (1 ≤ s.length ∧ s.length ≤ 16)) := rfl
/-- the parts behind a path's first slash -/
def parted (r : List UInt8) : List (List UInt8) := if r = [] then [] else pieces r
theorem partsOf_eq (r : List UInt8) : partsOf (47 :: r) = if r.length < 64 ∧ (parted r).all isPart = true then some (parted r) else none := by
  unfold partsOf parted
  by_cases h1 : r.length < 64
  · by_cases h2 : r = []
    · subst h2; rfl
    · simp only [h1, h2, and_self, true_and, if_true, if_false]
  · simp [h1]
theorem own_new (w : World) (ls : List (List UInt8)) (hl : ls.length ≤ maxLen) : OwnT (w.alloc (.cells (ls.map sv).toArray 9)) w.heap.size (some ⟨w.heap.size, 0, none⟩) ls.length ls.length ls := by
  have h := World.ownsRow_lit (e := 9) (base := w.heap.size) (size := 1) w (ls.map sv).toArray ls.length (Nat.le_refl _) hl (by simp)
  simpa [OwnT] using h
theorem texts_of (xs : List ByteArray) : xs.map Value.string = (xs.map (·.data.toList)).map sv := by
  rw [List.map_map]
  refine List.map_congr_left fun x _ => ?_
  show Value.string x = Value.string ⟨x.data.toList.toArray⟩
  rw [sv_of]
theorem hasPrefix_slash (c : UInt8) (r : List UInt8) : Lib.hasPrefix (c :: r) [47] = (c == 47) := by
  unfold Lib.hasPrefix
  by_cases h : c = 47
  · subst h; rfl
  · have h2 : ¬ 47 = c := fun e => h e.symm
    rw [show (c == 47) = false from beq_eq_false_iff_ne.2 h]
    show ((47 == c) && _) = false
    rw [show ((47 : UInt8) == c) = false from beq_eq_false_iff_ne.2 h2, Bool.false_and]
/-- the last of a list that isn't empty -/
theorem last_cut {α : Type} : ∀ l : List α, l ≠ [] → ∃ ps q, l = ps ++ [q]
  | [], h => absurd rfl h
  | [q], _ => ⟨[], q, rfl⟩
  | a :: b :: l, _ => by
    obtain ⟨ps, q, h⟩ := last_cut (b :: l) (by simp)
    exact ⟨a :: ps, q, by rw [h]; rfl⟩
theorem path_cases (l : List UInt8) : partsOf l = none ∨ (l = [47] ∧ partsOf l = some []) ∨
    ∃ ps q, partsOf l = some (ps ++ [q]) ∧ l = joinP ps ++ 47 :: q ∧ (∀ p ∈ ps, isPart p = true) ∧ isPart q = true ∧ l.length ≤ 64 := by
  cases hp : partsOf l with
  | none => exact .inl rfl
  | some ls =>
    right
    obtain ⟨h1, h2, h3⟩ := whole_parts hp
    by_cases h0 : ls = []
    · subst h0; exact .inl ⟨h1.symm, rfl⟩
    · obtain ⟨ps, q, rfl⟩ := last_cut ls h0
      refine .inr ⟨ps, q, rfl, ?_, fun p hm => h2 p (by simp [hm]), h2 q (by simp), h3⟩
      rw [← h1]
      unfold wholeP
      rw [if_neg (by simp), joinP_last]
theorem parentP_eq {l : List UInt8} {ps : List (List UInt8)} {q : List UInt8} (h : partsOf l = some (ps ++ [q])) : parentP l = some (wholeP ps) ∧ nameP l = some q := by
  unfold parentP nameP
  rw [h]
  cases ps with
  | nil => exact ⟨rfl, rfl⟩
  | cons p ps =>
    constructor
    · show some (wholeP ((p :: ps) ++ [q]).dropLast) = _
      rw [List.dropLast_append_of_ne_nil (by simp)]; simp
    · show ((p :: ps) ++ [q]).getLast? = some q
      exact List.getLast?_concat
/-- is it a path that isn't the root? -/
def belowP (l : List UInt8) : Bool := (nameP l).isSome
theorem belowP_none {l : List UInt8} (h : partsOf l = none) : belowP l = false ∧ parentP l = none ∧ nameP l = none := by
  unfold belowP parentP nameP; rw [h]; exact ⟨rfl, rfl, rfl⟩
theorem belowP_root : belowP [47] = false ∧ parentP [47] = none ∧ nameP [47] = none := ⟨rfl, rfl, rfl⟩
theorem parted_of {r : List UInt8} {ls : List (List UInt8)} (h : partsOf (47 :: r) = some ls) : ls = parted r ∧ r.length < 64 := by
  rw [partsOf_eq] at h
  split at h
  · rename_i hc
    exact ⟨(Option.some.inj h).symm, hc.1⟩
  · cases h
/-- nothing is wanted of a world -/
def AnyW (w : World) : Prop := w = w
theorem anyW (w : World) : AnyW w := rfl
/-- what cut answers -/
def cutV (l : List UInt8) : Value := match parentP l, nameP l with
  | some a, some b => .tuple #[.string ⟨a.toArray⟩, .string ⟨b.toArray⟩, .int .i64 0]
  | _, _ => .tuple #[.string ⟨#[]⟩, .string ⟨#[]⟩, .int .i64 90]
theorem wholeP_front (ps : List (List UInt8)) (q : List UInt8) : (joinP ps ++ 47 :: q).take (max (joinP ps).length 1) = wholeP ps := by
  cases ps with
  | nil => simp [joinP, wholeP]
  | cons p ps =>
    have h1 : 1 ≤ (joinP (p :: ps)).length := by simp [joinP]
    rw [Nat.max_eq_left h1, List.take_left]
    unfold wholeP
    rw [if_neg (by simp)]
theorem cut_cases (l : List UInt8) : (parentP l = none ∧ nameP l = none ∧ cutV l = .tuple #[.string ⟨#[]⟩, .string ⟨#[]⟩, .int .i64 90]) ∨
    ∃ a b, parentP l = some a ∧ nameP l = some b ∧ cutV l = .tuple #[.string ⟨a.toArray⟩, .string ⟨b.toArray⟩, .int .i64 0] := by
  rcases path_cases l with h | ⟨rfl, h⟩ | ⟨ps, q, h, _⟩
  · have := belowP_none h
    exact .inl ⟨this.2.1, this.2.2, by unfold cutV; rw [this.2.1]⟩
  · exact .inl ⟨rfl, rfl, rfl⟩
  · have := parentP_eq h
    exact .inr ⟨_, _, this.1, this.2, by unfold cutV; rw [this.1, this.2]⟩
theorem pieces_more : ∀ (u v : List UInt8), pieces (u ++ 47 :: v) = pieces u ++ pieces v
  | [], v => by
    show pieces (47 :: v) = _
    conv => lhs; unfold pieces
    rw [if_pos rfl]; rfl
  | c :: u, v => by
    have ih := pieces_more u v
    by_cases hc : c = 47
    · subst hc
      show pieces (47 :: (u ++ 47 :: v)) = pieces (47 :: u) ++ _
      have h1 : ∀ r, pieces (47 :: r) = [] :: pieces r := fun r => by
        conv => lhs; unfold pieces
        rw [if_pos rfl]
      rw [h1, h1, ih]; rfl
    · show pieces (c :: (u ++ 47 :: v)) = pieces (c :: u) ++ _
      have h1 : ∀ r, pieces (c :: r) = match pieces r with | p :: ps => (c :: p) :: ps | [] => [[c]] := fun r => by
        conv => lhs; unfold pieces
        rw [if_neg hc]
        cases pieces r <;> rfl
      rw [h1, h1, ih]
      cases hp : pieces u with
      | nil => exact absurd hp (pieces_ne u)
      | cons p ps => rfl
/-- what is within: by bytes -/
theorem within_eq {p top : List UInt8} {a b : List (List UInt8)} (h : partsOf p = some a) (h' : partsOf top = some b) :
    withinP p top = (p == top || (top == [47] || Lib.hasPrefix p (top ++ [47]))) := by
  obtain ⟨h1, h2, h3⟩ := whole_parts h
  obtain ⟨k1, k2, k3⟩ := whole_parts h'
  have hw : withinP p top = b.isPrefixOf a := by unfold withinP; rw [h, h']
  rw [hw, Bool.eq_iff_iff]
  simp only [List.isPrefixOf_iff_prefix, Bool.or_eq_true, beq_iff_eq, Lib.hasPrefix]
  constructor
  · rintro ⟨c, rfl⟩
    by_cases hc : c = []
    · subst hc; rw [List.append_nil, k1] at h1; exact .inl h1.symm
    · by_cases hb : b = []
      · subst hb; exact .inr (.inl k1.symm)
      · refine .inr (.inr ?_)
        obtain ⟨x, c, rfl⟩ := List.exists_cons_of_ne_nil hc
        refine ⟨x ++ joinP c, ?_⟩
        rw [← h1, ← k1]
        unfold wholeP
        rw [if_neg hb, if_neg (by simp), joinP_app]
        simp [joinP]
  · rintro (rfl | rfl | ⟨t, ht⟩)
    · rw [h] at h'; cases h'; exact List.prefix_refl _
    · have : b = [] := Option.some.inj (h'.symm.trans (show partsOf [47] = some [] from rfl))
      rw [this]; exact List.nil_prefix
    · by_cases hb : b = []
      · rw [hb]; exact List.nil_prefix
      · obtain ⟨x, b, rfl⟩ := List.exists_cons_of_ne_nil hb
        have hk : top = 47 :: (x ++ joinP b) := by rw [← k1]; unfold wholeP; rw [if_neg (by simp)]; rfl
        have hp : p = 47 :: ((x ++ joinP b) ++ 47 :: t) := by rw [← ht, hk]; simp
        have hpb : pieces (x ++ joinP b) = x :: b := pieces_of _ _ (fun y hy => part_noslash (k2 y hy)) rfl
        have ha : a = (x :: b) ++ pieces t := by
          rw [hp] at h
          have := (parted_of h).1
          rw [this]
          unfold parted
          rw [if_neg (by simp), pieces_more, hpb]
        exact ⟨pieces t, ha.symm⟩
theorem within_none {p top : List UInt8} (h : partsOf p = none ∨ partsOf top = none) : withinP p top = false := by
  unfold withinP
  rcases h with h | h
  · rw [h]
  · rw [h]
    cases partsOf p <;> rfl
theorem opt_cases (o : Option (List UInt8)) : (o = none ∧ optV o = .tuple #[.string ⟨#[]⟩, .int .i64 90]) ∨ ∃ x, o = some x ∧ optV o = .tuple #[.string ⟨x.toArray⟩, .int .i64 0] := by
  cases o with
  | none => exact .inl ⟨rfl, rfl⟩
  | some x => exact .inr ⟨x, rfl, rfl⟩
theorem at_add0 (g l : Nat) : (⟨g, 0, none⟩ : Addr).add l = ⟨g, l, none⟩ := by
  unfold Addr.add
  by_cases h : l = 0
  · subst h; rfl
  · simp [h]
theorem digits_len (n : Nat) : (digits5 n).length = 5 := rfl
theorem joinP_most : ∀ qs : List (List UInt8), (∀ l ∈ qs, l.length ≤ 16) → (joinP qs).length ≤ 17 * qs.length
  | [], _ => by simp [joinP]
  | q :: qs, h => by
    have h3 := joinP_most qs (fun l hl => h l (List.mem_cons_of_mem _ hl))
    have h4 := h q (List.mem_cons_self ..)
    simp only [joinP, List.length_cons, List.length_append]
    omega
theorem join_len (qs : List (List UInt8)) (h : ∀ l ∈ qs, l.length ≤ 16) : (Lib.join qs [47]).length ≤ 17 * qs.length := by
  cases qs with
  | nil => simp [Lib.join_nil]
  | cons q qs =>
    have h5 := congrArg List.length (join_slash q qs)
    have h6 := joinP_most _ h
    simp only [List.length_cons] at h5 h6 ⊢
    omega
theorem joinP_long : ∀ ps : List (List UInt8), ps.length ≤ (joinP ps).length
  | [] => Nat.zero_le _
  | p :: ps => by
    have := joinP_long ps
    simp only [joinP, List.length_cons, List.length_append]
    omega
theorem wholeP_long (ps : List (List UInt8)) : ps.length ≤ (wholeP ps).length := by
  unfold wholeP
  split
  · rename_i h; rw [h]; simp
  · exact joinP_long ps
theorem whole_some {ps : List (List UInt8)} (h : ∀ p ∈ ps, isPart p = true) : (if (partsOf (wholeP ps)).isSome = true then some (wholeP ps) else none) = if (wholeP ps).length ≤ 64 then some (wholeP ps) else none := by
  by_cases hl : (wholeP ps).length ≤ 64
  · rw [parts_whole h hl, if_pos hl]; rfl
  · rw [if_neg hl, if_neg]
    intro hs
    obtain ⟨ls, hls⟩ := Option.isSome_iff_exists.1 hs
    exact hl (whole_parts hls).2.2
theorem ownT_empty (w : World) : OwnT (w.alloc (.cells #[] 9)) w.heap.size (some ⟨w.heap.size, 0, none⟩) 0 0 [] :=
  World.ownsRow_lit (e := 9) (base := w.heap.size) (size := 1) w #[] 0 (Nat.le_refl _) (by simp [maxLen]) rfl
theorem cat_list (a b : List UInt8) : (⟨a.toArray⟩ : ByteArray) ++ (⟨b.toArray⟩ : ByteArray) = ⟨(a ++ b).toArray⟩ := by
  rw [← sv_of (_ ++ _)]
  congr 1
theorem most_parts {l : List UInt8} {ls : List (List UInt8)} (h : partsOf l = some ls) : ls.length ≤ 64 ∧ ∀ x ∈ ls, isPart x = true ∧ x.length ≤ 16 := by
  obtain ⟨h1, h2, h3⟩ := whole_parts h
  have h4 := wholeP_long ls
  rw [h1] at h4
  exact ⟨by omega, fun x hx => ⟨h2 x hx, (part_len (h2 x hx)).2⟩⟩
theorem withinP_cases {p top : List UInt8} {a b : List (List UInt8)} (h : partsOf p = some a) (h' : partsOf top = some b) : withinP p top = b.isPrefixOf a := by
  unfold withinP; rw [h, h']
/-- new texts: all else is as it was -/
def FreshT (ls : List (List UInt8)) (w : World) (e : Ending) (w' : World) : Prop :=
  ∃ A n c, e = .returned (.slice A n c) ∧ OwnT w' w.heap.size A n c ls ∧ Below w.heap.size w w'
end Go.Proofs.YtbppokdaehaocaaDoor
