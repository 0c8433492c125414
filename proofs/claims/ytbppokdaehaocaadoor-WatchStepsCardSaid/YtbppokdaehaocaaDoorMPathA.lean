import Derived.Test.YtbppokdaehaocaaDoorMBase
import Derived.Lib.Split
import Derived.Lib.SplitLaws
import Derived.Lib.Join
import Derived.Lib.LastIndexByte
import Derived.Lib.ItoaNum
import Derived.Lib.ItoaMem
import Derived.Lib.Repeat
import Derived.Lib.IndexBytes
import Derived.Lib.LaidTab

/-
  Paths as lists of bytes: their parts, and what is joined. Plain words; no statement.
-/
namespace Go.Proofs.YtbppokdaehaocaaDoor
set_option maxRecDepth 100000
set_option linter.unusedVariables false

/-- may a byte stand in a part? -/
def pchar (c : UInt8) : Bool := decide ((97 ≤ c.toNat ∧ c.toNat ≤ 122) ∨ (48 ≤ c.toNat ∧ c.toNat ≤ 57) ∨ c.toNat = 45 ∨ c.toNat = 95)
def isPart (s : List UInt8) : Bool := s.all pchar && decide (1 ≤ s.length ∧ s.length ≤ 16)
/-- what stands between the slashes -/
def pieces : List UInt8 → List (List UInt8)
  | [] => [[]]
  | c :: r => if c = 47 then [] :: pieces r else match pieces r with
    | p :: ps => (c :: p) :: ps
    | [] => [[c]]
def partsOf (p : List UInt8) : Option (List (List UInt8)) :=
  match p with
  | [] => none
  | c :: r => if c = 47 ∧ r.length < 64 then (if r = [] then some [] else if (pieces r).all isPart then some (pieces r) else none) else none
/-- each with a slash ahead -/
def joinP : List (List UInt8) → List UInt8
  | [] => []
  | p :: ps => 47 :: (p ++ joinP ps)
def wholeP (ps : List (List UInt8)) : List UInt8 := if ps = [] then [47] else joinP ps
theorem pieces_ne (r : List UInt8) : pieces r ≠ [] := by
  cases r with
  | nil => simp [pieces]
  | cons c r =>
    unfold pieces
    split
    · simp
    · split <;> simp
theorem pieces_join : ∀ r : List UInt8, joinP (pieces r) = 47 :: r
  | [] => rfl
  | c :: r => by
    have ih := pieces_join r
    unfold pieces
    split
    · rename_i h
      subst h
      simp [joinP, ih]
    · cases hp : pieces r with
      | nil => exact absurd hp (pieces_ne r)
      | cons p ps =>
        rw [hp] at ih
        simp only [joinP, List.cons.injEq, true_and] at ih
        simp [joinP, ih]
theorem pieces_app {p r : List UInt8} (h : (47 : UInt8) ∉ p) : pieces (p ++ r) = match pieces r with | q :: qs => (p ++ q) :: qs | [] => [p] := by
  induction p with
  | nil =>
    cases hp : pieces r with
    | nil => exact absurd hp (pieces_ne r)
    | cons q qs => simp [hp]
  | cons c p ih =>
    simp only [List.mem_cons, not_or] at h
    have ih := ih h.2
    rw [List.cons_append]
    rw [show pieces (c :: (p ++ r)) = match pieces (p ++ r) with | p :: ps => (c :: p) :: ps | [] => [[c]] by
      conv => lhs; unfold pieces
      rw [if_neg (fun e => h.1 e.symm)], ih]
    cases hp : pieces r with
    | nil => exact absurd hp (pieces_ne r)
    | cons q qs => simp
theorem pieces_of : ∀ (ps : List (List UInt8)) (r : List UInt8), (∀ p ∈ ps, (47 : UInt8) ∉ p) → joinP ps = 47 :: r → pieces r = ps
  | [], r, _, h => by cases h
  | p :: ps, r, hn, h => by
    simp only [joinP, List.cons.injEq, true_and] at h
    subst h
    have hp := hn p (List.mem_cons_self ..)
    rw [pieces_app hp]
    cases ps with
    | nil => simp [joinP, pieces]
    | cons q qs =>
      have hj : joinP (q :: qs) = 47 :: (q ++ joinP qs) := rfl
      rw [hj]
      have ih := pieces_of (q :: qs) (q ++ joinP qs) (fun x hx => hn x (List.mem_cons_of_mem _ hx)) rfl
      unfold pieces
      rw [if_pos rfl, ih]
      simp
theorem part_noslash {s : List UInt8} (h : isPart s = true) : (47 : UInt8) ∉ s := by
  intro hm
  unfold isPart at h
  simp only [Bool.and_eq_true, List.all_eq_true] at h
  have := h.1 47 hm
  revert this
  decide
theorem part_len {s : List UInt8} (h : isPart s = true) : 1 ≤ s.length ∧ s.length ≤ 16 := by
  unfold isPart at h
  simp only [Bool.and_eq_true, decide_eq_true_eq] at h
  exact h.2
theorem parts_whole {ps : List (List UInt8)} (h : ∀ p ∈ ps, isPart p = true) (hl : (wholeP ps).length ≤ 64) : partsOf (wholeP ps) = some ps := by
  cases ps with
  | nil => rfl
  | cons p ps =>
    have hw : wholeP (p :: ps) = 47 :: (p ++ joinP ps) := by unfold wholeP; rw [if_neg (by simp)]; rfl
    rw [hw] at hl ⊢
    have hp := part_len (h p (List.mem_cons_self ..))
    have hq := pieces_of (p :: ps) (p ++ joinP ps) (fun x hx => part_noslash (h x hx)) rfl
    unfold partsOf
    simp only [List.length_cons] at hl
    show (if (47 : UInt8) = 47 ∧ (p ++ joinP ps).length < 64 then _ else _) = _
    rw [if_pos ⟨rfl, by omega⟩, if_neg, hq, if_pos (by simpa using h)]
    intro e
    have := congrArg List.length e
    simp at this
    rw [this.1] at hp
    simp at hp
theorem whole_parts {p : List UInt8} {ps : List (List UInt8)} (h : partsOf p = some ps) : wholeP ps = p ∧ (∀ q ∈ ps, isPart q = true) ∧ p.length ≤ 64 := by
  unfold partsOf at h
  cases p with
  | nil => cases h
  | cons c r =>
    simp only at h
    split at h
    · rename_i hc
      obtain ⟨rfl, hl⟩ := hc
      split at h
      · rename_i hr
        subst hr
        obtain rfl := Option.some.inj h
        exact ⟨rfl, by simp, by simp⟩
      · split at h
        · rename_i hr ha
          obtain rfl := Option.some.inj h
          refine ⟨?_, by simpa using ha, by simp only [List.length_cons]; omega⟩
          unfold wholeP
          rw [if_neg (pieces_ne r), pieces_join]
        · cases h
    · cases h
theorem joinP_app (a b : List (List UInt8)) : joinP (a ++ b) = joinP a ++ joinP b := by
  induction a with
  | nil => rfl
  | cons p a ih => simp [joinP, ih]
theorem joinP_len (ps : List (List UInt8)) : (joinP ps).length = (ps.map fun p => 1 + p.length).sum := by
  induction ps with
  | nil => rfl
  | cons p ps ih => simp [joinP, ih]; omega
theorem joinP_inj {a b : List (List UInt8)} (ha : ∀ p ∈ a, isPart p = true) (hb : ∀ p ∈ b, isPart p = true) (h : joinP a = joinP b) : a = b := by
  cases a with
  | nil => cases b with
    | nil => rfl
    | cons q b => cases h
  | cons p a => cases b with
    | nil => cases h
    | cons q b =>
      have h1 := pieces_of (p :: a) (p ++ joinP a) (fun x hx => part_noslash (ha x hx)) rfl
      have h2 := pieces_of (q :: b) (p ++ joinP a) (fun x hx => part_noslash (hb x hx)) (by rw [← h]; rfl)
      rw [← h1, h2]
/-- the document's answers -/
def parentP (p : List UInt8) : Option (List UInt8) := match partsOf p with
  | some (q :: ps) => some (wholeP (q :: ps).dropLast)
  | _ => none
def nameP (p : List UInt8) : Option (List UInt8) := match partsOf p with
  | some (q :: ps) => (q :: ps).getLast?
  | _ => none
def joinsP (p : List UInt8) (parts : List (List UInt8)) : Option (List UInt8) := match partsOf p with
  | some s => if (parts.all isPart) = true ∧ (wholeP (s ++ parts)).length ≤ 64 then some (wholeP (s ++ parts)) else none
  | none => none
def digits5 (n : Nat) : List UInt8 := [UInt8.ofNat (48 + n / 10000 % 10), UInt8.ofNat (48 + n / 1000 % 10), UInt8.ofNat (48 + n / 100 % 10), UInt8.ofNat (48 + n / 10 % 10), UInt8.ofNat (48 + n % 10)]
def numberedP (p : List UInt8) (n : Int) : Option (List UInt8) :=
  if (nameP p).isSome = true ∧ 0 ≤ n ∧ n ≤ 99999 ∧ (partsOf (p ++ digits5 n.toNat)).isSome = true then some (p ++ digits5 n.toNat) else none
def withinP (p top : List UInt8) : Bool := match partsOf p, partsOf top with
  | some a, some b => b.isPrefixOf a
  | _, _ => false
end Go.Proofs.YtbppokdaehaocaaDoor

/-
  The library's words for cutting, joining, looking for the last slash and printing a number, in the words of paths. Plain lemmas; no statement.
-/
namespace Go.Proofs.YtbppokdaehaocaaDoor
set_option maxRecDepth 100000
set_option linter.unusedVariables false

theorem slash_cut : ∀ s : List UInt8, (47 : UInt8) ∉ s ∨ ∃ p r, s = p ++ 47 :: r ∧ (47 : UInt8) ∉ p
  | [] => .inl (by simp)
  | c :: s => by
    by_cases hc : c = 47
    · exact .inr ⟨[], s, by rw [hc]; rfl, by simp⟩
    · rcases slash_cut s with h | ⟨p, r, h, hp⟩
      · exact .inl (by simp only [List.mem_cons, not_or]; exact ⟨fun e => hc e.symm, h⟩)
      · exact .inr ⟨c :: p, r, by rw [h]; rfl, by simp only [List.mem_cons, not_or]; exact ⟨fun e => hc e.symm, hp⟩⟩
theorem pieces_none {s : List UInt8} (h : (47 : UInt8) ∉ s) : pieces s = [s] := by
  have := pieces_app (p := s) (r := []) h
  simpa [pieces] using this
theorem pieces_cut {p r : List UInt8} (h : (47 : UInt8) ∉ p) : pieces (p ++ 47 :: r) = p :: pieces r := by
  rw [pieces_app h]
  have : pieces (47 :: r) = [] :: pieces r := by
    conv => lhs; unfold pieces
    rw [if_pos rfl]
  rw [this]
  simp
theorem index_slash_none {s : List UInt8} (h : (47 : UInt8) ∉ s) : Lib.index s [47] = -1 := by
  refine Lib.index_none fun j _ => ?_
  unfold Lib.occAt
  cases hd : s.drop j with
  | nil => rfl
  | cons c r =>
    have hm : c ∈ s := List.mem_of_mem_drop (by rw [hd]; exact List.mem_cons_self ..)
    have hc : ((47 : UInt8) == c) = false := by simp only [beq_eq_false_iff_ne]; intro e; exact h (e ▸ hm)
    simp [List.isPrefixOf, hc]
theorem index_slash {p r : List UInt8} (h : (47 : UInt8) ∉ p) : Lib.index (p ++ 47 :: r) [47] = p.length := by
  refine Lib.index_first (by simp) ?_ fun j hj => ?_
  · unfold Lib.occAt
    rw [List.drop_left]
    simp [List.isPrefixOf]
  · unfold Lib.occAt
    rw [List.drop_append_of_le_length (by omega)]
    cases hd : p.drop j with
    | nil => exact absurd (congrArg List.length hd) (by simp; omega)
    | cons c q =>
      have hm : c ∈ p := List.mem_of_mem_drop (by rw [hd]; exact List.mem_cons_self ..)
      have hc : ((47 : UInt8) == c) = false := by simp only [beq_eq_false_iff_ne]; intro e; exact h (e ▸ hm)
      simp [List.isPrefixOf, hc]
theorem split_pieces : ∀ (n : Nat) (s : List UInt8), s.length ≤ n → Lib.splitK [47] 0 (Lib.count s [47]) s = pieces s
  | n, s, hn => by
    rcases slash_cut s with h | ⟨p, r, rfl, hp⟩
    · rw [Lib.count_miss (index_slash_none h), pieces_none h]; rfl
    · rw [Lib.count_hit (by simp) (index_slash hp), pieces_cut hp, Nat.add_comm 1]
      cases n with
      | zero => simp at hn
      | succ n =>
        have hr : r.length ≤ n := by simp at hn; omega
        have hd : (p ++ 47 :: r).drop (p.length + [(47 : UInt8)].length) = r := by
          rw [show p ++ 47 :: r = (p ++ [47]) ++ r by simp, show p.length + [(47 : UInt8)].length = (p ++ [(47 : UInt8)]).length by simp, List.drop_left]
        rw [hd]
        unfold Lib.splitK
        rw [index_slash hp, if_neg (by simp)]
        simp only [Int.toNat_natCast, Nat.add_zero, List.take_left, hd]
        rw [split_pieces n r hr]
theorem splitB_pieces (s : ByteArray) : (Lib.splitB ⟨#[47]⟩ 0 (Lib.countB s ⟨#[47]⟩) s).map (·.data.toList) = pieces s.data.toList := by
  rw [Lib.splitB_data]
  exact split_pieces _ _ (Nat.le_refl _)
theorem join_slash : ∀ (p : List UInt8) (ps : List (List UInt8)), 47 :: Lib.join (p :: ps) [47] = joinP (p :: ps)
  | p, [] => by rw [Lib.join_one]; simp [joinP]
  | p, q :: ps => by
    have ih := join_slash q ps
    rw [Lib.join_cons] at ih ⊢
    simp only [Lib.joinTail, List.map_cons, List.flatten_cons] at ih ⊢
    simp only [joinP, List.cons.injEq, true_and] at ih ⊢
    rw [← ih]
    simp
theorem join_whole (ps : List (List UInt8)) : 47 :: Lib.join ps [47] = wholeP ps := by
  cases ps with
  | nil => rfl
  | cons p ps => rw [join_slash]; unfold wholeP; rw [if_neg (by simp)]
theorem last_slash (s : ByteArray) (a q : List UInt8) (h : s.data.toList = a ++ 47 :: q) (hq : (47 : UInt8) ∉ q) : Lib.lastIndexByte s ((47 : Nat) : Int) = a.length := by
  have hl : s.size = a.length + 1 + q.length := by rw [Lib.size_eq, h]; simp; omega
  have hg : ∀ j, s.data[j]! = (a ++ 47 :: q).getD j default := by
    intro j
    rw [← h]
    simp [List.getD, Array.getElem!_eq_getD, Array.getD_eq_getD_getElem?]
  rcases Lib.lastIndexByte_spec s ((47 : Nat) : Int) with ⟨e, hn⟩ | ⟨i, hi, e, hc, hn⟩
  · refine absurd ?_ (hn a.length (by omega))
    rw [hg]
    simp
  · rw [e]
    congr 1
    rcases Nat.lt_trichotomy i a.length with h1 | h1 | h1
    · refine absurd ?_ (hn a.length h1 (by omega))
      rw [hg]
      simp
    · exact h1
    · exfalso
      rw [hg] at hc
      apply hq
      have e2 : (a ++ 47 :: q).getD i default = q.getD (i - a.length - 1) default := by
        simp only [List.getD]
        rw [List.getElem?_append_right (by omega), show i - a.length = (i - a.length - 1) + 1 by omega, List.getElem?_cons_succ, Nat.add_sub_cancel]
      rw [e2] at hc
      have hlt : i - a.length - 1 < q.length := by omega
      have e3 : q.getD (i - a.length - 1) default = q[i - a.length - 1] := by simp [List.getD, hlt]
      rw [e3] at hc
      have : q[i - a.length - 1] = 47 := UInt8.toNat_inj.1 (Int.ofNat_inj.1 hc)
      rw [← this]
      exact List.getElem_mem hlt
/-- a path that isn't the root: what stands ahead of its last slash, and behind it -/
theorem joinP_last (ps : List (List UInt8)) (q : List UInt8) : joinP (ps ++ [q]) = joinP ps ++ 47 :: q := by rw [joinP_app]; simp [joinP]
theorem dig_ofNat (u : Nat) (h : u < 10) : Lib.decDigits u = [UInt8.ofNat (48 + u)] := Lib.decDigits_one h
theorem decDigits_more {u : Nat} (h : ¬ u < 10) : Lib.decDigits u = Lib.decDigits (u / 10) ++ [UInt8.ofNat (48 + u % 10)] := by rw [Lib.decDigits, dif_neg h]
theorem digits_five (u : Nat) (h : u < 100000) : (Lib.decDigits u).length ≤ 5 ∧ Lib.repeatL [48] (5 - (Lib.decDigits u).length) ++ Lib.decDigits u = digits5 u := by
  have z : ∀ k : Nat, k = 0 → UInt8.ofNat (48 + k) = 48 := by rintro k rfl; rfl
  by_cases h1 : u < 10
  · rw [dig_ofNat u h1]
    refine ⟨by simp, ?_⟩
    simp [Lib.repeatL, digits5, show u / 10000 % 10 = 0 by omega, show u / 1000 % 10 = 0 by omega, show u / 100 % 10 = 0 by omega, show u / 10 % 10 = 0 by omega, show u % 10 = u by omega]
  · by_cases h2 : u < 100
    · rw [decDigits_more h1, dig_ofNat (u / 10) (by omega)]
      refine ⟨by simp, ?_⟩
      simp [Lib.repeatL, digits5, show u / 10000 % 10 = 0 by omega, show u / 1000 % 10 = 0 by omega, show u / 100 % 10 = 0 by omega, show u / 10 % 10 = u / 10 by omega]
    · by_cases h3 : u < 1000
      · rw [decDigits_more h1, decDigits_more (u := u / 10) (by omega), dig_ofNat (u / 10 / 10) (by omega)]
        refine ⟨by simp, ?_⟩
        simp [Lib.repeatL, digits5, show u / 10000 % 10 = 0 by omega, show u / 1000 % 10 = 0 by omega, show u / 100 % 10 = u / 10 / 10 by omega]
      · by_cases h4 : u < 10000
        · rw [decDigits_more h1, decDigits_more (u := u / 10) (by omega), decDigits_more (u := u / 10 / 10) (by omega), dig_ofNat (u / 10 / 10 / 10) (by omega)]
          refine ⟨by simp, ?_⟩
          simp [Lib.repeatL, digits5, show u / 10000 % 10 = 0 by omega, show u / 1000 % 10 = u / 10 / 10 / 10 by omega, show u / 100 % 10 = u / 10 / 10 % 10 by omega]
        · rw [decDigits_more h1, decDigits_more (u := u / 10) (by omega), decDigits_more (u := u / 10 / 10) (by omega), decDigits_more (u := u / 10 / 10 / 10) (by omega), dig_ofNat (u / 10 / 10 / 10 / 10) (by omega)]
          refine ⟨by simp, ?_⟩
          simp [Lib.repeatL, digits5, show u / 10000 % 10 = u / 10 / 10 / 10 / 10 by omega, show u / 1000 % 10 = u / 10 / 10 / 10 % 10 by omega, show u / 100 % 10 = u / 10 / 10 % 10 by omega]
end Go.Proofs.YtbppokdaehaocaaDoor

/-
  Words for texts in memory: a slice of strings that reads as a list of texts, a row of texts of the call's own, what the library's calls want of the world, what calls answer. Plain lemmas; no statement.
-/
namespace Go.Proofs.YtbppokdaehaocaaDoor
set_option maxRecDepth 100000
open Go.RowKit
set_option linter.unusedVariables false

/-- a text as a value -/
abbrev sv (l : List UInt8) : Value := .string ⟨l.toArray⟩
theorem sv_of (s : ByteArray) : (⟨s.data.toList.toArray⟩ : ByteArray) = s := Lib.mk_data s
theorem info_str : (Tryd.prog.info? 9).map (fun i => (i.zero, i.size, i.bytes)) = some (some (.string ByteArray.empty), 1, 16) := by kernel_rfl
/-- the slice reads as these texts -/
def RdT (w : World) (A : Option Addr) (n : Nat) (ls : List (List UInt8)) : Prop := Rd w A n (ls.map sv)
/-- a row of texts of the call's own -/
def OwnT (w : World) (base : Nat) (A : Option Addr) (n c : Nat) (ls : List (List UInt8)) : Prop := w.ownsRow base 9 1 (.slice A n c) n (ls.map sv)
theorem oneCell_texts (ls : List (List UInt8)) : ∀ u ∈ ls.map sv, u.oneCell' = true := by
  intro u hu
  obtain ⟨l, _, rfl⟩ := List.mem_map.1 hu
  rfl
section
variable {w w' : World} {base : Nat} {A : Option Addr} {n c : Nat} {ls : List (List UInt8)}
theorem RdT.len (h : RdT w A n ls) : ls.length = n := by simpa using h.1
theorem RdT.below (h : RdT w A n ls) (hb : Below w.heap.size w w') : RdT w' A n ls := Rd.below h hb
theorem RdT.drewN (h : RdT w A n ls) (k : Nat) : RdT (w.drewN k) A n ls := h
theorem RdT.alloc (h : RdT w A n ls) (o : Obj) : RdT (w.alloc o) A n ls := Rd.alloc h o
theorem RdT.nil_ (w : World) (A : Option Addr) : RdT w A 0 [] := Rd.nil_ w A
theorem RdT.at_ (h : RdT w A n ls) {k : Nat} (hk : k < n) : ∃ a, A = some a ∧ a.block < w.heap.size ∧ w.cell? (a.add k) = some (.string ⟨(ls.getD k []).toArray⟩) := by
  obtain ⟨a, e, hb, hc⟩ := Rd.at_ h hk
  refine ⟨a, e, hb, ?_⟩
  rw [hc]
  have hl := h.len
  simp [List.getD, show k < ls.length by omega]
theorem OwnT.len (h : OwnT w base A n c ls) : ls.length = n := by simpa using h.1
theorem OwnT.rd (h : OwnT w base A n c ls) : RdT w A n ls := Rd.own h
theorem OwnT.nil_ (w : World) (base : Nat) : OwnT w base none 0 0 [] := World.ownsRow_nil w base _ 1
theorem OwnT.block (h : OwnT w base A n c ls) : ∀ g, (Value.slice A n c).ownBlock = some g → base ≤ g := fun g hg => (World.ownsRow.lt h g hg).1
theorem OwnT.below (h : OwnT w base A n c ls) (hb : Below w.heap.size w w') : OwnT w' base A n c ls :=
  World.ownsRow.kept h (grown_of_below hb none) (by cases (Value.slice A n c).ownBlock <;> simp)
theorem OwnT.more {base' : Nat} (h : OwnT w base A n c ls) (hb : base' ≤ base) : OwnT w base' A n c ls := by
  refine ⟨h.1, ?_⟩
  rcases h.2 with h2 | ⟨g, cap, cur, e1, hg, r⟩
  · exact .inl h2
  · exact .inr ⟨g, cap, cur, e1, by omega, r⟩
theorem OwnT.cap (h : OwnT w base A n c ls) : n ≤ c := by
  rcases h.2 with ⟨e1, _⟩ | ⟨g, cap, cur, e1, _, _, hnc, _⟩
  · injection e1 with e3 e4 e5; omega
  · injection e1 with e3 e4 e5; omega
end
/-- what the library's calls want: the variable that they read -/
def Env (w : World) : Prop := (∃ m, w.cell? ⟨0, 0, none⟩ = some (.int .i64 m)) ∧ True
theorem Env.keep {w w' : World} (h : Env w) (hb : ∀ i, i < w.heap.size → w'.heap[i]? = w.heap[i]?) : Env w' := by
  obtain ⟨⟨m, hm⟩, ht⟩ := h
  refine ⟨⟨m, ?_⟩, ht⟩
  rw [World.cell?_of_block (w := w) (hb _ (World.block_lt_of_cell? _ _ hm))]; exact hm
theorem Env.below {w w' : World} (h : Env w) (hb : Below w.heap.size w w') : Env w' := h.keep fun i hi => hb.block i hi
theorem Env.drewN {w : World} (h : Env w) (k : Nat) : Env (w.drewN k) := h
theorem Env.alloc {w : World} (h : Env w) (o : Obj) : Env (w.alloc o) := h.below ((Below.refl _ _).alloc (Nat.le_refl _) o)
/-- returns this, and nothing that was there has turned -/
def Ans (r : Value) (w : World) (e : Ending) (w' : World) : Prop := e = .returned r ∧ Below w.heap.size w w'
def errB (b : Bool) : Int := if b then 0 else 90
/-- a text or the error -/
def optV (o : Option (List UInt8)) : Value := match o with
  | some l => .tuple #[.string ⟨l.toArray⟩, .int .i64 0]
  | none => .tuple #[.string ⟨#[]⟩, .int .i64 90]
/-- texts of the call's own, or the error -/
def PartsP (o : Option (List (List UInt8))) (w : World) (e : Ending) (w' : World) : Prop :=
  Below w.heap.size w w' ∧ match o with
    | some ls => ∃ A n c, e = .returned (.tuple #[.slice A n c, .int .i64 0]) ∧ OwnT w' w.heap.size A n c ls
    | none => e = .returned (.tuple #[.slice none 0 0, .int .i64 90])
end Go.Proofs.YtbppokdaehaocaaDoor
