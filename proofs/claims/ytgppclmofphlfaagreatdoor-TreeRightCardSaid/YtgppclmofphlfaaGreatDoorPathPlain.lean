/-
  Paths as lists of bytes: their parts, and what is joined. Plain words; no statement.
-/
import Derived.Test.YtgppclmofphlfaaGreatDoorMBase
namespace Go.Proofs.YtgppclmofphlfaaGreatDoor
set_option maxRecDepth 100000
set_option linter.unusedVariables false

/-- may a byte stand in a part? -/
def pchar (c : UInt8) : Bool := decide ((97 ≤ c.toNat ∧ c.toNat ≤ 122) ∨ (48 ≤ c.toNat ∧ c.toNat ≤ 57) ∨ c.toNat = 45 ∨ c.toNat = 95)
def isPart (s : List UInt8) : Bool := s.all pchar && decide (1 ≤ s.length ∧ s.length ≤ 16)
/-- what stands between the slashes -/
def pieces : List UInt8 → List (List UInt8)
  | [] => [[]]
  | c :: r => if c = 47 then [] :: pieces r else match pieces r with
    | p :: ps => (c :: p) :: ps
    | [] => [[c]]
def partsOf (p : List UInt8) : Option (List (List UInt8)) :=
  match p with
  | [] => none
  | c :: r => if c = 47 ∧ r.length < 64 then (if r = [] then some [] else if (pieces r).all isPart then some (pieces r) else none) else none
/-- each with a slash ahead -/
def joinP : List (List UInt8) → List UInt8
  | [] => []
  | p :: ps => 47 :: (p ++ joinP ps)
def wholeP (ps : List (List UInt8)) : List UInt8 := if ps = [] then [47] else joinP ps
theorem pieces_ne (r : List UInt8) : pieces r ≠ [] := by
  cases r with
  | nil => simp [pieces]
  | cons c r =>
    unfold pieces
    split
    · simp
    · split <;> simp
theorem pieces_join : ∀ r : List UInt8, joinP (pieces r) = 47 :: r
  | [] => rfl
  | c :: r => by
    have ih := pieces_join r
    unfold pieces
    split
    · rename_i h
      subst h
      simp [joinP, ih]
    · cases hp : pieces r with
      | nil => exact absurd hp (pieces_ne r)
      | cons p ps =>
        rw [hp] at ih
        simp only [joinP, List.cons.injEq, true_and] at ih
        simp [joinP, ih]
theorem pieces_app {p r : List UInt8} (h : (47 : UInt8) ∉ p) : pieces (p ++ r) = match pieces r with | q :: qs => (p ++ q) :: qs | [] => [p] := by
  induction p with
  | nil =>
    cases hp : pieces r with
    | nil => exact absurd hp (pieces_ne r)
    | cons q qs => simp [hp]
  | cons c p ih =>
    simp only [List.mem_cons, not_or] at h
    have ih := ih h.2
    rw [List.cons_append]
    rw [show pieces (c :: (p ++ r)) = match pieces (p ++ r) with | p :: ps => (c :: p) :: ps | [] => [[c]] by
      conv => lhs; unfold pieces
      rw [if_neg (fun e => h.1 e.symm)], ih]
    cases hp : pieces r with
    | nil => exact absurd hp (pieces_ne r)
    | cons q qs => simp
theorem pieces_of : ∀ (ps : List (List UInt8)) (r : List UInt8), (∀ p ∈ ps, (47 : UInt8) ∉ p) → joinP ps = 47 :: r → pieces r = ps
  | [], r, _, h => by cases h
  | p :: ps, r, hn, h => by
    simp only [joinP, List.cons.injEq, true_and] at h
    subst h
    have hp := hn p (List.mem_cons_self ..)
    rw [pieces_app hp]
    cases ps with
    | nil => simp [joinP, pieces]
    | cons q qs =>
      have hj : joinP (q :: qs) = 47 :: (q ++ joinP qs) := rfl
      rw [hj]
      have ih := pieces_of (q :: qs) (q ++ joinP qs) (fun x hx => hn x (List.mem_cons_of_mem _ hx)) rfl
      unfold pieces
      rw [if_pos rfl, ih]
      simp
theorem part_noslash {s : List UInt8} (h : isPart s = true) : (47 : UInt8) ∉ s := by
  intro hm
  unfold isPart at h
  simp only [Bool.and_eq_true, List.all_eq_true] at h
  have := h.1 47 hm
  revert this
  decide
theorem part_len {s : List UInt8} (h : isPart s = true) : 1 ≤ s.length ∧ s.length ≤ 16 := by
  unfold isPart at h
  simp only [Bool.and_eq_true, decide_eq_true_eq] at h
  exact h.2
theorem parts_whole {ps : List (List UInt8)} (h : ∀ p ∈ ps, isPart p = true) (hl : (wholeP ps).length ≤ 64) : partsOf (wholeP ps) = some ps := by
  cases ps with
  | nil => rfl
  | cons p ps =>
    have hw : wholeP (p :: ps) = 47 :: (p ++ joinP ps) := by unfold wholeP; rw [if_neg (by simp)]; rfl
    rw [hw] at hl ⊢
    have hp := part_len (h p (List.mem_cons_self ..))
    have hq := pieces_of (p :: ps) (p ++ joinP ps) (fun x hx => part_noslash (h x hx)) rfl
    unfold partsOf
    simp only [List.length_cons] at hl
    show (if (47 : UInt8) = 47 ∧ (p ++ joinP ps).length < 64 then _ else _) = _
    rw [if_pos ⟨rfl, by omega⟩, if_neg, hq, if_pos (by simpa using h)]
    intro e
    have := congrArg List.length e
    simp at this
    rw [this.1] at hp
    simp at hp
theorem whole_parts {p : List UInt8} {ps : List (List UInt8)} (h : partsOf p = some ps) : wholeP ps = p ∧ (∀ q ∈ ps, isPart q = true) ∧ p.length ≤ 64 := by
  unfold partsOf at h
  cases p with
  | nil => cases h
  | cons c r =>
    simp only at h
    split at h
    · rename_i hc
      obtain ⟨rfl, hl⟩ := hc
      split at h
      · rename_i hr
        subst hr
        obtain rfl := Option.some.inj h
        exact ⟨rfl, by simp, by simp⟩
      · split at h
        · rename_i hr ha
          obtain rfl := Option.some.inj h
          refine ⟨?_, by simpa using ha, by simp only [List.length_cons]; omega⟩
          unfold wholeP
          rw [if_neg (pieces_ne r), pieces_join]
        · cases h
    · cases h
theorem joinP_app (a b : List (List UInt8)) : joinP (a ++ b) = joinP a ++ joinP b := by
  induction a with
  | nil => rfl
  | cons p a ih => simp [joinP, ih]
theorem joinP_len (ps : List (List UInt8)) : (joinP ps).length = (ps.map fun p => 1 + p.length).sum := by
  induction ps with
  | nil => rfl
  | cons p ps ih => simp [joinP, ih]; omega
theorem joinP_inj {a b : List (List UInt8)} (ha : ∀ p ∈ a, isPart p = true) (hb : ∀ p ∈ b, isPart p = true) (h : joinP a = joinP b) : a = b := by
  cases a with
  | nil => cases b with
    | nil => rfl
    | cons q b => cases h
  | cons p a => cases b with
    | nil => cases h
    | cons q b =>
      have h1 := pieces_of (p :: a) (p ++ joinP a) (fun x hx => part_noslash (ha x hx)) rfl
      have h2 := pieces_of (q :: b) (p ++ joinP a) (fun x hx => part_noslash (hb x hx)) (by rw [← h]; rfl)
      rw [← h1, h2]
/-- the document's answers -/
def parentP (p : List UInt8) : Option (List UInt8) := match partsOf p with
  | some (q :: ps) => some (wholeP (q :: ps).dropLast)
  | _ => none
def nameP (p : List UInt8) : Option (List UInt8) := match partsOf p with
  | some (q :: ps) => (q :: ps).getLast?
  | _ => none
def joinsP (p : List UInt8) (parts : List (List UInt8)) : Option (List UInt8) := match partsOf p with
  | some s => if (parts.all isPart) = true ∧ (wholeP (s ++ parts)).length ≤ 64 then some (wholeP (s ++ parts)) else none
  | none => none
def digits5 (n : Nat) : List UInt8 := [UInt8.ofNat (48 + n / 10000 % 10), UInt8.ofNat (48 + n / 1000 % 10), UInt8.ofNat (48 + n / 100 % 10), UInt8.ofNat (48 + n / 10 % 10), UInt8.ofNat (48 + n % 10)]
def numberedP (p : List UInt8) (n : Int) : Option (List UInt8) :=
  if (nameP p).isSome = true ∧ 0 ≤ n ∧ n ≤ 99999 ∧ (partsOf (p ++ digits5 n.toNat)).isSome = true then some (p ++ digits5 n.toNat) else none
def withinP (p top : List UInt8) : Bool := match partsOf p, partsOf top with
  | some a, some b => b.isPrefixOf a
  | _, _ => false
end Go.Proofs.YtgppclmofphlfaaGreatDoor
