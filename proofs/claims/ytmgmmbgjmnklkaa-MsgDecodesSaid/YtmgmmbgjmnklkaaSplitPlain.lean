import Derived.Test.YtmgmmbgjmnklkaaJoin
namespace Go.Proofs.Ytmgmmbgjmnklkaa
set_option maxRecDepth 100000
open Pk
set_option linter.unusedVariables false

/-- the first field: the error, the field, the rest -/
def fld (l : List UInt8) : Nat × List UInt8 × List UInt8 :=
  if (rdN l).2.2 ≠ 0 then ((rdN l).2.2, [], [])
  else if 65536 < (rdN l).1 then (13, [], [])
  else if (l.drop (rdN l).2.1).length < (rdN l).1 then (11, [], [])
  else (0, (l.drop (rdN l).2.1).take (rdN l).1, (l.drop (rdN l).2.1).drop (rdN l).1)

theorem fld_err {l : List UInt8} (h : (fld l).1 ≠ 0) : fld l = ((fld l).1, [], []) ∧ ((fld l).1 = 11 ∨ (fld l).1 = 12 ∨ (fld l).1 = 13) := by
  unfold fld at *
  split
  · rename_i h1
    have := (rdN_err h1).2.2
    exact ⟨rfl, by rcases this with e | e <;> simp [e]⟩
  · split
    · simp
    · split
      · simp
      · rename_i h1 h2 h3
        rw [if_neg h1, if_neg h2, if_neg h3] at h
        exact absurd rfl h
theorem fld_ok {l : List UInt8} (h : (fld l).1 = 0) : encN (fld l).2.1.length ++ (fld l).2.1 ++ (fld l).2.2 = l ∧ (fld l).2.1.length ≤ 65536 ∧ (fld l).2.2.length < l.length := by
  unfold fld at *
  split at h
  · rename_i h1; exact absurd h h1
  · split at h
    · simp at h
    · split at h
      · simp at h
      · rename_i h1 h2 h3
        have h0 : (rdN l).2.2 = 0 := by omega
        rw [if_neg h1, if_neg h2, if_neg h3]
        have hc := rdN_count h0
        have e1 := encN_rdN h0
        unfold restN at e1
        rw [if_pos h0] at e1
        simp only
        have hlen : ((l.drop (rdN l).2.1).take (rdN l).1).length = (rdN l).1 := by rw [List.length_take]; omega
        rw [hlen, List.append_assoc, List.take_append_drop]
        refine ⟨e1, by omega, ?_⟩
        simp only [List.length_drop]
        omega
theorem fld_join {p more : List UInt8} (h : p.length ≤ 65536) : fld (encN p.length ++ p ++ more) = (0, p, more) := by
  have hv : p.length < 4611686018427387904 := by omega
  have h1 := rdN_enc hv (p ++ more)
  unfold fld
  rw [List.append_assoc, h1]
  simp only [List.drop_left']
  rw [if_neg (by simp), if_neg (by omega), if_neg (by simp)]
  simp

/-- all fields, k of them told ahead; with fuel -/
def splitF : Nat → Nat → List UInt8 → Nat × List (List UInt8)
  | 0, _, _ => (0, [])
  | f + 1, k, l =>
    if l = [] then (0, [])
    else if k = 1024 then (13, [])
    else if (fld l).1 ≠ 0 then ((fld l).1, [])
    else if (splitF f (k + 1) (fld l).2.2).1 ≠ 0 then ((splitF f (k + 1) (fld l).2.2).1, [])
    else (0, (fld l).2.1 :: (splitF f (k + 1) (fld l).2.2).2)
def splitN (l : List UInt8) : Nat × List (List UInt8) := splitF (l.length + 1) 0 l

/-- fields told ahead of what is told -/
def glue (acc : List (List UInt8)) (r : Nat × List (List UInt8)) : Nat × List (List UInt8) := if r.1 ≠ 0 then (r.1, []) else (0, acc ++ r.2)

theorem glue_step {f k : Nat} {l : List UInt8} {acc : List (List UInt8)} (hl : l ≠ []) (hk : k ≠ 1024) (hf : (fld l).1 = 0) :
    glue acc (splitF (f + 1) k l) = glue (acc ++ [(fld l).2.1]) (splitF f (k + 1) (fld l).2.2) := by
  rw [splitF, if_neg hl, if_neg hk, if_neg (by omega)]
  unfold glue
  by_cases h : (splitF f (k + 1) (fld l).2.2).1 = 0
  · simp [h]
  · simp [h]
theorem glue_many {f k : Nat} {l : List UInt8} {acc : List (List UInt8)} (hl : l ≠ []) (hk : k = 1024) : glue acc (splitF (f + 1) k l) = (13, []) := by
  rw [splitF, if_neg hl, if_pos hk]; rfl
theorem glue_bad {f k : Nat} {l : List UInt8} {acc : List (List UInt8)} (hl : l ≠ []) (hk : k ≠ 1024) (hf : (fld l).1 ≠ 0) : glue acc (splitF (f + 1) k l) = ((fld l).1, []) := by
  rw [splitF, if_neg hl, if_neg hk, if_pos hf]
  unfold glue
  simp [hf]
theorem glue_end {f k : Nat} {acc : List (List UInt8)} : glue acc (splitF (f + 1) k []) = (0, acc) := by
  simp [splitF, glue]
theorem glue_nil (r : Nat × List (List UInt8)) (h : r.1 ≠ 0 → r.2 = []) : glue [] r = r := by
  unfold glue
  by_cases h1 : r.1 = 0
  · simp [h1]; rw [← h1]
  · simp [h1]; have := h h1; rw [← this]
theorem splitF_err : ∀ (f k : Nat) (l : List UInt8), (splitF f k l).1 ≠ 0 → (splitF f k l).2 = [] := by
  intro f
  cases f with
  | zero => intro k l h; rfl
  | succ f =>
    intro k l
    rw [splitF]
    split
    · intro _; rfl
    · split
      · intro _; rfl
      · split
        · intro _; rfl
        · split
          · intro _; rfl
          · intro h; simp at h
theorem split_start (l : List UInt8) : splitN l = glue [] (splitF (l.length + 1) 0 l) := (glue_nil _ (splitF_err _ _ _)).symm

theorem split_join : ∀ (ls : List (List UInt8)) (f k : Nat), (joinN ls).length < f → k + ls.length ≤ 1024 → longField ls = false → splitF f k (joinN ls) = (0, ls) := by
  intro ls
  induction ls with
  | nil =>
    intro f k hf _ _
    cases f with
    | zero => simp [joinN] at hf
    | succ f => simp [joinN, splitF]
  | cons p r ih =>
    intro f k hf hk hl
    cases f with
    | zero => omega
    | succ f =>
      have hp : p.length ≤ 65536 := by
        rcases Nat.lt_or_ge 65536 p.length with h | h
        · rw [longField_at (List.mem_cons_self ..) h] at hl; cases hl
        · exact h
      have hr : longField r = false := by
        unfold longField at *
        rw [List.any_cons] at hl
        simp at hl ⊢
        exact hl.2
      have hne : joinN (p :: r) ≠ [] := by
        intro e
        have e1 := congrArg List.length e
        have e2 := encN_pos p.length
        simp only [joinN, List.length_append, List.length_nil] at e1
        omega
      have hfl := fld_join (more := joinN r) hp
      have hpos := encN_pos p.length
      simp only [joinN, List.length_append] at hf
      simp only [List.length_cons] at hk
      have := ih f (k + 1) (by omega) (by omega) hr
      simp only [joinN] at hne ⊢
      rw [splitF, if_neg hne, if_neg (by omega), hfl]
      simp [this]
theorem join_split : ∀ (f k : Nat) (l : List UInt8), l.length < f → k ≤ 1024 → (splitF f k l).1 = 0 → joinN (splitF f k l).2 = l ∧ k + (splitF f k l).2.length ≤ 1024 ∧ longField (splitF f k l).2 = false := by
  intro f
  induction f with
  | zero => intro k l h; omega
  | succ f ih =>
    intro k l hl hk
    rw [splitF]
    split
    · rename_i h; intro _; subst h; exact ⟨rfl, by simpa using hk, rfl⟩
    · split
      · intro h; simp at h
      · split
        · rename_i h; intro h2; exact absurd h2 h
        · split
          · rename_i h; intro h2; exact absurd h2 h
          · rename_i h1 h2 h3 h4
            intro _
            have h0 : (fld l).1 = 0 := by omega
            obtain ⟨e1, e2, e3⟩ := fld_ok h0
            obtain ⟨i1, i2, i3⟩ := ih (k + 1) (fld l).2.2 (by omega) (by omega) (by omega)
            refine ⟨?_, ?_, ?_⟩
            · simp only [joinN, i1]; exact e1
            · simp only [List.length_cons]; omega
            · unfold longField at *
              rw [List.any_cons, i3]
              simpa using e2
theorem splitN_joinN {ls : List (List UInt8)} (h : joinBad ls = false) : splitN (joinN ls) = (0, ls) := by
  unfold joinBad at h
  rw [Bool.or_eq_false_iff] at h
  exact split_join ls _ 0 (by omega) (by have := h.1; simp at this; omega) h.2
theorem joinN_splitN {l : List UInt8} (h : (splitN l).1 = 0) : joinN (splitN l).2 = l ∧ joinBad (splitN l).2 = false := by
  obtain ⟨h1, h2, h3⟩ := join_split (l.length + 1) 0 l (by omega) (by omega) h
  refine ⟨h1, ?_⟩
  unfold joinBad
  rw [Bool.or_eq_false_iff]
  exact ⟨by have : (splitN l).2.length ≤ 1024 := by unfold splitN; omega
            simpa using this, h3⟩
/-- what is split has no more bytes, each counted as one more, than three times the list -/
theorem total_join (ls : List (List UInt8)) : total ls ≤ (joinN ls).length := by
  induction ls with
  | nil => simp [total]
  | cons p r ih =>
    have := encN_pos p.length
    simp only [total, joinN, List.length_append]
    omega
end Go.Proofs.Ytmgmmbgjmnklkaa
