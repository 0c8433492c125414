/-
  Plain functions of layer 1 (pack): a number's bytes, the number that bytes begin with, lists of fields; and what holds of them. Nothing of the program.
-/
namespace Go.Proofs.YtfdmnnbcnaofgaaDoor.Pk

/-- a number's groups, with fuel -/
def enc : Nat → Nat → List UInt8
  | 0, _ => []
  | f + 1, v => if v < 128 then [UInt8.ofNat v] else UInt8.ofNat (v % 128 + 128) :: enc f (v / 128)
/-- a number's bytes -/
def encN (v : Nat) : List UInt8 := enc (v + 1) v

theorem enc_fuel : ∀ (f v g : Nat), v < f → v < g → enc f v = enc g v := by
  intro f
  induction f with
  | zero => intro v g h; omega
  | succ f ih =>
    intro v g h hg
    cases g with
    | zero => omega
    | succ g =>
      simp only [enc]
      split
      · rfl
      · rw [ih (v / 128) g (by omega) (by omega)]
theorem encN_small {v : Nat} (h : v < 128) : encN v = [UInt8.ofNat v] := by simp [encN, enc, h]
theorem encN_big {v : Nat} (h : 128 ≤ v) : encN v = UInt8.ofNat (v % 128 + 128) :: encN (v / 128) := by
  unfold encN
  rw [enc, if_neg (by omega), enc_fuel v (v / 128) (v / 128 + 1) (by omega) (by omega)]

/-- so many groups at the most -/
theorem encN_len : ∀ (k v : Nat), v < 128 ^ (k + 1) → (encN v).length ≤ k + 1 := by
  intro k
  induction k with
  | zero => intro v h; rw [encN_small (by simpa using h)]; simp
  | succ k ih =>
    intro v h
    by_cases hv : v < 128
    · rw [encN_small hv]; simp
    · rw [encN_big (by omega), List.length_cons]
      have : v / 128 < 128 ^ (k + 1) := by
        apply Nat.div_lt_of_lt_mul
        rw [Nat.pow_succ] at h
        omega
      have := ih _ this
      omega
theorem encN_len9 {v : Nat} (h : v < 4611686018427387904) : (encN v).length ≤ 9 := encN_len 8 v (by omega)
theorem encN_pos (v : Nat) : 0 < (encN v).length := by
  by_cases h : v < 128
  · rw [encN_small h]; simp
  · rw [encN_big (by omega)]; simp

/-- the number that bytes begin with, how many bytes it has, and the error (0: none) -/
def rd : Nat → Nat → List UInt8 → Nat × Nat × Nat
  | _, _, [] => (0, 0, 11)
  | i, v, c :: r =>
    if (i = 8 ∧ (128 ≤ c.toNat ∨ 63 < c.toNat % 128)) ∨ (c.toNat = 0 ∧ 0 < i) then (0, 0, 12)
    else if c.toNat < 128 then (v + c.toNat * 2 ^ (7 * i), i + 1, 0)
    else rd (i + 1) (v + c.toNat % 128 * 2 ^ (7 * i)) r
def rdN (l : List UInt8) : Nat × Nat × Nat := rd 0 0 l

theorem rd_count : ∀ (l : List UInt8) (i v : Nat), (rd i v l).2.2 = 0 → i < (rd i v l).2.1 ∧ (rd i v l).2.1 ≤ i + l.length := by
  intro l
  induction l with
  | nil => intro i v h; simp [rd] at h
  | cons c r ih =>
    intro i v
    rw [rd]
    split
    · intro h; simp at h
    · split
      · intro _; simp
      · intro h
        have := ih (i + 1) _ h
        simp only [List.length_cons]
        omega
theorem rd_err : ∀ (l : List UInt8) (i v : Nat), (rd i v l).2.2 ≠ 0 → (rd i v l).1 = 0 ∧ (rd i v l).2.1 = 0 ∧ ((rd i v l).2.2 = 11 ∨ (rd i v l).2.2 = 12) := by
  intro l
  induction l with
  | nil => intro i v _; simp [rd]
  | cons c r ih =>
    intro i v
    rw [rd]
    split
    · intro _; simp
    · split
      · intro h; simp at h
      · intro h; exact ih (i + 1) _ h
/-- the value stays below 2^62 -/
theorem rd_lt : ∀ (l : List UInt8) (i v : Nat), i ≤ 8 → v < 2 ^ (7 * i) → (rd i v l).1 < 4611686018427387904 := by
  intro l
  induction l with
  | nil => intro i v _ _; simp [rd]
  | cons c r ih =>
    intro i v hi hv
    rw [rd]
    have hstep : ∀ g : Nat, g < 128 → v + g * 2 ^ (7 * i) < 2 ^ (7 * (i + 1)) := by
      intro g hg
      have e : 2 ^ (7 * (i + 1)) = 128 * 2 ^ (7 * i) := by rw [Nat.mul_add, Nat.pow_add]; omega
      have : (g + 1) * 2 ^ (7 * i) ≤ 128 * 2 ^ (7 * i) := Nat.mul_le_mul_right _ (by omega)
      rw [Nat.add_mul] at this
      omega
    split
    · simp
    · rename_i hc
      split
      · rename_i hl
        show v + c.toNat * 2 ^ (7 * i) < _
        by_cases h8 : i = 8
        · subst h8
          have : c.toNat ≤ 63 := by
            rcases Nat.lt_or_ge 63 c.toNat with h | h
            · exact absurd (Or.inl ⟨rfl, Or.inr (by omega)⟩) hc
            · exact h
          have h2 : c.toNat * 2 ^ (7 * 8) ≤ 63 * 2 ^ (7 * 8) := Nat.mul_le_mul_right _ this
          omega
        · have h1 := hstep c.toNat (by omega)
          have h2 : 2 ^ (7 * (i + 1)) ≤ 2 ^ (7 * 8) := Nat.pow_le_pow_right (by omega) (by omega)
          omega
      · rename_i hl
        have h8 : i ≠ 8 := by
          intro e
          exact hc (Or.inl ⟨e, Or.inl (by omega)⟩)
        exact ih (i + 1) _ (by omega) (hstep _ (by omega))
theorem rdN_lt (l : List UInt8) : (rdN l).1 < 4611686018427387904 := rd_lt l 0 0 (by omega) (by omega)
theorem rdN_count {l : List UInt8} (h : (rdN l).2.2 = 0) : 0 < (rdN l).2.1 ∧ (rdN l).2.1 ≤ l.length := by
  have := rd_count l 0 0 h
  unfold rdN
  omega
theorem rdN_err {l : List UInt8} (h : (rdN l).2.2 ≠ 0) : (rdN l).1 = 0 ∧ (rdN l).2.1 = 0 ∧ ((rdN l).2.2 = 11 ∨ (rdN l).2.2 = 12) := rd_err l 0 0 h

/-- what Read hands back beside the number: the rest, or nothing -/
def restN (l : List UInt8) : List UInt8 := if (rdN l).2.2 = 0 then l.drop (rdN l).2.1 else []

/-! a number that is written is read again -/
theorem rd_enc : ∀ (f v i a : Nat) (more : List UInt8), v < f → i ≤ 8 → v < 2 ^ (62 - 7 * i) → (0 < i → 0 < v) → rd i a (enc f v ++ more) = (a + v * 2 ^ (7 * i), i + (enc f v).length, 0) := by
  intro f
  induction f with
  | zero => intro v i a more h; omega
  | succ f ih =>
    intro v i a more h hi hv hz
    simp only [enc]
    by_cases hs : v < 128
    · have e : (UInt8.ofNat v).toNat = v := by simp; omega
      rw [if_pos hs]
      simp only [List.cons_append, List.nil_append, rd, e]
      rw [if_neg, if_pos hs]
      · simp
      · rintro (⟨rfl, h1 | h1⟩ | ⟨h1, h2⟩)
        · omega
        · have : v % 128 = v := Nat.mod_eq_of_lt hs
          omega
        · have := hz h2; omega
    · have e : (UInt8.ofNat (v % 128 + 128)).toNat = v % 128 + 128 := by simp; omega
      rw [if_neg hs]
      have hi8 : i ≠ 8 := by rintro rfl; omega
      simp only [List.cons_append, rd, e]
      rw [if_neg, if_neg (by omega)]
      · have e2 : (v % 128 + 128) % 128 = v % 128 := by omega
        have hv' : v / 128 < 2 ^ (62 - 7 * (i + 1)) := by
          apply Nat.div_lt_of_lt_mul
          have : 2 ^ (62 - 7 * i) = 128 * 2 ^ (62 - 7 * (i + 1)) := by
            rw [show 62 - 7 * i = 7 + (62 - 7 * (i + 1)) from by omega, Nat.pow_add]
          omega
        rw [e2, ih (v / 128) (i + 1) _ more (by omega) (by omega) hv' (fun _ => by omega)]
        have e3 : v * 2 ^ (7 * i) = v % 128 * 2 ^ (7 * i) + v / 128 * 2 ^ (7 * (i + 1)) := by
          rw [Nat.mul_add, Nat.pow_add, show (2 : Nat) ^ (7 * 1) = 128 from rfl]
          have h1 : v / 128 * (2 ^ (7 * i) * 128) = (v / 128 * 128) * 2 ^ (7 * i) := by
            rw [Nat.mul_comm (2 ^ (7 * i)) 128, ← Nat.mul_assoc]
          rw [h1, ← Nat.add_mul]
          congr 1
          omega
        simp only [List.length_cons]
        rw [e3]
        simp only [Prod.mk.injEq, and_true]
        omega
      · rintro (⟨h1, _⟩ | ⟨h1, _⟩)
        · exact hi8 h1
        · omega
theorem rdN_enc {v : Nat} (hv : v < 4611686018427387904) (more : List UInt8) : rdN (encN v ++ more) = (v, (encN v).length, 0) := by
  have := rd_enc (v + 1) v 0 0 more (by omega) (by omega) (by simpa using hv) (by omega)
  unfold rdN encN
  rw [this]
  simp
theorem restN_enc {v : Nat} (hv : v < 4611686018427387904) (more : List UInt8) : restN (encN v ++ more) = more := by
  unfold restN
  rw [rdN_enc hv]
  simp

/-! bytes that are read as a number are those that it is written as -/
theorem enc_rd : ∀ (l : List UInt8) (i a : Nat), i ≤ 8 → (rd i a l).2.2 = 0 →
    ∃ u, (rd i a l).1 = a + u * 2 ^ (7 * i) ∧ (0 < i → 0 < u) ∧ encN u ++ l.drop ((rd i a l).2.1 - i) = l := by
  intro l
  induction l with
  | nil => intro i a _ h; simp [rd] at h
  | cons c r ih =>
    intro i a hi
    rw [rd]
    split
    · intro h; simp at h
    · rename_i hc
      split
      · rename_i hl
        intro _
        refine ⟨c.toNat, rfl, fun h0 => ?_, ?_⟩
        · rcases Nat.eq_zero_or_pos c.toNat with hz | hz
          · exact absurd (Or.inr ⟨hz, h0⟩) hc
          · exact hz
        · rw [encN_small hl]
          simp
      · rename_i hl
        intro h
        have h8 : i ≠ 8 := fun e => hc (Or.inl ⟨e, Or.inl (by omega)⟩)
        obtain ⟨u, h1, h2, h3⟩ := ih (i + 1) _ (by omega) h
        have hu : 0 < u := h2 (by omega)
        have hcb : c.toNat < 256 := c.toNat_lt
        have hcnt := rd_count r (i + 1) _ h
        refine ⟨c.toNat % 128 + u * 128, ?_, fun _ => by omega, ?_⟩
        · rw [h1, Nat.mul_add 7, Nat.pow_add, show (2 : Nat) ^ (7 * 1) = 128 from rfl, Nat.add_mul, Nat.mul_comm (2 ^ (7 * i)) 128, ← Nat.mul_assoc]
          omega
        · have e1 : (c.toNat % 128 + u * 128) % 128 + 128 = c.toNat := by omega
          have e2 : (c.toNat % 128 + u * 128) / 128 = u := by omega
          rw [encN_big (by omega), e1, e2]
          have e3 : (rd (i + 1) (a + c.toNat % 128 * 2 ^ (7 * i)) r).2.1 - i = ((rd (i + 1) (a + c.toNat % 128 * 2 ^ (7 * i)) r).2.1 - (i + 1)) + 1 := by omega
          rw [e3, List.drop_succ_cons, List.cons_append, h3]
          simp
theorem encN_rdN {l : List UInt8} (h : (rdN l).2.2 = 0) : encN (rdN l).1 ++ restN l = l := by
  obtain ⟨u, h1, _, h3⟩ := enc_rd l 0 0 (by omega) h
  unfold restN
  rw [if_pos h]
  unfold rdN at *
  rw [h1]
  simpa using h3
end Go.Proofs.YtfdmnnbcnaofgaaDoor.Pk
