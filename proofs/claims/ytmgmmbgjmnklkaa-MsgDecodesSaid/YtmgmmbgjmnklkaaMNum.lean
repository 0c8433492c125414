import Derived.Test.YtmgmmbgjmnklkaaMBase

/-
  Plain functions of layer 1 (pack): a number's bytes, the number that bytes begin with, lists of fields; and what holds of them. Nothing of the program.
-/
namespace Go.Proofs.Ytmgmmbgjmnklkaa.Pk

/-- a number's groups, with fuel -/
def enc : Nat → Nat → List UInt8
  | 0, _ => []
  | f + 1, v => if v < 128 then [UInt8.ofNat v] else UInt8.ofNat (v % 128 + 128) :: enc f (v / 128)
/-- a number's bytes -/
def encN (v : Nat) : List UInt8 := enc (v + 1) v

theorem enc_fuel : ∀ (f v g : Nat), v < f → v < g → enc f v = enc g v := by
  intro f
  induction f with
  | zero => intro v g h; omega
  | succ f ih =>
    intro v g h hg
    cases g with
    | zero => omega
    | succ g =>
      simp only [enc]
      split
      · rfl
      · rw [ih (v / 128) g (by omega) (by omega)]
theorem encN_small {v : Nat} (h : v < 128) : encN v = [UInt8.ofNat v] := by simp [encN, enc, h]
theorem encN_big {v : Nat} (h : 128 ≤ v) : encN v = UInt8.ofNat (v % 128 + 128) :: encN (v / 128) := by
  unfold encN
  rw [enc, if_neg (by omega), enc_fuel v (v / 128) (v / 128 + 1) (by omega) (by omega)]

/-- so many groups at the most -/
theorem encN_len : ∀ (k v : Nat), v < 128 ^ (k + 1) → (encN v).length ≤ k + 1 := by
  intro k
  induction k with
  | zero => intro v h; rw [encN_small (by simpa using h)]; simp
  | succ k ih =>
    intro v h
    by_cases hv : v < 128
    · rw [encN_small hv]; simp
    · rw [encN_big (by omega), List.length_cons]
      have : v / 128 < 128 ^ (k + 1) := by
        apply Nat.div_lt_of_lt_mul
        rw [Nat.pow_succ] at h
        omega
      have := ih _ this
      omega
theorem encN_len9 {v : Nat} (h : v < 4611686018427387904) : (encN v).length ≤ 9 := encN_len 8 v (by omega)
theorem encN_pos (v : Nat) : 0 < (encN v).length := by
  by_cases h : v < 128
  · rw [encN_small h]; simp
  · rw [encN_big (by omega)]; simp

/-- the number that bytes begin with, how many bytes it has, and the error (0: none) -/
def rd : Nat → Nat → List UInt8 → Nat × Nat × Nat
  | _, _, [] => (0, 0, 11)
  | i, v, c :: r =>
    if (i = 8 ∧ (128 ≤ c.toNat ∨ 63 < c.toNat % 128)) ∨ (c.toNat = 0 ∧ 0 < i) then (0, 0, 12)
    else if c.toNat < 128 then (v + c.toNat * 2 ^ (7 * i), i + 1, 0)
    else rd (i + 1) (v + c.toNat % 128 * 2 ^ (7 * i)) r
def rdN (l : List UInt8) : Nat × Nat × Nat := rd 0 0 l

theorem rd_count : ∀ (l : List UInt8) (i v : Nat), (rd i v l).2.2 = 0 → i < (rd i v l).2.1 ∧ (rd i v l).2.1 ≤ i + l.length := by
  intro l
  induction l with
  | nil => intro i v h; simp [rd] at h
  | cons c r ih =>
    intro i v
    rw [rd]
    split
    · intro h; simp at h
    · split
      · intro _; simp
      · intro h
        have := ih (i + 1) _ h
        simp only [List.length_cons]
        omega
theorem rd_err : ∀ (l : List UInt8) (i v : Nat), (rd i v l).2.2 ≠ 0 → (rd i v l).1 = 0 ∧ (rd i v l).2.1 = 0 ∧ ((rd i v l).2.2 = 11 ∨ (rd i v l).2.2 = 12) := by
  intro l
  induction l with
  | nil => intro i v _; simp [rd]
  | cons c r ih =>
    intro i v
    rw [rd]
    split
    · intro _; simp
    · split
      · intro h; simp at h
      · intro h; exact ih (i + 1) _ h
/-- the value stays below 2^62 -/
theorem rd_lt : ∀ (l : List UInt8) (i v : Nat), i ≤ 8 → v < 2 ^ (7 * i) → (rd i v l).1 < 4611686018427387904 := by
  intro l
  induction l with
  | nil => intro i v _ _; simp [rd]
  | cons c r ih =>
    intro i v hi hv
    rw [rd]
    have hstep : ∀ g : Nat, g < 128 → v + g * 2 ^ (7 * i) < 2 ^ (7 * (i + 1)) := by
      intro g hg
      have e : 2 ^ (7 * (i + 1)) = 128 * 2 ^ (7 * i) := by rw [Nat.mul_add, Nat.pow_add]; omega
      have : (g + 1) * 2 ^ (7 * i) ≤ 128 * 2 ^ (7 * i) := Nat.mul_le_mul_right _ (by omega)
      rw [Nat.add_mul] at this
      omega
    split
    · simp
    · rename_i hc
      split
      · rename_i hl
        show v + c.toNat * 2 ^ (7 * i) < _
        by_cases h8 : i = 8
        · subst h8
          have : c.toNat ≤ 63 := by
            rcases Nat.lt_or_ge 63 c.toNat with h | h
            · exact absurd (Or.inl ⟨rfl, Or.inr (by omega)⟩) hc
            · exact h
          have h2 : c.toNat * 2 ^ (7 * 8) ≤ 63 * 2 ^ (7 * 8) := Nat.mul_le_mul_right _ this
          omega
        · have h1 := hstep c.toNat (by omega)
          have h2 : 2 ^ (7 * (i + 1)) ≤ 2 ^ (7 * 8) := Nat.pow_le_pow_right (by omega) (by omega)
          omega
      · rename_i hl
        have h8 : i ≠ 8 := by
          intro e
          exact hc (Or.inl ⟨e, Or.inl (by omega)⟩)
        exact ih (i + 1) _ (by omega) (hstep _ (by omega))
theorem rdN_lt (l : List UInt8) : (rdN l).1 < 4611686018427387904 := rd_lt l 0 0 (by omega) (by omega)
theorem rdN_count {l : List UInt8} (h : (rdN l).2.2 = 0) : 0 < (rdN l).2.1 ∧ (rdN l).2.1 ≤ l.length := by
  have := rd_count l 0 0 h
  unfold rdN
  omega
theorem rdN_err {l : List UInt8} (h : (rdN l).2.2 ≠ 0) : (rdN l).1 = 0 ∧ (rdN l).2.1 = 0 ∧ ((rdN l).2.2 = 11 ∨ (rdN l).2.2 = 12) := rd_err l 0 0 h

/-- what Read hands back beside the number: the rest, or nothing -/
def restN (l : List UInt8) : List UInt8 := if (rdN l).2.2 = 0 then l.drop (rdN l).2.1 else []

/-! a number that is written is read again -/
theorem rd_enc : ∀ (f v i a : Nat) (more : List UInt8), v < f → i ≤ 8 → v < 2 ^ (62 - 7 * i) → (0 < i → 0 < v) → rd i a (enc f v ++ more) = (a + v * 2 ^ (7 * i), i + (enc f v).length, 0) := by
  intro f
  induction f with
  | zero => intro v i a more h; omega
  | succ f ih =>
    intro v i a more h hi hv hz
    simp only [enc]
    by_cases hs : v < 128
    · have e : (UInt8.ofNat v).toNat = v := by simp; omega
      rw [if_pos hs]
      simp only [List.cons_append, List.nil_append, rd, e]
      rw [if_neg, if_pos hs]
      · simp
      · rintro (⟨rfl, h1 | h1⟩ | ⟨h1, h2⟩)
        · omega
        · have : v % 128 = v := Nat.mod_eq_of_lt hs
          omega
        · have := hz h2; omega
    · have e : (UInt8.ofNat (v % 128 + 128)).toNat = v % 128 + 128 := by simp; omega
      rw [if_neg hs]
      have hi8 : i ≠ 8 := by rintro rfl; omega
      simp only [List.cons_append, rd, e]
      rw [if_neg, if_neg (by omega)]
      · have e2 : (v % 128 + 128) % 128 = v % 128 := by omega
        have hv' : v / 128 < 2 ^ (62 - 7 * (i + 1)) := by
          apply Nat.div_lt_of_lt_mul
          have : 2 ^ (62 - 7 * i) = 128 * 2 ^ (62 - 7 * (i + 1)) := by
            rw [show 62 - 7 * i = 7 + (62 - 7 * (i + 1)) from by omega, Nat.pow_add]
          omega
        rw [e2, ih (v / 128) (i + 1) _ more (by omega) (by omega) hv' (fun _ => by omega)]
        have e3 : v * 2 ^ (7 * i) = v % 128 * 2 ^ (7 * i) + v / 128 * 2 ^ (7 * (i + 1)) := by
          rw [Nat.mul_add, Nat.pow_add, show (2 : Nat) ^ (7 * 1) = 128 from rfl]
          have h1 : v / 128 * (2 ^ (7 * i) * 128) = (v / 128 * 128) * 2 ^ (7 * i) := by
            rw [Nat.mul_comm (2 ^ (7 * i)) 128, ← Nat.mul_assoc]
          rw [h1, ← Nat.add_mul]
          congr 1
          omega
        simp only [List.length_cons]
        rw [e3]
        simp only [Prod.mk.injEq, and_true]
        omega
      · rintro (⟨h1, _⟩ | ⟨h1, _⟩)
        · exact hi8 h1
        · omega
theorem rdN_enc {v : Nat} (hv : v < 4611686018427387904) (more : List UInt8) : rdN (encN v ++ more) = (v, (encN v).length, 0) := by
  have := rd_enc (v + 1) v 0 0 more (by omega) (by omega) (by simpa using hv) (by omega)
  unfold rdN encN
  rw [this]
  simp
theorem restN_enc {v : Nat} (hv : v < 4611686018427387904) (more : List UInt8) : restN (encN v ++ more) = more := by
  unfold restN
  rw [rdN_enc hv]
  simp

/-! bytes that are read as a number are those that it is written as -/
theorem enc_rd : ∀ (l : List UInt8) (i a : Nat), i ≤ 8 → (rd i a l).2.2 = 0 →
    ∃ u, (rd i a l).1 = a + u * 2 ^ (7 * i) ∧ (0 < i → 0 < u) ∧ encN u ++ l.drop ((rd i a l).2.1 - i) = l := by
  intro l
  induction l with
  | nil => intro i a _ h; simp [rd] at h
  | cons c r ih =>
    intro i a hi
    rw [rd]
    split
    · intro h; simp at h
    · rename_i hc
      split
      · rename_i hl
        intro _
        refine ⟨c.toNat, rfl, fun h0 => ?_, ?_⟩
        · rcases Nat.eq_zero_or_pos c.toNat with hz | hz
          · exact absurd (Or.inr ⟨hz, h0⟩) hc
          · exact hz
        · rw [encN_small hl]
          simp
      · rename_i hl
        intro h
        have h8 : i ≠ 8 := fun e => hc (Or.inl ⟨e, Or.inl (by omega)⟩)
        obtain ⟨u, h1, h2, h3⟩ := ih (i + 1) _ (by omega) h
        have hu : 0 < u := h2 (by omega)
        have hcb : c.toNat < 256 := c.toNat_lt
        have hcnt := rd_count r (i + 1) _ h
        refine ⟨c.toNat % 128 + u * 128, ?_, fun _ => by omega, ?_⟩
        · rw [h1, Nat.mul_add 7, Nat.pow_add, show (2 : Nat) ^ (7 * 1) = 128 from rfl, Nat.add_mul, Nat.mul_comm (2 ^ (7 * i)) 128, ← Nat.mul_assoc]
          omega
        · have e1 : (c.toNat % 128 + u * 128) % 128 + 128 = c.toNat := by omega
          have e2 : (c.toNat % 128 + u * 128) / 128 = u := by omega
          rw [encN_big (by omega), e1, e2]
          have e3 : (rd (i + 1) (a + c.toNat % 128 * 2 ^ (7 * i)) r).2.1 - i = ((rd (i + 1) (a + c.toNat % 128 * 2 ^ (7 * i)) r).2.1 - (i + 1)) + 1 := by omega
          rw [e3, List.drop_succ_cons, List.cons_append, h3]
          simp
theorem encN_rdN {l : List UInt8} (h : (rdN l).2.2 = 0) : encN (rdN l).1 ++ restN l = l := by
  obtain ⟨u, h1, _, h3⟩ := enc_rd l 0 0 (by omega) h
  unfold restN
  rw [if_pos h]
  unfold rdN at *
  rw [h1]
  simpa using h3
end Go.Proofs.Ytmgmmbgjmnklkaa.Pk

namespace Go.Proofs.Ytmgmmbgjmnklkaa
set_option maxRecDepth 100000
open Go.RowKit
open Pk

/-- the row (A, n, c) of the call's own, or a new block -/
def RowOf (w : World) (r : Option Nat) (v : Value) : Prop := v.ownBlock = r ∨ ∃ g, v.ownBlock = some g ∧ w.heap.size ≤ g

/-- a slice that grew by bytes is what came back, beside no error -/
def Grew (base : Nat) (r : Option Nat) (l : List UInt8) (w : World) (e : Ending) (w' : World) : Prop :=
  ∃ A n c, e = .returned (.tuple #[.slice A n c, .int .i64 0]) ∧ OwnB w' base A n c l ∧ w.grownBy w' r ∧ RowOf w r (.slice A n c)
/-- nothing but an error came back -/
def Err2 (k : Int) (w : World) (e : Ending) (w' : World) : Prop := e = .returned (.tuple #[.slice none 0 0, .int .i64 k]) ∧ w = w'

theorem appendNum_low (A : Option Addr) (n c : Nat) (v : Int) (w : World) (hv : v < 0) :
    Calls Try.prog 109 #[.slice A n c, .int .i64 v] w (Err2 10 w) := by
  go_enter Try.func109, Try.ntmps109
  go_wp2
  go_ret2
  exact ⟨rfl, rfl⟩
theorem appendNum_high (A : Option Addr) (n c : Nat) (v : Int) (w : World) (hv : 4611686018427387904 ≤ v) :
    Calls Try.prog 109 #[.slice A n c, .int .i64 v] w (Err2 10 w) := by
  have h0 : ¬ v < 0 := by omega
  go_enter Try.func109, Try.ntmps109
  go_wp2
  go_ret2
  exact ⟨rfl, rfl⟩

theorem byte_more (u : Nat) : bv (UInt8.ofNat (u % 128 + 128)) = .int .u8 ((u : Int) % 128 + 128) := by
  unfold bv
  congr 1
  have : (UInt8.ofNat (u % 128 + 128)).toNat = u % 128 + 128 := by simp; omega
  rw [this]; omega

theorem byte_small {u : Nat} (h : u < 128) : bv (UInt8.ofNat u) = .int .u8 (u : Int) := by
  unfold bv
  congr 1
  have : (UInt8.ofNat u).toNat = u := by simp; omega
  rw [this]

set_option maxHeartbeats 800000 in
set_option maxRecDepth 100000 in
theorem appendNum_ok (A : Option Addr) (n c : Nat) (l : List UInt8) (base : Nat) (v : Nat) (w : World) (hv : v < 4611686018427387904) (hown : OwnB w base A n c l) (hn : n ≤ 1099511627776) (hbase : base ≤ w.heap.size) :
    Calls Try.prog 109 #[.slice A n c, .int .i64 v] w (Grew base (Value.slice A n c).ownBlock (l ++ encN v) w) := by
  obtain ⟨i0, hi, hz0, hz1, hz2⟩ := info_parts info_u8
  have h0 : ¬ (v : Int) < 0 := by omega
  have h1 : ¬ (4611686018427387904 : Int) ≤ v := by omega
  have hlen := encN_len9 hv
  go_enter Try.func109, Try.ntmps109
  go_wp2
  go_loopw [0, 1] (fun b u wr => ∃ (A' : Option Addr) (n' c' q : Nat) (l' : List UInt8), b = .slice A' n' c' ∧ u = .int .i64 q ∧ q < 4611686018427387904 ∧ OwnB wr base A' n' c' l' ∧ l' ++ encN q = l ++ encN v ∧
      w.grownBy wr (Value.slice A n c).ownBlock ∧ RowOf w (Value.slice A n c).ownBlock (.slice A' n' c')) (fun _ u _ => (intOf u).toNat)
  case atStart => exact ⟨A, n, c, v, l, rfl, rfl, hv, hown, rfl, grown_refl _ _, .inl rfl⟩
  case round =>
    obtain ⟨A', n', c', q, l', rfl, rfl, hq, ho, hll, hg, hrow⟩ := hrel
    have hnn : n' + (encN q).length = n + (encN v).length := by
      have e1 := congrArg List.length hll
      simp only [List.length_append] at e1
      have e2 := OwnB.len ho
      have e3 := OwnB.len hown
      omega
    have hqp := encN_pos q
    have hlt := OwnB.len ho
    by_cases hb : 128 ≤ q
    · have hsize := (World.grownBy.size hg)
      have HL := Lib.hid (show (l' ++ [UInt8.ofNat (q % 128 + 128)]) ++ encN (q / 128) = l ++ encN v by
        rw [← hll, encN_big hb]; simp)
      have HM := Lib.hid (show [Value.int .u8 ((q : Int) % 128 + 128)] = [UInt8.ofNat (q % 128 + 128)].map bv by rw [List.map_cons, byte_more]; rfl)
      have HV := Lib.hid hv
      have hn2 : n' ≤ 1099511627800 := by omega
      have HB := Lib.hid hn2
      clear hll hv h1 hnn hlt hlen hqp hn hn2
      go_wp2_with (at_builtin
                   refine wpList_append_rd _ rfl _ _ 22 rfl base 5 i0 _ 1 Try.underlying22 hi hz0 hz1 hz2 rfl A' n' c' (l'.map bv) rfl (World.ownsRow.alloc ho _) (some ⟨wr.heap.size, 0, none⟩) 1 1 [.int .u8 ((q : Int) % 128 + 128)] rfl
                     (Rd.new wr [Value.int .u8 ((q : Int) % 128 + 128)] 5) (by simp [Value.oneCell']) (by have := HB.out; simp only [maxLen]; omega) (by have := HB.out; omega) (by simp; omega) ?_
                   intro A2 c2 w2 hown2 hg2 hrow2)
      go_roundw
      case rel =>
        refine ⟨A2, n' + 1, c2, q / 128, l' ++ [UInt8.ofNat (q % 128 + 128)], rfl, by go_num, by omega, ?_, HL.out, grown_trans hg (grown_trans (World.grownBy_alloc wr _ _) hg2 (.inl rfl)) ?_, ?_⟩
        · unfold OwnB; rw [List.map_append, ← HM.out]; exact hown2
        · rcases hrow with e | ⟨g, e, hge⟩
          · exact .inl e
          · right; intro g' e'; rw [e] at e'; injection e' with e'; omega
        · rcases hrow2 with e | e
          · rcases hrow with e' | ⟨g, e', hge⟩
            · exact .inl (e.trans e')
            · exact .inr ⟨g, e.trans e', hge⟩
          · exact .inr ⟨_, e, by simp; omega⟩
      case measure => simp [intOf]; omega
    · have hsize := (World.grownBy.size hg)
      have HL := Lib.hid (show l' ++ [UInt8.ofNat q] = l ++ encN v by rw [← hll, encN_small (by omega)])
      have HM := Lib.hid (show [Value.int .u8 (q : Int)] = [UInt8.ofNat q].map bv by rw [List.map_cons, byte_small (by omega)]; rfl)
      have hn2 : n' ≤ 1099511627800 := by omega
      have HB := Lib.hid hn2
      clear hll hv h1 hnn hlt hlen hqp hn hn2
      go_wp2_with (at_builtin
                   refine wpList_append_rd _ rfl _ _ 22 rfl base 5 i0 _ 1 Try.underlying22 hi hz0 hz1 hz2 rfl A' n' c' (l'.map bv) rfl (World.ownsRow.alloc ho _) (some ⟨wr.heap.size, 0, none⟩) 1 1 [.int .u8 (q : Int)] rfl
                     (Rd.new wr [Value.int .u8 (q : Int)] 5) (by simp [Value.oneCell']) (by have := HB.out; simp only [maxLen]; omega) (by have := HB.out; omega) (by simp; omega) ?_
                   intro A2 c2 w2 hown2 hg2 hrow2)
      go_ret2
      refine ⟨A2, n' + 1, c2, rfl, ?_, grown_trans hg (grown_trans (World.grownBy_alloc wr _ _) hg2 (.inl rfl)) ?_, ?_⟩
      · unfold OwnB; rw [← HL.out, List.map_append, ← HM.out]; exact hown2
      · rcases hrow with e | ⟨g, e, hge⟩
        · exact .inl e
        · right; intro g' e'; rw [e] at e'; injection e' with e'; omega
      · rcases hrow2 with e | e
        · rcases hrow with e' | ⟨g, e', hge⟩
          · exact .inl (e.trans e')
          · exact .inr ⟨g, e.trans e', hge⟩
        · exact .inr ⟨_, e, by simp; omega⟩

theorem num_bad (v : Int) (w : World) (hv : v < 0 ∨ 4611686018427387904 ≤ v) : Calls Try.prog 73 #[.int .i64 v] w (Err2 10 w) := by
  have h : Calls Try.prog 109 #[.slice none 0 0, .int .i64 v] w (Err2 10 w) := by
    rcases hv with h | h
    · exact appendNum_low _ _ _ v w h
    · exact appendNum_high _ _ _ v w h
  clear hv
  have H := Lib.hid h
  clear h
  go_enter Try.func73, Try.ntmps73
  go_wp2_with fail
  refine H.out.mono ?_
  rintro e w' ⟨rfl, rfl⟩
  go_wp2_with fail
  go_ret2
  exact ⟨rfl, rfl⟩

/-- new bytes and no error: all else is as it was -/
def Fresh2 (base : Nat) (l : List UInt8) (w : World) (e : Ending) (w' : World) : Prop :=
  ∃ A n c, e = .returned (.tuple #[.slice A n c, .int .i64 0]) ∧ OwnB w' base A n c l ∧ Below w.heap.size w w'

theorem num_ok (v : Nat) (w : World) (hv : v < 4611686018427387904) : Calls Try.prog 73 #[.int .i64 v] w (Fresh2 w.heap.size (encN v) w) := by
  have H := Lib.hid (appendNum_ok none 0 0 [] w.heap.size v w hv (OwnB.nil_ _ _) (by omega) (Nat.le_refl _))
  clear hv
  go_enter Try.func73, Try.ntmps73
  go_wp2_with fail
  refine H.out.mono ?_
  rintro e w' ⟨A, n, c, rfl, ho, hg, _⟩
  go_wp2_with fail
  go_ret2
  exact ⟨A, n, c, rfl, ho, below_of_grown hg (Nat.le_refl _) (by simp [Value.ownBlock])⟩
end Go.Proofs.Ytmgmmbgjmnklkaa

namespace Go.Proofs.Ytmgmmbgjmnklkaa
set_option maxRecDepth 100000
open Go.RowKit
open Pk

theorem refNum_bad (v : Int) (w : World) (hv : v < 0 ∨ 4611686018427387904 ≤ v) : Calls Try.prog 81 #[.int .i64 v] w (Err2 10 w) := by
  by_cases h0 : v < 0
  · clear hv
    go_enter Try.func81, Try.ntmps81
    go_wp2
    go_ret2
    exact ⟨rfl, rfl⟩
  · have h1 : 4611686018427387904 ≤ v := by omega
    clear hv
    go_enter Try.func81, Try.ntmps81
    go_wp2
    go_ret2
    exact ⟨rfl, rfl⟩

set_option maxHeartbeats 800000 in
set_option maxRecDepth 100000 in
theorem refNum_ok (v : Nat) (w : World) (hv : v < 4611686018427387904) : Calls Try.prog 81 #[.int .i64 v] w (Fresh2 w.heap.size (encN v) w) := by
  obtain ⟨i0, hi, hz0, hz1, hz2⟩ := info_parts info_u8
  have h0 : ¬ (v : Int) < 0 := by omega
  have h1 : ¬ (4611686018427387904 : Int) ≤ v := by omega
  have hlen := encN_len9 hv
  have hlit := World.ownsRow_lit (e := 5) (base := w.heap.size) (size := 1) w #[Value.int .u8 ((v : Int) % 128)] 1 (Nat.le_refl _) (by simp [maxLen]) rfl
  have hbv : bv (UInt8.ofNat (v % 128)) = .int .u8 ((v : Int) % 128) := by rw [byte_small (by omega)]; congr 1
  have HLIT := Lib.hid hlit
  have HBV := Lib.hid hbv
  clear hlit hbv
  go_enter Try.func81, Try.ntmps81
  go_wp2
  go_loopw [0, 4] (fun u b wr => ∃ (A' : Option Addr) (n' c' q : Nat) (l' : List UInt8), b = .slice A' (n' + 1) c' ∧ u = .int .i64 q ∧ q < 4611686018427387904 ∧ OwnB wr w.heap.size A' (n' + 1) c' (l' ++ [UInt8.ofNat (q % 128)]) ∧ l' ++ encN q = encN v ∧
      Below w.heap.size w wr) (fun u _ _ => (intOf u).toNat)
  case atStart =>
    refine ⟨some ⟨w.heap.size, 0, none⟩, 0, 1, v, [], rfl, rfl, hv, ?_, rfl, (Below.refl _ _).alloc (Nat.le_refl _) _⟩
    unfold OwnB
    rw [List.nil_append, List.map_cons, HBV.out]
    exact HLIT.out
  case round =>
    obtain ⟨A', n', c', q, l', rfl, rfl, hq, ho, hll, hg⟩ := hrel
    have hlt : l'.length = n' := by have := OwnB.len ho; simpa using this
    have hqp := encN_pos q
    have hnn : n' + (encN q).length = (encN v).length := by
      have e1 := congrArg List.length hll
      simp only [List.length_append] at e1
      omega
    have hgs := hg.size
    by_cases hb : 128 ≤ q
    · have HL := Lib.hid (show l' ++ [UInt8.ofNat (q % 128 + 128)] ++ encN (q / 128) = encN v by rw [← hll, encN_big hb]; simp)
      obtain ⟨g, cap, hv', hgb, hgl⟩ := World.ownsRow.form ho (by omega)
      injection hv' with hA' _ hcap
      subst hA' hcap
      have hcell := World.ownsRow.cellAt ho n' (by omega)
      have hfr := World.ownsRow.frozenAt ho n'
      have e5 : ((l' ++ [UInt8.ofNat (q % 128)]).map bv)[n']? = some (.int .u8 ((q : Int) % 128)) := by
        rw [List.map_append, List.getElem?_append_right (by simp [hlt])]
        simp only [List.length_map, hlt, Nat.sub_self, List.map_cons, List.map_nil, List.getElem?_cons_zero]
        rw [byte_small (by omega)]; congr 2
      rw [e5] at hcell
      obtain ⟨hst, hsg⟩ := World.ownsRow.stored ho n' (.int .u8 ((q : Int) % 128 + 128))
      have e6 : ((l' ++ [UInt8.ofNat (q % 128)]).map bv).set n' (.int .u8 ((q : Int) % 128 + 128)) = (l' ++ [UInt8.ofNat (q % 128 + 128)]).map bv := by
        simp only [List.map_append, List.map_cons, List.map_nil]
        rw [List.set_append_right _ _ (by simp [hlt])]
        simp only [List.length_map, hlt, Nat.sub_self, List.set_cons_zero]
        rw [byte_more]
      rw [e6] at hst
      have HST := Lib.hid hst
      have HSG := Lib.hid hsg
      have HM := Lib.hid (show [Value.int .u8 ((q : Int) / 128 % 128)] = [UInt8.ofNat (q / 128 % 128)].map bv by rw [List.map_cons, byte_small (by omega)]; rfl)
      have hn2 : n' ≤ 10 := by omega
      have HL2 := Lib.hid hlt
      clear hst hsg e5 e6 hll hlt hqp hnn hlen hv h1 ho
      have HR := Lib.hid (show Rd ((wr.setCell ⟨g, n', none⟩ (.int .u8 ((q : Int) % 128 + 128))).alloc (.cells #[.int .u8 ((q : Int) / 128 % 128)] 5)) (some ⟨wr.heap.size, 0, none⟩) 1 [.int .u8 ((q : Int) / 128 % 128)] by
        have := Rd.new (wr.setCell ⟨g, n', none⟩ (.int .u8 ((q : Int) % 128 + 128))) [.int .u8 ((q : Int) / 128 % 128)] 5
        simpa using this)
      go_wp2_with (at_builtin
                   refine wpList_append_rd _ rfl _ _ 22 rfl w.heap.size 5 i0 _ 1 Try.underlying22 hi hz0 hz1 hz2 rfl (some ⟨g, 0, none⟩) (n' + 1) c' ((l' ++ [UInt8.ofNat (q % 128 + 128)]).map bv) rfl (World.ownsRow.alloc HST.out _) (some ⟨wr.heap.size, 0, none⟩) 1 1 [.int .u8 ((q : Int) / 128 % 128)] rfl
                     HR.out (by simp [Value.oneCell']) (by simp only [maxLen]; omega) (by omega) (by simp; omega) ?_
                   intro A2 c2 w2 hown2 hg2 hrow2)
      go_roundw
      case rel =>
        refine ⟨A2, n' + 1, c2, q / 128, l' ++ [UInt8.ofNat (q % 128 + 128)], rfl, by go_num, by omega, ?_, HL.out, ?_⟩
        · unfold OwnB; rw [List.map_append, ← HM.out]; exact hown2
        · have b1 := hg.grown HSG.out hgs (fun k e => by injection e with e; omega)
          have b2 := b1.alloc b1.size (.cells #[.int .u8 ((q : Int) / 128 % 128)] 5)
          exact b2.grown hg2 b2.size (fun k e => by simp [Value.ownBlock] at e; omega)
      case measure => simp [intOf]; omega
    · have HL := Lib.hid (show l' ++ [UInt8.ofNat (q % 128)] = encN v by rw [← hll, encN_small (by omega), Nat.mod_eq_of_lt (by omega)])
      clear hll hnn hqp hlen hlt hv h1
      go_wp2
      go_ret2
      exact ⟨A', n' + 1, c', rfl, by rw [← HL.out]; exact ho, hg⟩
end Go.Proofs.Ytmgmmbgjmnklkaa
