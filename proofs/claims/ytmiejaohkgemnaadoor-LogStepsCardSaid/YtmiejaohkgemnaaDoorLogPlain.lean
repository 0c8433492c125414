/-
  A log as plain values: frames, areas, what each call makes of a disk; and what holds of them. Nothing of the program.
-/
import Derived.Test.YtmiejaohkgemnaaDoorMInts
import Derived.Test.YtmiejaohkgemnaaDoorMDisk
import Derived.Test.YtmiejaohkgemnaaDoorMSha
namespace Go.Proofs.YtmiejaohkgemnaaDoor
namespace Lg
open Pk Sh
set_option linter.unusedVariables false

/-- a frame's sum -/
def dig (g p : Nat) (l : List UInt8) : List UInt8 := (sum (encN g ++ encN p ++ l)).take 4
theorem dig_len (g p : Nat) (l : List UInt8) : (dig g p l).length = 4 := by simp [dig, sum_len]
def frame (g p : Nat) (l : List UInt8) : List UInt8 := encN l.length ++ (dig g p l ++ l)
def frames (g : Nat) : Nat → List (List UInt8) → List UInt8
  | _, [] => []
  | p, l :: r => frame g p l ++ frames g (p + 1) r
/-- the payload of the first frame -/
def headB (g n : Nat) : List UInt8 := encN g ++ encN n
/-- the bytes of an area -/
def whole (g n : Nat) (ls : List (List UInt8)) : List UInt8 := frame g 0 (headB g n) ++ frames g 1 ls
theorem frames_append (g : Nat) (a b : List (List UInt8)) (p : Nat) : frames g p (a ++ b) = frames g p a ++ frames g (p + a.length) b := by
  induction a generalizing p with
  | nil => simp [frames]
  | cons x r ih => simp only [List.cons_append, frames, ih, List.append_assoc, List.length_cons]; congr 3; omega
theorem whole_append (g n : Nat) (a b : List (List UInt8)) : whole g n (a ++ b) = whole g n a ++ frames g (1 + a.length) b := by
  unfold whole
  rw [frames_append, List.append_assoc]
theorem frame_len (g p : Nat) (l : List UInt8) : (frame g p l).length = (encN l.length).length + (4 + l.length) := by simp [frame, dig_len]
theorem frame_pos (g p : Nat) (l : List UInt8) : 5 ≤ (frame g p l).length := by have := encN_pos l.length; rw [frame_len]; omega
theorem frame_le (g p : Nat) (l : List UInt8) (h : l.length ≤ 65536) : (frame g p l).length ≤ 13 + l.length := by have := encN_len9 (v := l.length) (by omega); rw [frame_len]; omega
theorem frames_le (g p : Nat) (ls : List (List UInt8)) (h : ∀ l ∈ ls, l.length ≤ 65536) : (frames g p ls).length ≤ 13 * rowsW ls := by
  induction ls generalizing p with
  | nil => simp [frames]
  | cons x r ih =>
    have := frame_le g p x (h x (by simp))
    have := ih (p + 1) (fun l hl => h l (List.mem_cons_of_mem _ hl))
    simp only [frames, List.length_append, rowsW]
    omega
theorem headB_le {g n : Nat} (hg : g < 4611686018427387904) (hn : n < 4611686018427387904) : (headB g n).length ≤ 18 := by
  have := encN_len9 hg; have := encN_len9 hn; simp [headB]; omega
theorem whole_le {g n : Nat} {ls : List (List UInt8)} (hg : g < 4611686018427387904) (hn : n < 4611686018427387904) (h : ∀ l ∈ ls, l.length ≤ 65536) : (whole g n ls).length ≤ 31 + 13 * rowsW ls := by
  have h1 := headB_le hg hn
  have := frame_le g 0 (headB g n) (by omega)
  have := frames_le g 1 ls h
  simp only [whole, List.length_append]
  omega

/-- the frame at the beginning: its sum, its payload, what stands behind it -/
def cut (b : List UInt8) : Option (List UInt8 × List UInt8 × List UInt8) :=
  if (rdN b).2.2 = 0 ∧ (rdN b).1 ≤ 65536 ∧ (rdN b).2.1 + 4 + (rdN b).1 ≤ b.length then
    some ((b.drop (rdN b).2.1).take 4, ((b.drop (rdN b).2.1).drop 4).take (rdN b).1, ((b.drop (rdN b).2.1).drop 4).drop (rdN b).1)
  else none
theorem cut_some {b s p r : List UInt8} (h : cut b = some (s, p, r)) : b = encN p.length ++ (s ++ (p ++ r)) ∧ s.length = 4 ∧ p.length ≤ 65536 := by
  unfold cut at h
  split at h
  · rename_i hc
    obtain ⟨h0, h1, h2⟩ := hc
    simp only [Option.some.injEq, Prod.mk.injEq] at h
    obtain ⟨rfl, rfl, rfl⟩ := h
    have he := encN_rdN h0
    have hr : restN b = b.drop (rdN b).2.1 := by unfold restN; rw [if_pos h0]
    have hl : (((b.drop (rdN b).2.1).drop 4).take (rdN b).1).length = (rdN b).1 := by simp; omega
    refine ⟨?_, by simp; omega, by omega⟩
    rw [hl, List.take_append_drop, List.take_append_drop, ← hr, he]
  · cases h
theorem cut_whole {s p : List UInt8} (r : List UInt8) (hs : s.length = 4) (hp : p.length ≤ 65536) : cut (encN p.length ++ (s ++ (p ++ r))) = some (s, p, r) := by
  have h := rdN_enc (v := p.length) (by omega) (s ++ (p ++ r))
  unfold cut
  rw [h, if_pos]
  · simp only [List.drop_left, Option.some.injEq, Prod.mk.injEq]
    rw [List.take_left' hs, List.drop_left' hs, List.take_left, List.drop_left]
    exact ⟨rfl, rfl, rfl⟩
  · simp; omega
theorem cut_frame (g p : Nat) (l r : List UInt8) (hl : l.length ≤ 65536) : cut (frame g p l ++ r) = some (dig g p l, l, r) := by
  have := cut_whole r (dig_len g p l) hl
  simpa [frame] using this
theorem cut_len {b s p r : List UInt8} (h : cut b = some (s, p, r)) : r.length + 5 ≤ b.length := by
  obtain ⟨h1, h2, _⟩ := cut_some h
  have := congrArg List.length h1
  have := encN_pos p.length
  simp at *
  omega
/-- what isn't whole is none -/
theorem rd_front : ∀ (f v i a k : Nat), v < f → i ≤ 8 → k < (enc f v).length → (rd i a ((enc f v).take k)).2.2 ≠ 0 := by
  intro f
  induction f with
  | zero => intro v i a k h; omega
  | succ f ih =>
    intro v i a k h hi hk
    simp only [enc] at hk ⊢
    by_cases hs : v < 128
    · rw [if_pos hs] at hk ⊢
      simp at hk
      subst hk
      simp [rd]
    · rw [if_neg hs] at hk ⊢
      cases k with
      | zero => simp [rd]
      | succ k =>
        simp only [List.take_succ_cons]
        rw [rd]
        have e : (UInt8.ofNat (v % 128 + 128)).toNat = v % 128 + 128 := by simp; omega
        rw [e]
        split
        · simp
        · rename_i hc
          rw [if_neg (by omega)]
          simp only [List.length_cons] at hk
          have h8 : i ≠ 8 := fun e => hc (.inl ⟨e, .inl (by omega)⟩)
          exact ih (v / 128) (i + 1) _ k (by omega) (by omega) (by omega)
theorem cut_front (g p : Nat) (l : List UInt8) (k : Nat) (hl : l.length ≤ 65536) (hk : k < (frame g p l).length) : cut ((frame g p l).take k) = none := by
  rw [frame_len] at hk
  unfold cut
  rw [if_neg]
  rintro ⟨h0, h1, h2⟩
  rcases Nat.lt_or_ge k (encN l.length).length with h | h
  · have e : (frame g p l).take k = (encN l.length).take k := by unfold frame; rw [List.take_append_of_le_length (by omega)]
    rw [e] at h0
    exact rd_front (l.length + 1) l.length 0 0 k (by omega) (by omega) h h0
  · have e : (frame g p l).take k = encN l.length ++ (dig g p l ++ l).take (k - (encN l.length).length) := by unfold frame; rw [List.take_append, List.take_of_length_le h]
    have hr := rdN_enc (v := l.length) (by omega) ((dig g p l ++ l).take (k - (encN l.length).length))
    rw [e, hr] at h2
    simp [dig_len] at h2
    omega

/-- records, and what stands behind them: with fuel, from a place on -/
def recs (g : Nat) : Nat → Nat → List UInt8 → List (List UInt8) × List UInt8
  | 0, _, b => ([], b)
  | f + 1, p, b =>
    match cut b with
    | none => ([], b)
    | some (s, l, r) => if s = dig g p l then (l :: (recs g f (p + 1) r).1, (recs g f (p + 1) r).2) else ([], b)
theorem recs_fuel (g : Nat) : ∀ (f h p : Nat) (b : List UInt8), b.length ≤ f → b.length ≤ h → recs g f p b = recs g h p b := by
  intro f
  induction f with
  | zero =>
    intro h p b hf hh
    have : b = [] := List.eq_nil_of_length_eq_zero (by omega)
    subst this
    cases h with
    | zero => rfl
    | succ h => rw [recs, recs]; rfl
  | succ f ih =>
    intro h p b hf hh
    cases h with
    | zero =>
      have : b = [] := List.eq_nil_of_length_eq_zero (by omega)
      subst this
      rw [recs, recs]
      rfl
    | succ h =>
      rw [recs, recs]
      cases hc : cut b with
      | none => rfl
      | some x =>
        obtain ⟨s, l, r⟩ := x
        have := cut_len hc
        simp only
        rw [ih h (p + 1) r (by omega) (by omega)]
theorem recs_none {g f p : Nat} {b : List UInt8} (h : cut b = none) : recs g f p b = ([], b) := by
  cases f with
  | zero => rfl
  | succ f => rw [recs, h]
theorem recs_bad {g f p : Nat} {b s l r : List UInt8} (h : cut b = some (s, l, r)) (hd : s ≠ dig g p l) : recs g f p b = ([], b) := by
  cases f with
  | zero => rfl
  | succ f => rw [recs, h]; exact if_neg hd
theorem recs_next {g f p : Nat} {b s l r : List UInt8} (h : cut b = some (s, l, r)) (hd : s = dig g p l) : recs g (f + 1) p b = (l :: (recs g f (p + 1) r).1, (recs g f (p + 1) r).2) := by
  rw [recs, h]; exact if_pos hd
theorem recs_frames (g : Nat) : ∀ (ls : List (List UInt8)) (f p : Nat) (t : List UInt8), (∀ l ∈ ls, l.length ≤ 65536) → (frames g p ls ++ t).length ≤ f → cut t = none → recs g f p (frames g p ls ++ t) = (ls, t) := by
  intro ls
  induction ls with
  | nil => intro f p t _ _ ht; exact recs_none ht
  | cons l r ih =>
    intro f p t hl hf ht
    have h1 := hl l (by simp)
    have hp := frame_pos g p l
    simp only [frames, List.append_assoc, List.length_append] at hf ⊢
    obtain ⟨f, rfl⟩ : ∃ k, f = k + 1 := ⟨f - 1, by omega⟩
    rw [recs_next (cut_frame g p l (frames g (p + 1) r ++ t) h1) rfl, ih f (p + 1) t (fun x hx => hl x (List.mem_cons_of_mem _ hx)) (by simp; omega) ht]
theorem recs_spec (g : Nat) : ∀ (f p : Nat) (b : List UInt8), b = frames g p (recs g f p b).1 ++ (recs g f p b).2 ∧ ∀ l ∈ (recs g f p b).1, l.length ≤ 65536 := by
  intro f
  induction f with
  | zero => intro p b; simp [recs, frames]
  | succ f ih =>
    intro p b
    cases hc : cut b with
    | none => rw [recs_none hc]; simp [frames]
    | some x =>
      obtain ⟨s, l, r⟩ := x
      by_cases hd : s = dig g p l
      · rw [recs_next hc hd]
        obtain ⟨h1, h2, h3⟩ := cut_some hc
        obtain ⟨i1, i2⟩ := ih (p + 1) r
        refine ⟨?_, ?_⟩
        · show b = (frame g p l ++ frames g (p + 1) _) ++ _
          rw [List.append_assoc, ← i1, h1, hd]
          simp [frame]
        · intro x hx
          rcases List.mem_cons.1 hx with rfl | hx
          · exact h3
          · exact i2 x hx
      · rw [recs_bad hc hd]; simp [frames]
/-- behind all records there is none more -/
theorem recs_end (g : Nat) : ∀ (f p : Nat) (b : List UInt8), b.length ≤ f → (cut (recs g f p b).2 = none ∨ ∃ s l r, cut (recs g f p b).2 = some (s, l, r) ∧ s ≠ dig g (p + (recs g f p b).1.length) l) := by
  intro f
  induction f with
  | zero =>
    intro p b h
    have : b = [] := List.eq_nil_of_length_eq_zero (by omega)
    subst this
    exact .inl rfl
  | succ f ih =>
    intro p b h
    cases hc : cut b with
    | none => rw [recs_none hc]; exact .inl hc
    | some x =>
      obtain ⟨s, l, r⟩ := x
      by_cases hd : s = dig g p l
      · rw [recs_next hc hd]
        have := cut_len hc
        have := ih (p + 1) r (by omega)
        simp only [List.length_cons]
        rw [show p + ((recs g f (p + 1) r).1.length + 1) = p + 1 + (recs g f (p + 1) r).1.length by omega]
        exact this
      · rw [recs_bad hc hd]; exact .inr ⟨s, l, r, hc, by simpa using hd⟩

/-- an area, as its frames tell -/
structure Ar where
  gen : Nat
  laid : Nat
  list : List (List UInt8)
  rest : List UInt8
def area (b : List UInt8) : Option Ar :=
  match cut b with
  | none => none
  | some (s, p, r) =>
    match intsN p with
    | (0, [g, n]) => if s = dig g.toNat 0 p then some ⟨g.toNat, n.toNat, (recs g.toNat r.length 1 r).1, (recs g.toNat r.length 1 r).2⟩ else none
    | _ => none
/-- the area, if it counts -/
def good (b : List UInt8) : Option Ar := (area b).bind fun x => if 1 ≤ x.gen ∧ x.laid ≤ x.list.length then some x else none
end Lg
end Go.Proofs.YtmiejaohkgemnaaDoor
