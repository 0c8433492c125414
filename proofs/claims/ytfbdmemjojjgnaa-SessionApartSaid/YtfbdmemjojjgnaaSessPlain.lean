/-
  Clients' sessions as plain values: the document's answers. Plain lemmas; no statement.
-/
import Derived.WalkKit
namespace Go.Proofs.Ytfbdmemjojjgnaa
set_option maxRecDepth 100000
set_option linter.unusedVariables false

/-- a session: a client, how long it lasts, when the last sign was -/
structure Se where
  client : Int
  span : Int
  seen : Int
deriving DecidableEq
def seRight (x : Se) : Bool := decide (0 ≤ x.client ∧ x.client < 8 ∧ 1 ≤ x.span ∧ x.span ≤ 1000000 ∧ 0 ≤ x.seen ∧ x.seen < 1099511627776)
def seLive (c : Int) (t : List Se) : Bool := t.any fun x => x.client == c
/-- in its place: ahead of the first one of a greater client -/
def seIns (s : Se) : List Se → List Se
  | [] => [s]
  | x :: r => if s.client < x.client then s :: x :: r else x :: seIns s r
/-- Open: the sessions and the answer -/
def seOpen (s : Se) (t : List Se) : List Se × Int := if seRight s = false then (t, 120) else if seLive s.client t = true then (t, 101) else (seIns s t, 0)
def seTouched (c now : Int) (t : List Se) : List Se := t.map fun x => if x.client = c ∧ x.seen < now then { x with seen := now } else x
def seTouch (c now : Int) (t : List Se) : List Se × Int := if seLive c t = true ∧ 0 ≤ now ∧ now < 1099511627776 then (seTouched c now t, 0) else (t, 120)
/-- a session that has ended -/
def seEnds (now : Int) (x : Se) : Bool := decide (x.seen + x.span ≤ now)
def seIn (cs : List Int) (x : Se) : Bool := decide (x.client ∈ cs)
/-- clients of those that are gone; what is left -/
def seGone (p : Se → Bool) (t : List Se) : List Int := (t.filter p).map (·.client)
def seLeft (p : Se → Bool) (t : List Se) : List Se := t.filter fun x => !p x
/-- by rising clients -/
def seLt (x y : Se) : Prop := x.client < y.client
instance (x y : Se) : Decidable (seLt x y) := inferInstanceAs (Decidable (_ < _))
/-- what a book may hold -/
def SOk (t : List Se) : Prop := t.Pairwise seLt ∧ ∀ x ∈ t, seRight x = true
instance (t : List Se) : Decidable (SOk t) := inferInstanceAs (Decidable (_ ∧ _))
/-- Load's question -/
def seTakes (t : List Se) : Bool := decide (SOk t)
def seLoaded (xs t : List Se) : List Se := if seTakes xs = true then xs else t
theorem mem_seIns {s x : Se} : ∀ {t : List Se}, x ∈ seIns s t ↔ x = s ∨ x ∈ t
  | [] => by simp [seIns]
  | y :: r => by
    unfold seIns
    split
    · simp
    · rw [List.mem_cons, mem_seIns, List.mem_cons]
      constructor
      · rintro (h | h | h)
        · exact .inr (.inl h)
        · exact .inl h
        · exact .inr (.inr h)
      · rintro (h | h | h)
        · exact .inr (.inl h)
        · exact .inl h
        · exact .inr (.inr h)
theorem seIns_len (s : Se) : ∀ (t : List Se), (seIns s t).length = t.length + 1
  | [] => rfl
  | y :: r => by unfold seIns; split <;> simp [seIns_len s r]
theorem seRight_client {x : Se} (h : seRight x = true) : 0 ≤ x.client ∧ x.client < 8 := by
  unfold seRight at h
  have := of_decide_eq_true h
  omega
theorem seLive_false {c : Int} {t : List Se} (h : seLive c t = false) : ∀ x ∈ t, x.client ≠ c := by
  intro x hx e
  unfold seLive at h
  rw [List.any_eq_false] at h
  exact h x hx (by simpa using e)
theorem SOk.ins {s : Se} : ∀ {t : List Se}, SOk t → seRight s = true → seLive s.client t = false → SOk (seIns s t)
  | [], h, hr, hl => ⟨by simp [seIns], by simp [seIns, hr]⟩
  | y :: r, h, hr, hl => by
    obtain ⟨h1, h2⟩ := List.pairwise_cons.1 h.1
    have hne := seLive_false hl
    unfold seIns
    split
    · rename_i hlt
      refine ⟨List.pairwise_cons.2 ⟨fun z hz => ?_, h.1⟩, fun z hz => ?_⟩
      · rcases List.mem_cons.1 hz with e | e
        · subst e; exact hlt
        · have := h1 z e; unfold seLt at *; omega
      · rcases List.mem_cons.1 hz with e | e
        · subst e; exact hr
        · exact h.2 z e
    · rename_i hlt
      have hr2 : SOk r := ⟨h2, fun z hz => h.2 z (List.mem_cons_of_mem _ hz)⟩
      have hl2 : seLive s.client r = false := by
        unfold seLive at hl ⊢
        rw [List.any_cons] at hl
        simp only [Bool.or_eq_false_iff] at hl
        exact hl.2
      have ih := SOk.ins hr2 hr hl2
      refine ⟨List.pairwise_cons.2 ⟨fun z hz => ?_, ih.1⟩, fun z hz => ?_⟩
      · rcases mem_seIns.1 hz with e | e
        · subst e; have := hne y (List.mem_cons_self ..); unfold seLt; omega
        · exact h1 z e
      · rcases List.mem_cons.1 hz with e | e
        · subst e; exact h.2 z (List.mem_cons_self ..)
        · exact ih.2 z e
theorem SOk.opened {t : List Se} (h : SOk t) (s : Se) : SOk (seOpen s t).1 := by
  unfold seOpen
  split
  · exact h
  · split
    · exact h
    · exact h.ins (by simpa using ‹¬ seRight s = false›) (by simpa using ‹¬ seLive s.client t = true›)
theorem SOk.left {t : List Se} (h : SOk t) (p : Se → Bool) : SOk (seLeft p t) := ⟨h.1.filter _, fun x hx => h.2 x (List.mem_filter.1 hx).1⟩
theorem SOk.touched {t : List Se} (h : SOk t) (c : Int) {now : Int} (hn : 0 ≤ now ∧ now < 1099511627776) : SOk (seTouched c now t) := by
  unfold seTouched
  refine ⟨List.pairwise_map.2 (h.1.imp fun {a b} hab => ?_), fun x hx => ?_⟩
  · unfold seLt at *
    split <;> split <;> exact hab
  · obtain ⟨y, hy, rfl⟩ := List.mem_map.1 hx
    have := h.2 y hy
    split
    · unfold seRight at *
      have := of_decide_eq_true this
      exact decide_eq_true (by simp only; omega)
    · exact this
theorem SOk.touch {t : List Se} (h : SOk t) (c now : Int) : SOk (seTouch c now t).1 := by
  unfold seTouch
  split
  · rename_i hh
    exact h.touched c hh.2
  · exact h
/-- no more than the clients -/
theorem rising_few : ∀ (t : List Se) (lo : Int) (n : Nat), t.Pairwise seLt → (∀ x ∈ t, lo ≤ x.client ∧ x.client < lo + n) → t.length ≤ n
  | [], _, _, _, _ => Nat.zero_le _
  | x :: r, lo, n, hp, hb => by
    obtain ⟨h1, h2⟩ := List.pairwise_cons.1 hp
    have hx := hb x (List.mem_cons_self ..)
    have ih := rising_few r (x.client + 1) (lo + n - (x.client + 1)).toNat h2 fun y hy => by
      have h3 : x.client < y.client := h1 y hy
      have h4 := hb y (List.mem_cons_of_mem _ hy)
      omega
    simp only [List.length_cons]
    omega
theorem SOk.len {t : List Se} (h : SOk t) : t.length ≤ 8 := rising_few t 0 8 h.1 fun x hx => by have := seRight_client (h.2 x hx); omega
theorem sok_nil : SOk [] := ⟨List.Pairwise.nil, by simp⟩
end Go.Proofs.Ytfbdmemjojjgnaa
