/-
  LogLays: plain facts. Nothing of the program.
-/
import Derived.Test.YtmiejaohkgemnaaDoorMFacts
namespace Go.Proofs.YtmiejaohkgemnaaDoor
open Go.RowKit
set_option linter.unusedVariables false
set_option maxRecDepth 100000

namespace Lg
section
variable {p : Int} {d0 d1 : List UInt8} {s0 s1 : Int} {gen : Nat} {ls : List (List UInt8)}
theorem trim_p1 (h : 0 ≤ s1) (hp : 0 < p) : (⟨p, d0, d1, s0, s1⟩ : PD).trim 1 0 = (⟨p - 1, d0, [], s0, 0⟩, 0) := by
  unfold PD.trim
  rw [if_pos (by simp [known, PD.data]), if_neg (by show ¬ (p = 0); omega)]
  simp only [PD.setData, PD.setSafe, PD.drew, drawn, PD.safe, PD.data]
  simp [hp]
  omega
theorem trim_p0 (h : 0 ≤ s0) (hp : 0 < p) : (⟨p, d0, d1, s0, s1⟩ : PD).trim 0 0 = (⟨p - 1, [], d1, 0, s1⟩, 0) := by
  unfold PD.trim
  rw [if_pos (by simp [known, PD.data]), if_neg (by show ¬ (p = 0); omega)]
  simp only [PD.setData, PD.setSafe, PD.drew, drawn, PD.safe, PD.data, if_pos]
  simp [hp]
  omega
/-- laying in area 1, by the power there is -/
theorem lay_p1 (h : 0 ≤ s1) (hp : 0 ≤ p) : lay ⟨p, d0, d1, s0, s1⟩ 1 gen ls =
    if p = 0 then (⟨0, d0, d1, s0, s1⟩, 40) else if p = 1 then (⟨0, d0, [], s0, 0⟩, 40) else if p = 2 then (⟨0, d0, whole gen ls.length ls, s0, 0⟩, 40) else (⟨p - 3, d0, whole gen ls.length ls, s0, (whole gen ls.length ls).length⟩, 0) := by
  by_cases h0 : p = 0
  · subst h0
    have : (⟨0, d0, d1, s0, s1⟩ : PD).trim 1 0 = (⟨0, d0, d1, s0, s1⟩, 40) := PD.trim_down (a := 1) (k := 0) rfl (by omega) rfl
    unfold lay
    rw [this, if_pos (by simp), if_pos rfl]
  · rw [if_neg h0]
    have ht := trim_p1 (d0 := d0) (d1 := d1) (s0 := s0) h (show 0 < p by omega)
    unfold lay
    rw [ht]
    simp only
    rw [if_neg (by simp)]
    by_cases h1 : p = 1
    · subst h1
      have ha : (⟨1 - 1, d0, [], s0, 0⟩ : PD).append 1 [whole gen ls.length ls] = (⟨0, d0, [], s0, 0⟩, 40) := by
        unfold PD.append
        rw [if_pos known1]
        exact (if_pos (show (1 : Int) - 1 = 0 by omega)).trans rfl
      rw [ha, if_pos rfl]
      simp
    · rw [if_neg h1]
      have ha : (⟨p - 1, d0, [], s0, 0⟩ : PD).append 1 [whole gen ls.length ls] = (⟨p - 1 - 1, d0, whole gen ls.length ls, s0, 0⟩, 0) := by
        unfold PD.append
        rw [if_pos known1, if_neg (by show ¬ (p - 1 = 0); omega)]
        simp only [PD.setData, PD.drew, drawn, PD.data]
        simp
        omega
      rw [ha]
      simp only
      rw [if_neg (by simp)]
      by_cases h2 : p = 2
      · subst h2
        rw [if_pos rfl]
        have : (⟨(2 : Int) - 1 - 1, d0, whole gen ls.length ls, s0, 0⟩ : PD).sync [1] = (⟨0, d0, whole gen ls.length ls, s0, 0⟩, 40) := by
          unfold PD.sync
          exact (if_pos rfl).trans ((if_pos (show (2 : Int) - 1 - 1 = 0 by omega)).trans rfl)
        exact this
      · rw [if_neg h2, sync_eq _ _ rfl (by show ¬ (p - 1 - 1 = 0); omega)]
        simp only [told, drawn]
        simp
        omega
theorem lay_p0 (h : 0 ≤ s0) (hp : 0 ≤ p) : lay ⟨p, d0, d1, s0, s1⟩ 0 gen ls =
    if p = 0 then (⟨0, d0, d1, s0, s1⟩, 40) else if p = 1 then (⟨0, [], d1, 0, s1⟩, 40) else if p = 2 then (⟨0, whole gen ls.length ls, d1, 0, s1⟩, 40) else (⟨p - 3, whole gen ls.length ls, d1, (whole gen ls.length ls).length, s1⟩, 0) := by
  by_cases h0 : p = 0
  · subst h0
    have : (⟨0, d0, d1, s0, s1⟩ : PD).trim 0 0 = (⟨0, d0, d1, s0, s1⟩, 40) := PD.trim_down (a := 0) (k := 0) rfl (by omega) rfl
    unfold lay
    rw [this, if_pos (by simp), if_pos rfl]
  · rw [if_neg h0]
    have ht := trim_p0 (d0 := d0) (d1 := d1) (s1 := s1) h (show 0 < p by omega)
    unfold lay
    rw [ht]
    simp only
    rw [if_neg (by simp)]
    by_cases h1 : p = 1
    · subst h1
      have ha : (⟨1 - 1, [], d1, 0, s1⟩ : PD).append 0 [whole gen ls.length ls] = (⟨0, [], d1, 0, s1⟩, 40) := by
        unfold PD.append
        rw [if_pos known0]
        exact (if_pos (show (1 : Int) - 1 = 0 by omega)).trans rfl
      rw [ha, if_pos rfl]
      simp
    · rw [if_neg h1]
      have ha : (⟨p - 1, [], d1, 0, s1⟩ : PD).append 0 [whole gen ls.length ls] = (⟨p - 1 - 1, whole gen ls.length ls, d1, 0, s1⟩, 0) := by
        unfold PD.append
        rw [if_pos known0, if_neg (by show ¬ (p - 1 = 0); omega)]
        simp only [PD.setData, PD.drew, drawn, PD.data]
        simp
        omega
      rw [ha]
      simp only
      rw [if_neg (by simp)]
      by_cases h2 : p = 2
      · subst h2
        rw [if_pos rfl]
        have : (⟨(2 : Int) - 1 - 1, whole gen ls.length ls, d1, 0, s1⟩ : PD).sync [0] = (⟨0, whole gen ls.length ls, d1, 0, s1⟩, 40) := by
          unfold PD.sync
          exact (if_pos rfl).trans ((if_pos (show (2 : Int) - 1 - 1 = 0 by omega)).trans rfl)
        exact this
      · rw [if_neg h2, sync_eq _ _ rfl (by show ¬ (p - 1 - 1 = 0); omega)]
        simp only [told, drawn]
        simp
        omega
end
/-- a front of a laid area counts just if it has all that was laid -/
theorem front_good {g : Nat} {b : List (List UInt8)} {j : Nat} (hg : 1 ≤ g) (hg' : g < 4611686018427387904) (hb : ∀ l ∈ b, l.length ≤ 65536) (hn : b.length < 4611686018427387904) :
    good ((whole g b.length b).take j) = none ∨ ∃ t, good ((whole g b.length b).take j) = some ⟨g, b.length, b, t⟩ := by
  rcases Nat.lt_or_ge j (whole g b.length []).length with h | h
  · left
    have hh := headB_le hg' hn
    have hw : (whole g b.length []).length = (frame g 0 (headB g b.length)).length := by simp [whole, frames]
    have : (whole g b.length b).take j = (frame g 0 (headB g b.length)).take j := by
      unfold whole
      rw [List.take_append_of_le_length (by omega)]
    rw [this]
    unfold good
    rw [area_none (cut_front g 0 _ j (by omega) (by omega))]
    rfl
  · obtain ⟨i, t, hi, ht, hc⟩ := whole_front g b.length b j hb h
    rw [ht]
    have har := area_whole (g := g) (n := b.length) (ls := b.take i) (t := t) hg' hn (fun l hl => hb l (List.mem_of_mem_take hl)) hc
    by_cases hib : i = b.length
    · right
      subst hib
      rw [List.take_length] at har ⊢
      exact ⟨t, good_whole hg hg' (Nat.le_refl _) hn hb hc⟩
    · left
      unfold good
      rw [har]
      simp only [Option.bind_some]
      rw [if_neg]
      simp only [List.length_take]
      omega
/-- what an opening finds: the old ones, or the new ones -/
def Finds (D : PD) (l : List (List UInt8)) : Prop := (opn D).2 = 0 ∧ (opn D).1.list = l
theorem finds_best {e0 e1 : List UInt8} {c s0 s1 : Int} {x : Ar} (h : best ⟨-1, e0, e1, s0, s1⟩ = some (c, x)) : Finds ⟨-1, e0, e1, s0, s1⟩ x.list := by
  obtain ⟨h1, _, _, _, h2, _⟩ := opn_best h (.inr (by show (-1 : Int) ≠ 0; omega))
  exact ⟨h1, h2⟩
theorem fine_mk {p : Int} {e0 e1 : List UInt8} {s0 s1 : Int} (h0 : 0 ≤ s0) (h1 : s0 ≤ e0.length) (h2 : 0 ≤ s1) (h3 : s1 ≤ e1.length) : (⟨p, e0, e1, s0, s1⟩ : PD).Fine := ⟨h0, h1, h2, h3⟩
theorem crash_one (p q : Int) (e0 e1 : List UInt8) (s0 s1 : Int) (ks : List Int) (hf : (⟨p, e0, e1, s0, s1⟩ : PD).Fine) : ∃ j0 j1 : Nat, s0 ≤ j0 ∧ j0 ≤ e0.length ∧ s1 ≤ j1 ∧ j1 ≤ e1.length ∧ (⟨p, e0, e1, s0, s1⟩ : PD).crash ks q = ⟨q, e0.take j0, e1.take j1, (e0.take j0).length, (e1.take j1).length⟩ :=
  crash_eq ⟨p, e0, e1, s0, s1⟩ ks q hf
section
variable {p : Int} {g nn : Nat} {a b : List (List UInt8)} {X : List UInt8} {ks : List Int}
theorem lay_crash1 (hp : 0 ≤ p) (hg : 1 ≤ g) (hg' : g + 1 < 4611686018427387904) (hnn : nn ≤ a.length) (hn' : nn < 4611686018427387904) (ha : ∀ l ∈ a, l.length ≤ 65536) (hb : ∀ l ∈ b, l.length ≤ 65536) (hbn : b.length < 4611686018427387904) (hX : ∀ y, good X = some y → y.gen < g) :
    ((lay ⟨p, whole g nn a, X, (whole g nn a).length, X.length⟩ 1 (g + 1) b).2 = 0 ∧ Finds ((lay ⟨p, whole g nn a, X, (whole g nn a).length, X.length⟩ 1 (g + 1) b).1.crash ks (-1)) b) ∨
    ((lay ⟨p, whole g nn a, X, (whole g nn a).length, X.length⟩ 1 (g + 1) b).2 = 40 ∧ (Finds ((lay ⟨p, whole g nn a, X, (whole g nn a).length, X.length⟩ 1 (g + 1) b).1.crash ks (-1)) a ∨ Finds ((lay ⟨p, whole g nn a, X, (whole g nn a).length, X.length⟩ 1 (g + 1) b).1.crash ks (-1)) b)) := by
  rw [lay_p1 (by omega) hp]
  have hga : good (whole g nn a) = some ⟨g, nn, a, []⟩ := by have := good_whole (t := []) hg (by omega) hnn hn' ha cut_nil; rwa [List.append_nil] at this
  by_cases h0 : p = 0
  · rw [if_pos h0]
    right
    refine ⟨rfl, .inl ?_⟩
    obtain ⟨j0, j1, q0, q1, q2, q3, e⟩ := crash_one 0 (-1) (whole g nn a) X (whole g nn a).length X.length ks (fine_mk (by omega) (by omega) (by omega) (by omega))
    show Finds (PD.crash _ ks (-1)) a
    rw [e, List.take_of_length_le (by omega), List.take_of_length_le (by omega)]
    exact finds_best (best_0 hga (fun y hy => by have := hX y hy; show ¬ g < y.gen; omega))
  · rw [if_neg h0]
    by_cases h1 : p = 1
    · rw [if_pos h1]
      right
      refine ⟨rfl, .inl ?_⟩
      obtain ⟨j0, j1, q0, q1, q2, q3, e⟩ := crash_one 0 (-1) (whole g nn a) [] (whole g nn a).length 0 ks (fine_mk (by omega) (by omega) (by simp) (by simp))
      show Finds (PD.crash _ ks (-1)) a
      rw [e, List.take_of_length_le (by omega), List.take_nil]
      exact finds_best (best_0 hga (fun y hy => by cases hy))
    · rw [if_neg h1]
      by_cases h2 : p = 2
      · rw [if_pos h2]
        right
        refine ⟨rfl, ?_⟩
        obtain ⟨j0, j1, q0, q1, q2, q3, e⟩ := crash_one 0 (-1) (whole g nn a) (whole (g + 1) b.length b) (whole g nn a).length 0 ks (fine_mk (by omega) (by omega) (by omega) (by omega))
        show Finds (PD.crash _ ks (-1)) a ∨ Finds (PD.crash _ ks (-1)) b
        rw [e, List.take_of_length_le (show (whole g nn a).length ≤ j0 by omega)]
        rcases front_good (g := g + 1) (b := b) (j := j1) (by omega) hg' hb hbn with h | ⟨t, h⟩
        · exact .inl (finds_best (best_0 hga (fun y hy => by rw [show good (List.take j1 (whole (g + 1) b.length b)) = some y from hy] at h; cases h)))
        · exact .inr (finds_best (best_1 h (fun y hy => by
            rw [show good (whole g nn a) = some y from hy] at hga
            injection hga with hga
            rw [hga]
            show g < g + 1
            omega)))
      · rw [if_neg h2]
        left
        refine ⟨rfl, ?_⟩
        obtain ⟨j0, j1, q0, q1, q2, q3, e⟩ := crash_one (p - 3) (-1) (whole g nn a) (whole (g + 1) b.length b) (whole g nn a).length (whole (g + 1) b.length b).length ks (fine_mk (by omega) (by omega) (by omega) (by omega))
        show Finds (PD.crash _ ks (-1)) b
        rw [e, List.take_of_length_le (show (whole g nn a).length ≤ j0 by omega), List.take_of_length_le (show (whole (g + 1) b.length b).length ≤ j1 by omega)]
        have hgb : good (whole (g + 1) b.length b) = some ⟨g + 1, b.length, b, []⟩ := by have := good_whole (t := []) (by omega) hg' (Nat.le_refl _) hbn hb cut_nil; rwa [List.append_nil] at this
        exact finds_best (best_1 hgb (fun y hy => by
          rw [show good (whole g nn a) = some y from hy] at hga
          injection hga with hga
          rw [hga]
          show g < g + 1
          omega))
theorem lay_crash0 (hp : 0 ≤ p) (hg : 1 ≤ g) (hg' : g + 1 < 4611686018427387904) (hnn : nn ≤ a.length) (hn' : nn < 4611686018427387904) (ha : ∀ l ∈ a, l.length ≤ 65536) (hb : ∀ l ∈ b, l.length ≤ 65536) (hbn : b.length < 4611686018427387904) (hX : ∀ y, good X = some y → y.gen < g) :
    ((lay ⟨p, X, whole g nn a, X.length, (whole g nn a).length⟩ 0 (g + 1) b).2 = 0 ∧ Finds ((lay ⟨p, X, whole g nn a, X.length, (whole g nn a).length⟩ 0 (g + 1) b).1.crash ks (-1)) b) ∨
    ((lay ⟨p, X, whole g nn a, X.length, (whole g nn a).length⟩ 0 (g + 1) b).2 = 40 ∧ (Finds ((lay ⟨p, X, whole g nn a, X.length, (whole g nn a).length⟩ 0 (g + 1) b).1.crash ks (-1)) a ∨ Finds ((lay ⟨p, X, whole g nn a, X.length, (whole g nn a).length⟩ 0 (g + 1) b).1.crash ks (-1)) b)) := by
  rw [lay_p0 (by omega) hp]
  have hga : good (whole g nn a) = some ⟨g, nn, a, []⟩ := by have := good_whole (t := []) hg (by omega) hnn hn' ha cut_nil; rwa [List.append_nil] at this
  by_cases h0 : p = 0
  · rw [if_pos h0]
    right
    refine ⟨rfl, .inl ?_⟩
    obtain ⟨j0, j1, q0, q1, q2, q3, e⟩ := crash_one 0 (-1) X (whole g nn a) X.length (whole g nn a).length ks (fine_mk (by omega) (by omega) (by omega) (by omega))
    show Finds (PD.crash _ ks (-1)) a
    rw [e, List.take_of_length_le (by omega), List.take_of_length_le (by omega)]
    exact finds_best (best_1 hga (fun y hy => hX y hy))
  · rw [if_neg h0]
    by_cases h1 : p = 1
    · rw [if_pos h1]
      right
      refine ⟨rfl, .inl ?_⟩
      obtain ⟨j0, j1, q0, q1, q2, q3, e⟩ := crash_one 0 (-1) [] (whole g nn a) 0 (whole g nn a).length ks (fine_mk (by simp) (by simp) (by omega) (by omega))
      show Finds (PD.crash _ ks (-1)) a
      rw [e, List.take_of_length_le (show (whole g nn a).length ≤ j1 by omega), List.take_nil]
      exact finds_best (best_1 hga (fun y hy => by cases hy))
    · rw [if_neg h1]
      by_cases h2 : p = 2
      · rw [if_pos h2]
        right
        refine ⟨rfl, ?_⟩
        obtain ⟨j0, j1, q0, q1, q2, q3, e⟩ := crash_one 0 (-1) (whole (g + 1) b.length b) (whole g nn a) 0 (whole g nn a).length ks (fine_mk (by omega) (by omega) (by omega) (by omega))
        show Finds (PD.crash _ ks (-1)) a ∨ Finds (PD.crash _ ks (-1)) b
        rw [e, List.take_of_length_le (show (whole g nn a).length ≤ j1 by omega)]
        rcases front_good (g := g + 1) (b := b) (j := j0) (by omega) hg' hb hbn with h | ⟨t, h⟩
        · exact .inl (finds_best (best_1 hga (fun y hy => by rw [show good (List.take j0 (whole (g + 1) b.length b)) = some y from hy] at h; cases h)))
        · exact .inr (finds_best (best_0 h (fun y hy => by
            rw [show good (whole g nn a) = some y from hy] at hga
            injection hga with hga
            rw [hga]
            show ¬ g + 1 < g
            omega)))
      · rw [if_neg h2]
        left
        refine ⟨rfl, ?_⟩
        obtain ⟨j0, j1, q0, q1, q2, q3, e⟩ := crash_one (p - 3) (-1) (whole (g + 1) b.length b) (whole g nn a) (whole (g + 1) b.length b).length (whole g nn a).length ks (fine_mk (by omega) (by omega) (by omega) (by omega))
        show Finds (PD.crash _ ks (-1)) b
        rw [e, List.take_of_length_le (show (whole g nn a).length ≤ j1 by omega), List.take_of_length_le (show (whole (g + 1) b.length b).length ≤ j0 by omega)]
        have hgb : good (whole (g + 1) b.length b) = some ⟨g + 1, b.length, b, []⟩ := by have := good_whole (t := []) (by omega) hg' (Nat.le_refl _) hbn hb cut_nil; rwa [List.append_nil] at this
        exact finds_best (best_0 hgb (fun y hy => by
          rw [show good (whole g nn a) = some y from hy] at hga
          injection hga with hga
          rw [hga]
          show ¬ g + 1 < g
          omega))
end
end Lg
end Go.Proofs.YtmiejaohkgemnaaDoor
