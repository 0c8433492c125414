/-
  Is it among these? The library's Contains over numbers and texts that read so. Walks; no statement.
-/
import Derived.Test.YtbppokdaehaocaaDoorMPathA
import Derived.Test.YtbppokdaehaocaaDoorShelf
import Derived.Lib.Slices
import Derived.Lib.SlicesS
namespace Go.Proofs.YtbppokdaehaocaaDoor
set_option maxRecDepth 100000
open Go.RowKit
set_option linter.unusedVariables false

theorem rd_form {w : World} {A : Option Addr} {n : Nat} {us : List Value} (h : Rd w A n us) (hn : 0 < n) : ∃ b off, A = some ⟨b, off, none⟩ ∧ ∀ j u, us[j]? = some u → w.cell? ⟨b, off + j, none⟩ = some u := by
  obtain ⟨a, rfl, hb, hc⟩ := Rd.at_ h (k := 0) hn
  have hsp : a.spot = none := by
    have hc0 : w.cell? a = some _ := hc
    unfold World.cell? at hc0
    split at hc0
    · cases hs : a.spot with
      | none => rfl
      | some s => rw [hs] at hc0; simp at hc0
    · cases hc0
  obtain ⟨b, off, sp⟩ := a
  obtain rfl : sp = none := hsp
  refine ⟨b, off, rfl, fun j u hu => ?_⟩
  obtain ⟨a', e, _, hc'⟩ := h.2 j u hu
  obtain rfl := Option.some.inj e
  have e1 : (⟨b, off, none⟩ : Addr).add j = ⟨b, off + j, none⟩ := by unfold Addr.add; split <;> simp_all
  rw [← e1]
  exact hc'
theorem hasInt_any (A : Option Addr) (n c : Nat) (os : List Int) (v : Int) (w : World) (h : Rd w A n (os.map (.int .i64 ·))) (hn : n ≤ maxLen) :
    Calls Tryd.prog 42 #[.slice A n c, .int .i64 v] w fun e w' => e = .returned (.bool (decide (v ∈ os))) ∧ w' = w := by
  have hl : os.length = n := by simpa using h.1
  rcases Nat.eq_zero_or_pos n with h0 | h0
  · subst h0
    obtain rfl := List.eq_nil_of_length_eq_zero hl
    refine (Tryd.slices_Contains_int_empty A c v w).mono ?_
    rintro e w' ⟨rfl, rfl⟩
    exact ⟨rfl, rfl⟩
  · obtain ⟨b, off, rfl, hc⟩ := rd_form h h0
    refine (Tryd.slices_Contains_int b off n c os v w (by omega) (by simpa [maxLen] using hn) (fun j hj => hc j _ (by rw [List.getElem?_map, List.getElem?_eq_getElem hj]; simp [List.getD, hj]))).mono ?_
    rintro e w' ⟨rfl, rfl⟩
    refine ⟨?_, rfl⟩
    rw [← hl, List.take_length]
    simp
theorem hasText_any (A : Option Addr) (n c : Nat) (ls : List (List UInt8)) (p : List UInt8) (w : World) (h : RdT w A n ls) (hn : n ≤ maxLen) :
    Calls Tryd.prog 40 #[.slice A n c, .string ⟨p.toArray⟩] w fun e w' => e = .returned (.bool (decide (p ∈ ls))) ∧ w' = w := by
  have hl := h.len
  rcases Nat.eq_zero_or_pos n with h0 | h0
  · subst h0
    obtain rfl := List.eq_nil_of_length_eq_zero hl
    refine (Tryd.slices_Contains_string_empty A c ⟨p.toArray⟩ w).mono ?_
    rintro e w' ⟨rfl, rfl⟩
    exact ⟨rfl, rfl⟩
  · obtain ⟨b, off, rfl, hc⟩ := rd_form h h0
    refine (Tryd.slices_Contains_string b off n c (ls.map fun l => ⟨l.toArray⟩) ⟨p.toArray⟩ w (by simp; omega) (by simpa [maxLen] using hn) (fun j hj => hc j _ (by
      have hj' : j < ls.length := by simpa using hj
      rw [List.getElem?_map, List.getElem?_eq_getElem hj']
      simp [List.getD, hj']))).mono ?_
    rintro e w' ⟨rfl, rfl⟩
    refine ⟨?_, rfl⟩
    have e1 : Lib.containsS ((ls.map fun l => (⟨l.toArray⟩ : ByteArray)).take n) ⟨p.toArray⟩ = decide (p ∈ ls) := by
      rw [List.take_of_length_le (by simp; omega), Bool.eq_iff_iff, decide_eq_true_eq, Lib.containsS_iff, List.mem_map]
      constructor
      · rintro ⟨l, hl, e⟩
        have : l = p := by
          have := congrArg (fun b : ByteArray => b.data.toList) e
          simpa using this
        exact this ▸ hl
      · exact fun hp => ⟨p, hp, rfl⟩
    rw [e1]
end Go.Proofs.YtbppokdaehaocaaDoor
