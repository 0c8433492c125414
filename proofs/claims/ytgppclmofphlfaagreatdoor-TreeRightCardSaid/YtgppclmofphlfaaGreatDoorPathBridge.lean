/-
  The library's words for cutting, joining, looking for the last slash and printing a number, in the words of paths. Plain lemmas; no statement.
-/
import Derived.Test.YtgppclmofphlfaaGreatDoorPathPlain
import Derived.Lib.Split
import Derived.Lib.SplitLaws
import Derived.Lib.Join
import Derived.Lib.LastIndexByte
import Derived.Lib.ItoaNum
import Derived.Lib.ItoaMem
import Derived.Lib.Repeat
import Derived.Lib.IndexBytes
namespace Go.Proofs.YtgppclmofphlfaaGreatDoor
set_option maxRecDepth 100000
set_option linter.unusedVariables false

theorem slash_cut : ∀ s : List UInt8, (47 : UInt8) ∉ s ∨ ∃ p r, s = p ++ 47 :: r ∧ (47 : UInt8) ∉ p
  | [] => .inl (by simp)
  | c :: s => by
    by_cases hc : c = 47
    · exact .inr ⟨[], s, by rw [hc]; rfl, by simp⟩
    · rcases slash_cut s with h | ⟨p, r, h, hp⟩
      · exact .inl (by simp only [List.mem_cons, not_or]; exact ⟨fun e => hc e.symm, h⟩)
      · exact .inr ⟨c :: p, r, by rw [h]; rfl, by simp only [List.mem_cons, not_or]; exact ⟨fun e => hc e.symm, hp⟩⟩
theorem pieces_none {s : List UInt8} (h : (47 : UInt8) ∉ s) : pieces s = [s] := by
  have := pieces_app (p := s) (r := []) h
  simpa [pieces] using this
theorem pieces_cut {p r : List UInt8} (h : (47 : UInt8) ∉ p) : pieces (p ++ 47 :: r) = p :: pieces r := by
  rw [pieces_app h]
  have : pieces (47 :: r) = [] :: pieces r := by
    conv => lhs; unfold pieces
    rw [if_pos rfl]
  rw [this]
  simp
theorem index_slash_none {s : List UInt8} (h : (47 : UInt8) ∉ s) : Lib.index s [47] = -1 := by
  refine Lib.index_none fun j _ => ?_
  unfold Lib.occAt
  cases hd : s.drop j with
  | nil => rfl
  | cons c r =>
    have hm : c ∈ s := List.mem_of_mem_drop (by rw [hd]; exact List.mem_cons_self ..)
    have hc : ((47 : UInt8) == c) = false := by simp only [beq_eq_false_iff_ne]; intro e; exact h (e ▸ hm)
    simp [List.isPrefixOf, hc]
theorem index_slash {p r : List UInt8} (h : (47 : UInt8) ∉ p) : Lib.index (p ++ 47 :: r) [47] = p.length := by
  refine Lib.index_first (by simp) ?_ fun j hj => ?_
  · unfold Lib.occAt
    rw [List.drop_left]
    simp [List.isPrefixOf]
  · unfold Lib.occAt
    rw [List.drop_append_of_le_length (by omega)]
    cases hd : p.drop j with
    | nil => exact absurd (congrArg List.length hd) (by simp; omega)
    | cons c q =>
      have hm : c ∈ p := List.mem_of_mem_drop (by rw [hd]; exact List.mem_cons_self ..)
      have hc : ((47 : UInt8) == c) = false := by simp only [beq_eq_false_iff_ne]; intro e; exact h (e ▸ hm)
      simp [List.isPrefixOf, hc]
theorem split_pieces : ∀ (n : Nat) (s : List UInt8), s.length ≤ n → Lib.splitK [47] 0 (Lib.count s [47]) s = pieces s
  | n, s, hn => by
    rcases slash_cut s with h | ⟨p, r, rfl, hp⟩
    · rw [Lib.count_miss (index_slash_none h), pieces_none h]; rfl
    · rw [Lib.count_hit (by simp) (index_slash hp), pieces_cut hp, Nat.add_comm 1]
      cases n with
      | zero => simp at hn
      | succ n =>
        have hr : r.length ≤ n := by simp at hn; omega
        have hd : (p ++ 47 :: r).drop (p.length + [(47 : UInt8)].length) = r := by
          rw [show p ++ 47 :: r = (p ++ [47]) ++ r by simp, show p.length + [(47 : UInt8)].length = (p ++ [(47 : UInt8)]).length by simp, List.drop_left]
        rw [hd]
        unfold Lib.splitK
        rw [index_slash hp, if_neg (by simp)]
        simp only [Int.toNat_natCast, Nat.add_zero, List.take_left, hd]
        rw [split_pieces n r hr]
theorem splitB_pieces (s : ByteArray) : (Lib.splitB ⟨#[47]⟩ 0 (Lib.countB s ⟨#[47]⟩) s).map (·.data.toList) = pieces s.data.toList := by
  rw [Lib.splitB_data]
  exact split_pieces _ _ (Nat.le_refl _)
theorem join_slash : ∀ (p : List UInt8) (ps : List (List UInt8)), 47 :: Lib.join (p :: ps) [47] = joinP (p :: ps)
  | p, [] => by rw [Lib.join_one]; simp [joinP]
  | p, q :: ps => by
    have ih := join_slash q ps
    rw [Lib.join_cons] at ih ⊢
    simp only [Lib.joinTail, List.map_cons, List.flatten_cons] at ih ⊢
    simp only [joinP, List.cons.injEq, true_and] at ih ⊢
    rw [← ih]
    simp
theorem join_whole (ps : List (List UInt8)) : 47 :: Lib.join ps [47] = wholeP ps := by
  cases ps with
  | nil => rfl
  | cons p ps => rw [join_slash]; unfold wholeP; rw [if_neg (by simp)]
theorem last_slash (s : ByteArray) (a q : List UInt8) (h : s.data.toList = a ++ 47 :: q) (hq : (47 : UInt8) ∉ q) : Lib.lastIndexByte s ((47 : Nat) : Int) = a.length := by
  have hl : s.size = a.length + 1 + q.length := by rw [Lib.size_eq, h]; simp; omega
  have hg : ∀ j, s.data[j]! = (a ++ 47 :: q).getD j default := by
    intro j
    rw [← h]
    simp [List.getD, Array.getElem!_eq_getD, Array.getD_eq_getD_getElem?]
  rcases Lib.lastIndexByte_spec s ((47 : Nat) : Int) with ⟨e, hn⟩ | ⟨i, hi, e, hc, hn⟩
  · refine absurd ?_ (hn a.length (by omega))
    rw [hg]
    simp
  · rw [e]
    congr 1
    rcases Nat.lt_trichotomy i a.length with h1 | h1 | h1
    · refine absurd ?_ (hn a.length h1 (by omega))
      rw [hg]
      simp
    · exact h1
    · exfalso
      rw [hg] at hc
      apply hq
      have e2 : (a ++ 47 :: q).getD i default = q.getD (i - a.length - 1) default := by
        simp only [List.getD]
        rw [List.getElem?_append_right (by omega), show i - a.length = (i - a.length - 1) + 1 by omega, List.getElem?_cons_succ, Nat.add_sub_cancel]
      rw [e2] at hc
      have hlt : i - a.length - 1 < q.length := by omega
      have e3 : q.getD (i - a.length - 1) default = q[i - a.length - 1] := by simp [List.getD, hlt]
      rw [e3] at hc
      have : q[i - a.length - 1] = 47 := UInt8.toNat_inj.1 (Int.ofNat_inj.1 hc)
      rw [← this]
      exact List.getElem_mem hlt
/-- a path that isn't the root: what stands ahead of its last slash, and behind it -/
theorem joinP_last (ps : List (List UInt8)) (q : List UInt8) : joinP (ps ++ [q]) = joinP ps ++ 47 :: q := by rw [joinP_app]; simp [joinP]
theorem dig_ofNat (u : Nat) (h : u < 10) : Lib.decDigits u = [UInt8.ofNat (48 + u)] := Lib.decDigits_one h
theorem decDigits_more {u : Nat} (h : ¬ u < 10) : Lib.decDigits u = Lib.decDigits (u / 10) ++ [UInt8.ofNat (48 + u % 10)] := by rw [Lib.decDigits, dif_neg h]
theorem digits_five (u : Nat) (h : u < 100000) : (Lib.decDigits u).length ≤ 5 ∧ Lib.repeatL [48] (5 - (Lib.decDigits u).length) ++ Lib.decDigits u = digits5 u := by
  have z : ∀ k : Nat, k = 0 → UInt8.ofNat (48 + k) = 48 := by rintro k rfl; rfl
  by_cases h1 : u < 10
  · rw [dig_ofNat u h1]
    refine ⟨by simp, ?_⟩
    simp [Lib.repeatL, digits5, show u / 10000 % 10 = 0 by omega, show u / 1000 % 10 = 0 by omega, show u / 100 % 10 = 0 by omega, show u / 10 % 10 = 0 by omega, show u % 10 = u by omega]
  · by_cases h2 : u < 100
    · rw [decDigits_more h1, dig_ofNat (u / 10) (by omega)]
      refine ⟨by simp, ?_⟩
      simp [Lib.repeatL, digits5, show u / 10000 % 10 = 0 by omega, show u / 1000 % 10 = 0 by omega, show u / 100 % 10 = 0 by omega, show u / 10 % 10 = u / 10 by omega]
    · by_cases h3 : u < 1000
      · rw [decDigits_more h1, decDigits_more (u := u / 10) (by omega), dig_ofNat (u / 10 / 10) (by omega)]
        refine ⟨by simp, ?_⟩
        simp [Lib.repeatL, digits5, show u / 10000 % 10 = 0 by omega, show u / 1000 % 10 = 0 by omega, show u / 100 % 10 = u / 10 / 10 by omega]
      · by_cases h4 : u < 10000
        · rw [decDigits_more h1, decDigits_more (u := u / 10) (by omega), decDigits_more (u := u / 10 / 10) (by omega), dig_ofNat (u / 10 / 10 / 10) (by omega)]
          refine ⟨by simp, ?_⟩
          simp [Lib.repeatL, digits5, show u / 10000 % 10 = 0 by omega, show u / 1000 % 10 = u / 10 / 10 / 10 by omega, show u / 100 % 10 = u / 10 / 10 % 10 by omega]
        · rw [decDigits_more h1, decDigits_more (u := u / 10) (by omega), decDigits_more (u := u / 10 / 10) (by omega), decDigits_more (u := u / 10 / 10 / 10) (by omega), dig_ofNat (u / 10 / 10 / 10 / 10) (by omega)]
          refine ⟨by simp, ?_⟩
          simp [Lib.repeatL, digits5, show u / 10000 % 10 = u / 10 / 10 / 10 / 10 by omega, show u / 1000 % 10 = u / 10 / 10 / 10 % 10 by omega, show u / 100 % 10 = u / 10 / 10 % 10 by omega]
end Go.Proofs.YtgppclmofphlfaaGreatDoor
