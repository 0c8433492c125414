/-
  Sessions: who is gone, who is left. Plain lemmas; no statement.
-/
import Derived.Test.YtfbdmemjojjgnaaSessAlive
import Derived.Test.YtfbdmemjojjgnaaSessMap
namespace Go.Proofs.Ytfbdmemjojjgnaa
set_option maxRecDepth 100000
open Go.RowKit
set_option linter.unusedVariables false

theorem i64_and21 (n : Int) : bits .and .i64 n 2097151 = n % 2097152 := by
  have h1 : (BitVec.ofInt 64 2097151).toNat = 2 ^ 21 - 1 := by decide
  have key : (BitVec.ofInt 64 n &&& BitVec.ofInt 64 2097151).toNat = (n % ((2 ^ 64 : Nat) : Int)).toNat % 2 ^ 21 := by
    rw [BitVec.toNat_and, BitVec.toNat_ofInt, h1, Nat.and_two_pow_sub_one_eq_mod]
  show IntKind.i64.wrap ((BitVec.ofInt 64 n &&& BitVec.ofInt 64 2097151).toNat : Nat) = n % 2097152
  rw [key, IntKind.wrap_i64]
  omega
section
variable {t : List Se} {x y s : Se} {p : Se → Bool}
theorem se_uniq : ∀ {t : List Se}, t.Pairwise seLt → x ∈ t → y ∈ t → x.client = y.client → x = y
  | [], _, h, _, _ => by cases h
  | z :: r, hp, hx, hy, e => by
    obtain ⟨h1, h2⟩ := List.pairwise_cons.1 hp
    rcases List.mem_cons.1 hx with e1 | e1
    · rcases List.mem_cons.1 hy with e2 | e2
      · rw [e1, e2]
      · have : z.client < y.client := h1 y e2
        subst e1; omega
    · rcases List.mem_cons.1 hy with e2 | e2
      · have : z.client < x.client := h1 x e1
        subst e2; omega
      · exact se_uniq h2 e1 e2 e
theorem mem_opened (h : x ∈ t) (s : Se) : x ∈ (seOpen s t).1 := by
  unfold seOpen
  split
  · exact h
  · split
    · exact h
    · exact mem_seIns.2 (.inr h)
theorem gone_iff (h : t.Pairwise seLt) (hx : x ∈ t) : x.client ∈ seGone p t ↔ p x = true := by
  unfold seGone
  rw [List.mem_map]
  constructor
  · rintro ⟨y, hy, e⟩
    obtain ⟨h1, h2⟩ := List.mem_filter.1 hy
    rwa [← se_uniq h h1 hx e]
  · exact fun hp => ⟨x, List.mem_filter.2 ⟨hx, hp⟩, rfl⟩
theorem left_mem (hx : x ∈ t) (hp : p x = false) : x ∈ seLeft p t := List.mem_filter.2 ⟨hx, by simp [hp]⟩
theorem live_of (hx : x ∈ t) : seLive x.client t = true := by
  unfold seLive
  exact List.any_eq_true.2 ⟨x, hx, by simp⟩
theorem left_dead (h : t.Pairwise seLt) (hx : x ∈ t) (hp : p x = true) : seLive x.client (seLeft p t) = false := by
  unfold seLive
  rw [List.any_eq_false]
  intro y hy e
  obtain ⟨h1, h2⟩ := List.mem_filter.1 hy
  have e2 : y.client = x.client := by simpa using e
  rw [se_uniq h h1 hx e2, hp] at h2
  cases h2
theorem touch_some {now : Int} (hx : x ∈ t) (h0 : 0 ≤ now) (h1 : now < 1099511627776) (hs : x.seen ≤ now) : seTouch x.client now t = (seTouched x.client now t, 0) ∧ (⟨x.client, x.span, now⟩ : Se) ∈ seTouched x.client now t := by
  refine ⟨by unfold seTouch; rw [if_pos ⟨live_of hx, h0, h1⟩], ?_⟩
  unfold seTouched
  refine List.mem_map.2 ⟨x, hx, ?_⟩
  by_cases h : x.seen < now
  · rw [if_pos ⟨rfl, h⟩]
  · rw [if_neg fun q => h q.2]
    obtain ⟨a, b, c⟩ := x
    have : c = now := by
      have h2 : ¬ c < now := h
      have h3 : c ≤ now := hs
      omega
    rw [this]
theorem touch_none {c now : Int} (h : seLive c t = false) : seTouch c now t = (t, 120) := by
  unfold seTouch
  rw [if_neg fun q => by rw [h] at q; cases q.1]
theorem open_there (hx : x ∈ t) (hr : seRight s = true) (e : s.client = x.client) : seOpen s t = (t, 101) := by
  unfold seOpen
  rw [hr, if_neg (by simp), if_pos (by rw [e]; exact live_of hx)]
theorem gone_only : ∀ {t : List Se}, t.Pairwise seLt → x ∈ t → seGone (seIn [x.client, x.client]) t = [x.client]
  | [], _, h => by cases h
  | z :: r, hp, hx => by
    obtain ⟨h1, h2⟩ := List.pairwise_cons.1 hp
    have hs : ∀ y : Se, seIn [x.client, x.client] y = decide (y.client = x.client) := fun y => by unfold seIn; simp
    rcases List.mem_cons.1 hx with e | e
    · subst e
      unfold seGone
      rw [List.filter_cons_of_pos (by rw [hs]; simp), List.filter_eq_nil_iff.2 fun y hy => by
        have : x.client < y.client := h1 y hy
        rw [hs]; simp; omega]
      rfl
    · have : z.client < x.client := h1 x e
      have ih := gone_only h2 e
      unfold seGone at ih ⊢
      rw [List.filter_cons_of_neg (by rw [hs]; simp; omega), ih]
end
end Go.Proofs.Ytfbdmemjojjgnaa
