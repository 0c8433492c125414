/-
  One client's sessions among all: plain lemmas; no statement.
-/
import Derived.Test.YtfbdmemjojjgnaaSessFacts
namespace Go.Proofs.Ytfbdmemjojjgnaa
set_option maxRecDepth 100000
set_option linter.unusedVariables false

/-- those of a client -/
def seOnly (c : Int) (t : List Se) : List Se := t.filter fun x => decide (x.client = c)
section
variable {c : Int} {t : List Se} {x : Se} {p : Se → Bool}
theorem live_no (h : seLive c t = false) : ∀ x ∈ t, x.client ≠ c := seLive_false h
theorem live_none (h : ∀ x ∈ t, x.client ≠ c) : seLive c t = false := by
  unfold seLive
  rw [List.any_eq_false]
  intro y hy e
  exact h y hy (by simpa using e)
theorem only_none (h : seLive c t = false) : seOnly c t = [] := List.filter_eq_nil_iff.2 fun y hy => by simpa using live_no h y hy
theorem only_live : seLive c (seOnly c t) = seLive c t := by
  cases h : seLive c t with
  | false => rw [only_none h]; rfl
  | true =>
    obtain ⟨y, hy, e⟩ := seLive_mem h
    have : y ∈ seOnly c t := List.mem_filter.2 ⟨hy, by simpa using e⟩
    have q := live_of this
    rwa [e] at q
theorem only_ins_ne (h : x.client ≠ c) : ∀ {t : List Se}, seOnly c (seIns x t) = seOnly c t
  | [] => by unfold seIns seOnly; rw [List.filter_cons_of_neg (by simpa using h)]
  | y :: r => by
    unfold seIns
    split
    · unfold seOnly; rw [List.filter_cons_of_neg (by simpa using h)]
    · have ih := only_ins_ne (t := r) h
      unfold seOnly at ih ⊢
      by_cases e : y.client = c
      · rw [List.filter_cons_of_pos (by simpa using e), List.filter_cons_of_pos (by simpa using e), ih]
      · rw [List.filter_cons_of_neg (by simpa using e), List.filter_cons_of_neg (by simpa using e), ih]
theorem only_ins_eq : ∀ {t : List Se}, (∀ y ∈ t, y.client ≠ x.client) → seOnly x.client (seIns x t) = [x]
  | [], _ => by unfold seIns seOnly; rw [List.filter_cons_of_pos (by simp)]; rfl
  | y :: r, h => by
    have hy : y.client ≠ x.client := h y (List.mem_cons_self ..)
    unfold seIns
    split
    · unfold seOnly
      rw [List.filter_cons_of_pos (by simp), List.filter_eq_nil_iff.2 fun z hz => by simpa using h z hz]
    · have ih := only_ins_eq (t := r) fun z hz => h z (List.mem_cons_of_mem _ hz)
      unfold seOnly at ih ⊢
      rw [List.filter_cons_of_neg (by simpa using hy), ih]
theorem only_open_eq (hc : x.client = c) : seOnly c (seOpen x t).1 = (seOpen x (seOnly c t)).1 := by
  subst hc
  unfold seOpen
  rw [only_live]
  split
  · rfl
  · split
    · rfl
    · rename_i h
      have hl : seLive x.client t = false := by simpa using h
      show seOnly x.client (seIns x t) = seIns x (seOnly x.client t)
      rw [only_none hl, only_ins_eq (live_no hl)]
      rfl
theorem only_open_ne (hc : x.client ≠ c) : seOnly c (seOpen x t).1 = seOnly c t := by
  unfold seOpen
  split
  · rfl
  · split
    · rfl
    · exact only_ins_ne hc
theorem only_touched {d now : Int} : seOnly c (seTouched d now t) = seTouched d now (seOnly c t) := by
  unfold seOnly seTouched
  rw [List.filter_map]
  congr 1
  refine List.filter_congr fun y _ => ?_
  show decide ((if y.client = d ∧ y.seen < now then ({ y with seen := now } : Se) else y).client = c) = decide (y.client = c)
  split <;> rfl
theorem only_touch_eq {now : Int} : seOnly c (seTouch c now t).1 = (seTouch c now (seOnly c t)).1 := by
  unfold seTouch
  rw [only_live]
  split
  · exact only_touched
  · rfl
theorem only_touch_ne {d now : Int} (h : d ≠ c) : seOnly c (seTouch d now t).1 = seOnly c t := by
  unfold seTouch
  split
  · show seOnly c (seTouched d now t) = seOnly c t
    rw [only_touched]
    unfold seTouched
    rw [List.map_congr_left (g := id) fun y hy => ?_, List.map_id]
    have e : y.client = c := by simpa using (List.mem_filter.1 hy).2
    rw [if_neg fun q => h (by rw [← q.1, e])]
    rfl
  · rfl
theorem only_left : seOnly c (seLeft p t) = seLeft p (seOnly c t) := by
  unfold seOnly seLeft
  rw [List.filter_filter, List.filter_filter]
  exact List.filter_congr fun y _ => Bool.and_comm _ _
theorem only_one : ∀ {t : List Se}, t.Pairwise seLt → x ∈ t → seOnly x.client t = [x]
  | [], _, h => by cases h
  | z :: r, hp, hx => by
    obtain ⟨h1, h2⟩ := List.pairwise_cons.1 hp
    unfold seOnly
    rcases List.mem_cons.1 hx with e | e
    · subst e
      rw [List.filter_cons_of_pos (by simp), List.filter_eq_nil_iff.2 fun y hy => by
        have : x.client < y.client := h1 y hy
        simp; omega]
    · have : z.client < x.client := h1 x e
      rw [List.filter_cons_of_neg (by simp; omega)]
      exact only_one h2 e
theorem gone_left_len : ∀ t : List Se, (seGone p t).length + (seLeft p t).length = t.length
  | [] => rfl
  | z :: r => by
    have ih := gone_left_len r
    unfold seGone seLeft at *
    by_cases h : p z = true
    · rw [List.filter_cons_of_pos h, List.filter_cons_of_neg (by simp [h])]
      simp only [List.map_cons, List.length_cons]
      omega
    · rw [List.filter_cons_of_neg h, List.filter_cons_of_pos (by simpa using h)]
      simp only [List.length_cons]
      omega
theorem close_dead : seLive c (seLeft (seIn [c, c]) t) = false := live_none fun y hy e => by
  have := (List.mem_filter.1 hy).2
  unfold seIn at this
  simp [e] at this
theorem gone_nil {cs : List Int} (h : seLive c t = false) (hc : ∀ z ∈ cs, z = c) : seGone (seIn cs) t = [] := by
  unfold seGone
  rw [List.filter_eq_nil_iff.2 fun y hy q => ?_]
  · rfl
  · unfold seIn at q
    exact live_no h y hy (hc _ (of_decide_eq_true q))
/-- what Close comes to, in numbers -/
theorem close_counts (hs : t.Pairwise seLt) : ((seGone (seIn [c, c]) t).length = 1 ↔ seLive c t = true) ∧ ((seLeft (seIn [c, c]) t).length + 1 = t.length ↔ seLive c t = true) ∧ (seLeft (seIn [c, c]) t).length ≤ t.length := by
  have hl := gone_left_len (p := seIn [c, c]) t
  cases h : seLive c t with
  | true =>
    obtain ⟨y, hy, rfl⟩ := seLive_mem h
    have := gone_only hs hy
    rw [this] at hl ⊢
    simp only [List.length_cons, List.length_nil] at hl ⊢
    refine ⟨by simp, by constructor <;> intro _ <;> first | trivial | omega, by omega⟩
  | false =>
    have := gone_nil (cs := [c, c]) h (by simp)
    rw [this] at hl ⊢
    simp only [List.length_nil] at hl ⊢
    exact ⟨by simp, ⟨fun q => by omega, fun q => by cases q⟩, by omega⟩
end
end Go.Proofs.Ytfbdmemjojjgnaa
