/-
  What calls keep of a log; a log that is opened again. Plain facts; nothing of the program.
-/
import Derived.Test.YtmiejaohkgemnaaDoorMFacts
namespace Go.Proofs.YtmiejaohkgemnaaDoor
open Go.RowKit
set_option linter.unusedVariables false
set_option maxRecDepth 100000

namespace PD
theorem append_down {P : PD} {a : Int} {ps : List (List UInt8)} (ha : known a = true) (hp : P.power = 0) : P.append a ps = (P, 40) := by
  unfold append
  rw [if_pos ha, if_pos hp]
theorem append_on {P : PD} {a : Int} {ps : List (List UInt8)} (ha : known a = true) (hp : P.power ≠ 0) :
    (P.append a ps).2 = 0 ∧ (P.append a ps).1.data a = P.data a ++ ps.flatten ∧ (∀ b, known b = true → b ≠ a → (P.append a ps).1.data b = P.data b) ∧ (P.append a ps).1.power = drawn P.power := by
  have e : P.append a ps = (P.drew.setData a (P.data a ++ ps.flatten), 0) := by
    unfold append
    rw [if_pos ha, if_neg hp]
  rw [e]
  rcases known_cases ha with rfl | rfl
  · refine ⟨rfl, rfl, fun b hb hne => ?_, rfl⟩
    rcases known_cases hb with rfl | rfl
    · exact absurd rfl hne
    · rfl
  · refine ⟨rfl, rfl, fun b hb hne => ?_, rfl⟩
    rcases known_cases hb with rfl | rfl
    · rfl
    · exact absurd rfl hne
theorem sync_data (P : PD) (a b : Int) (ha : known a = true) : (P.sync [a]).1.data b = P.data b := by
  by_cases hp : P.power = 0
  · unfold sync
    rw [if_pos (by simpa using ha), if_pos hp]
  · rw [sync_eq _ _ (by simpa using ha) hp]
    rfl
theorem sync_power (P : PD) (a : Int) (ha : known a = true) (hp : P.power = -1) : (P.sync [a]).1.power = -1 := power_sync P [a] hp
end PD
namespace Lg
theorem add_good {L : PL} {ls : List (List UInt8)} (h : Good L) : Good (L.add ls).1 := by
  unfold PL.add
  split
  · exact h
  · rename_i hl
    have hl' : longs ls = false := by simpa using hl
    split
    · exact h
    · by_cases hp : L.D.power = 0
      · have hd := PD.append_down (P := L.D) (a := L.a) (ps := [frames L.gen (L.list.length + 1) ls]) h.known hp
        rw [hd, if_neg (by simp)]
        exact h
      · obtain ⟨h1, h2, _, _⟩ := PD.append_on (P := L.D) (a := L.a) (ps := [frames L.gen (L.list.length + 1) ls]) h.known hp
        rw [if_pos h1]
        refine ⟨?_, h.a, h.g1, h.g, h.n, ?_, ?_⟩
        · show (L.D.append L.a [frames L.gen (L.list.length + 1) ls]).1.data L.a = whole L.gen L.n (L.list ++ ls)
          rw [h2, h.data, whole_append, Nat.add_comm]
          simp
        · show L.n ≤ (L.list ++ ls).length
          have := h.nl
          simp; omega
        · intro l hm
          rcases List.mem_append.1 hm with hm | hm
          · exact h.rows l hm
          · exact longs_false hl' l hm
theorem sync_good {L : PL} (h : Good L) : Good L.sync.1 := by
  unfold PL.sync
  exact ⟨by show (L.D.sync [L.a]).1.data L.a = _; rw [PD.sync_data _ _ _ h.known]; exact h.data, h.a, h.g1, h.g, h.n, h.nl, h.rows⟩
theorem lay_good {L : PL} {ls : List (List UInt8)} (h : Good L) (hg : L.gen + 1 < 4611686018427387904) (hn : ls.length < 4611686018427387904) (hz : (L.lay ls).2 = 0 ∨ (L.lay ls).2 = 13) : Good (L.lay ls).1 := by
  unfold PL.lay at hz ⊢
  by_cases hl : longs ls = true
  · rw [if_pos hl]; exact h
  · rw [if_neg hl] at hz ⊢
    have hk : known (1 - L.a) = true := by rcases h.a with e | e <;> rw [e] <;> rfl
    by_cases hz' : (Lg.lay L.D (1 - L.a) (L.gen + 1) ls).2 = 0
    · rw [if_pos hz']
      refine ⟨lay_data hk hz', ?_, by show 1 ≤ L.gen + 1; omega, hg, hn, Nat.le_refl _, longs_false (by simpa using hl)⟩
      rcases h.a with e | e
      · right; show 1 - L.a = 1; omega
      · left; show 1 - L.a = 0; omega
    · rw [if_neg hz'] at hz
      rcases hz with hz | hz
      · exact absurd hz hz'
      · exfalso
        have h13 : (Lg.lay L.D (1 - L.a) (L.gen + 1) ls).2 = 13 := hz
        have key : ∀ (D : PD) (a : Int) (g : Nat), known a = true → (Lg.lay D a g ls).2 = 0 ∨ (Lg.lay D a g ls).2 = 40 := fun D a g ha => by
          unfold Lg.lay
          have t : (D.trim a 0).2 = 0 ∨ (D.trim a 0).2 = 40 := by
            by_cases hp : D.power = 0
            · right; have := PD.trim_down (P := D) (a := a) (k := 0) ha (by omega) hp; rw [show ((0 : Nat) : Int) = 0 from rfl] at this; rw [this]
            · left; have := (PD.trim_ok (P := D) (a := a) (k := 0) ha (by omega) hp).1; rwa [show ((0 : Nat) : Int) = 0 from rfl] at this
          split
          · exact t
          · generalize (D.trim a 0).1 = T
            have u : (T.append a [whole g ls.length ls]).2 = 0 ∨ (T.append a [whole g ls.length ls]).2 = 40 := by
              by_cases hp : T.power = 0
              · right; rw [PD.append_down ha hp]
              · left; exact (PD.append_on ha hp).1
            split
            · exact u
            · generalize (T.append a [whole g ls.length ls]).1 = U
              by_cases hp : U.power = 0
              · right; unfold PD.sync; rw [if_pos (by simpa using ha), if_pos hp]
              · left; rw [sync_eq _ _ (by simpa using ha) hp]
        rcases key L.D (1 - L.a) (L.gen + 1) hk with e | e <;> omega
/-- the log's area is the one that counts -/
def Best (L : PL) : Prop := (L.a = 0 ∧ ∀ y, good L.D.d1 = some y → ¬ L.gen < y.gen) ∨ (L.a = 1 ∧ ∀ y, good L.D.d0 = some y → y.gen < L.gen)
theorem opn_self {L : PL} (h : Good L) (hb : Best L) : opn L.D = (L, 0) := by
  have hg : good (L.D.data L.a) = some ⟨L.gen, L.n, L.list, []⟩ := by
    rw [h.data]
    have := good_whole (t := []) h.g1 h.g h.nl h.n h.rows cut_nil
    rwa [List.append_nil] at this
  have hbest : best L.D = some (L.a, ⟨L.gen, L.n, L.list, []⟩) := by
    rcases hb with ⟨e, hy⟩ | ⟨e, hy⟩
    · rw [e] at hg ⊢
      exact best_0 hg hy
    · rw [e] at hg ⊢
      exact best_1 hg hy
  rw [opn_some hbest, (findD_rest hbest).1 rfl]
theorem good_gen {b : List UInt8} {g n : Nat} {ls : List (List UInt8)} {y : Ar} (hb : b = whole g n ls) (h1 : 1 ≤ g) (hg : g < 4611686018427387904) (hn : n ≤ ls.length) (hn' : n < 4611686018427387904) (hl : ∀ l ∈ ls, l.length ≤ 65536) (h : good b = some y) : y.gen = g := by
  have := good_whole (t := []) h1 hg hn hn' hl cut_nil
  rw [List.append_nil, ← hb, h] at this
  injection this with this
  rw [this]
theorem best_inv {D : PD} {a : Int} {x : Ar} (h : best D = some (a, x)) : (a = 0 ∧ ∀ y, good D.d1 = some y → ¬ x.gen < y.gen) ∨ (a = 1 ∧ ∀ y, good D.d0 = some y → y.gen < x.gen) := by
  unfold best upd at h
  cases h0 : good D.d0 with
  | none =>
    rw [h0] at h
    cases h1 : good D.d1 with
    | none => rw [h1] at h; cases h
    | some y =>
      rw [h1] at h
      simp only [Option.some.injEq, Prod.mk.injEq] at h
      obtain ⟨rfl, rfl⟩ := h
      exact .inr ⟨rfl, fun z hz => by cases hz⟩
  | some z =>
    rw [h0] at h
    cases h1 : good D.d1 with
    | none =>
      rw [h1] at h
      simp only [Option.some.injEq, Prod.mk.injEq] at h
      obtain ⟨rfl, rfl⟩ := h
      exact .inl ⟨rfl, fun y hy => by cases hy⟩
    | some y =>
      rw [h1] at h
      simp only at h
      split at h
      · rename_i hlt
        simp only [Option.some.injEq, Prod.mk.injEq] at h
        obtain ⟨rfl, rfl⟩ := h
        exact .inr ⟨rfl, fun u hu => by injection hu with hu; rw [← hu]; exact hlt⟩
      · rename_i hlt
        simp only [Option.some.injEq, Prod.mk.injEq] at h
        obtain ⟨rfl, rfl⟩ := h
        exact .inl ⟨rfl, fun u hu => by injection hu with hu; rw [← hu]; exact hlt⟩
theorem best_none {D : PD} (h : best D = none) : good D.d0 = none ∧ good D.d1 = none := by
  unfold best upd at h
  cases h0 : good D.d0 with
  | none =>
    cases h1 : good D.d1 with
    | none => exact ⟨rfl, rfl⟩
    | some y => rw [h0, h1] at h; cases h
  | some z =>
    rw [h0] at h
    cases h1 : good D.d1 with
    | none => rw [h1] at h; cases h
    | some y => rw [h1] at h; simp only at h; split at h <;> cases h
/-- the other area is left as it was -/
theorem lay_other {D : PD} {gen : Nat} {ls : List (List UInt8)} : (lay D 0 gen ls).1.d1 = D.d1 := by
  have ht : ∀ (P : PD) (n : Int), (P.trim 0 n).1.d1 = P.d1 := fun P n => by
    unfold PD.trim
    split
    · split
      · rfl
      · rfl
    · rfl
  have ha : ∀ (P : PD) (ps : List (List UInt8)), (P.append 0 ps).1.d1 = P.d1 := fun P ps => by
    unfold PD.append
    split
    · split
      · rfl
      · rfl
    · rfl
  have hs : ∀ (P : PD), (P.sync [0]).1.d1 = P.d1 := fun P => PD.sync_data P 0 1 rfl
  unfold lay
  split
  · exact ht _ _
  · split
    · rw [ha, ht]
    · rw [hs, ha, ht]
theorem trim_other (P : PD) (a b : Int) (n : Int) (ha : known a = true) (hb : known b = true) (hne : b ≠ a) : (P.trim a n).1.data b = P.data b := by
  rcases known_cases ha with rfl | rfl <;> rcases known_cases hb with rfl | rfl
  · exact absurd rfl hne
  · unfold PD.trim; split
    · split <;> rfl
    · rfl
  · unfold PD.trim; split
    · split <;> rfl
    · rfl
  · exact absurd rfl hne
theorem findD_other {D : PD} {a : Int} {x : Ar} (h : best D = some (a, x)) (b : Int) (ha : known a = true) (hb : known b = true) (hne : b ≠ a) : (findD D).1.data b = D.data b := by
  by_cases hr : x.rest.length = 0
  · rw [(findD_rest h).1 hr]
  · rw [(findD_rest h).2 hr]
    exact trim_other D a b _ ha hb hne
theorem opn_is_best {D : PD} (h : (opn D).2 = 0) : Best (opn D).1 := by
  cases hb : best D with
  | none =>
    obtain ⟨_, h1⟩ := best_none hb
    rw [opn_none hb]
    refine .inl ⟨rfl, fun y hy => ?_⟩
    have : good (lay D 0 1 []).1.d1 = some y := hy
    rw [lay_other, h1] at this
    cases this
  | some q =>
    obtain ⟨a, x⟩ := q
    rw [opn_some hb]
    rcases best_inv hb with ⟨e, hy⟩ | ⟨e, hy⟩
    · subst e
      exact .inl ⟨rfl, fun y h' => hy y (by have := findD_other hb 1 rfl rfl (by omega); rw [← show (findD D).1.d1 = D.d1 from this]; exact h')⟩
    · subst e
      exact .inr ⟨rfl, fun y h' => hy y (by have := findD_other hb 0 rfl rfl (by omega); rw [← show (findD D).1.d0 = D.d0 from this]; exact h')⟩
theorem add_best {L : PL} {ls : List (List UInt8)} (hg : Good L) (h : Best L) : Best (L.add ls).1 := by
  unfold PL.add
  split
  · exact h
  · split
    · exact h
    · by_cases hp : L.D.power = 0
      · have hd := PD.append_down (P := L.D) (a := L.a) (ps := [frames L.gen (L.list.length + 1) ls]) hg.known hp
        rw [hd, if_neg (by simp)]
        exact h
      · obtain ⟨h1, _, h3, _⟩ := PD.append_on (P := L.D) (a := L.a) (ps := [frames L.gen (L.list.length + 1) ls]) hg.known hp
        rw [if_pos h1]
        rcases h with ⟨e, hy⟩ | ⟨e, hy⟩
        · refine .inl ⟨e, fun y h' => hy y ?_⟩
          have := h3 1 rfl (by omega)
          rw [← show (L.D.append L.a [frames L.gen (L.list.length + 1) ls]).1.d1 = L.D.d1 from this]; exact h'
        · refine .inr ⟨e, fun y h' => hy y ?_⟩
          have := h3 0 rfl (by omega)
          rw [← show (L.D.append L.a [frames L.gen (L.list.length + 1) ls]).1.d0 = L.D.d0 from this]; exact h'
theorem frames_ge (g p : Nat) (ls : List (List UInt8)) : 5 * ls.length ≤ (frames g p ls).length := by
  induction ls generalizing p with
  | nil => simp
  | cons x r ih =>
    have := frame_pos g p x
    have := ih (p + 1)
    simp only [frames, List.length_append, List.length_cons]
    omega
/-- no more records than bytes -/
theorem list_le {L : PL} (h : Good L) : 5 * L.list.length ≤ (L.D.data L.a).length := by
  rw [h.data]
  have := frames_ge L.gen 1 L.list
  unfold whole
  rw [List.length_append]
  omega
theorem lay_power {D : PD} {a : Int} {gen : Nat} {ls : List (List UInt8)} (h : D.power = -1) : (lay D a gen ls).1.power = -1 := by
  unfold lay
  split
  · exact PD.power_trim D a 0 h
  · split
    · exact PD.power_append _ _ _ (PD.power_trim D a 0 h)
    · exact PD.power_sync _ _ (PD.power_append _ _ _ (PD.power_trim D a 0 h))
/-- where the power lasts an opening comes -/
theorem opn_lasts {D : PD} (h : D.power = -1) : (opn D).2 = 0 ∧ (opn D).1.D.power = -1 := by
  cases hb : best D with
  | none =>
    rw [opn_none hb]
    refine ⟨?_, lay_power h⟩
    show (lay D 0 1 []).2 = 0
    unfold lay
    have ht := PD.trim_ok (P := D) (a := 0) (k := 0) rfl (by omega) (by omega)
    rw [show ((0 : Nat) : Int) = 0 from rfl] at ht
    have hp := PD.power_trim D 0 0 h
    rw [if_neg (by simp [ht.1])]
    have ha := PD.append_on (P := (D.trim 0 0).1) (a := 0) (ps := [whole 1 ([] : List (List UInt8)).length []]) rfl (by omega)
    have hpa := PD.power_append (D.trim 0 0).1 0 [whole 1 ([] : List (List UInt8)).length []] hp
    rw [if_neg (fun q => q ha.1), sync_eq _ _ rfl (by omega)]
  | some q =>
    obtain ⟨a, x⟩ := q
    have := opn_best hb (.inr (by omega))
    refine ⟨this.1, ?_⟩
    rw [opn_some hb]
    show (findD D).1.power = -1
    by_cases hr : x.rest.length = 0
    · rw [(findD_rest hb).1 hr]; exact h
    · rw [(findD_rest hb).2 hr]; exact PD.power_trim D a _ h
theorem add_lasts {L : PL} {ls : List (List UInt8)} (hg : Good L) (h : L.D.power = -1) (hl : longs ls = false) : (L.add ls).2 = 0 ∧ (L.add ls).1.list = L.list ++ ls ∧ (L.add ls).1.D.power = -1 := by
  unfold PL.add
  rw [if_neg (by simp [hl])]
  by_cases h0 : ls.length = 0
  · rw [if_pos h0, List.eq_nil_of_length_eq_zero h0, List.append_nil]
    exact ⟨rfl, rfl, h⟩
  · rw [if_neg h0]
    have ha := PD.append_on (P := L.D) (a := L.a) (ps := [frames L.gen (L.list.length + 1) ls]) hg.known (by omega)
    rw [if_pos ha.1]
    exact ⟨rfl, rfl, PD.power_append L.D L.a _ h⟩
end Lg
end Go.Proofs.YtmiejaohkgemnaaDoor
