/-
  Trees that calls have made are such as Load takes; each node but the root is just one node's child. Plain lemmas; no statement.
-/
import Derived.Test.YtgppclmofphlfaaGreatDoorTreeLoad
import Derived.Test.YtgppclmofphlfaaGreatDoorRoomPlain
namespace Go.Proofs.YtgppclmofphlfaaGreatDoor
set_option maxRecDepth 100000
set_option linter.unusedVariables false

theorem lb_prefix : ∀ (a : List UInt8) (c : UInt8) (r : List UInt8), lb a (a ++ c :: r)
  | [], c, r => rfl
  | x :: a, c, r => lb_cons.2 (.inr ⟨rfl, lb_prefix a c r⟩)
theorem parent_lb {p up : List UInt8} (h : parentP p = some up) : lb up p := by
  rcases path_cases p with h0 | ⟨rfl, h0⟩ | ⟨ps, q, h0, h1, h2, h3, _⟩
  · rw [(belowP_none h0).2.1] at h; cases h
  · cases h
  · rw [(parentP_eq h0).1] at h
    obtain rfl := Option.some.inj h
    unfold wholeP
    split
    · rename_i hp
      subst hp
      have hq : q ≠ [] := fun e => by subst e; cases h3
      obtain ⟨c, r, rfl⟩ := List.exists_cons_of_ne_nil hq
      rw [h1]
      exact lb_prefix [47] c r
    · rw [h1]; exact lb_prefix _ _ _
theorem root_least {p : List UInt8} (h : (partsOf p).isSome = true) (hne : p ≠ [47]) : lb [47] p := by
  rcases path_cases p with h0 | ⟨h1, h0⟩ | ⟨ps, q, h0, h1, h2, h3, _⟩
  · rw [h0] at h; cases h
  · exact absurd h1 hne
  · have hq : q ≠ [] := fun e => by subst e; cases h3
    obtain ⟨c, r, rfl⟩ := List.exists_cons_of_ne_nil hq
    cases ps with
    | nil => rw [h1]; exact lb_prefix [47] c r
    | cons a ps =>
      rw [h1]
      have hne2 : a ++ joinP ps ++ 47 :: c :: r ≠ [] := by simp
      obtain ⟨c2, r2, e⟩ := List.exists_cons_of_ne_nil hne2
      have : joinP (a :: ps) ++ 47 :: c :: r = [47] ++ c2 :: r2 := by
        rw [← e]; simp [joinP]
      rw [this]; exact lb_prefix [47] c2 r2
theorem fit_of {n : Nat} {t : List Lf} (h : TOk n t) {x : Lf} (hx : x ∈ t) : lfFit x = true := by
  have h1 := h.own x hx
  have h2 := h.ver x hx
  have h3 := h.next x hx
  have h4 := h.born x hx
  have h5 := h.data x hx
  unfold lfFit
  rw [decide_eq_true h1, decide_eq_true (show 0 ≤ min (min x.ver x.next) x.born by omega), decide_eq_true h5]
  rfl
theorem takes_of {n : Nat} {t : List Lf} (h : TOk n t) : tTakes t = true := by
  obtain ⟨r, hr, h1, h2, h3⟩ := h.root
  obtain ⟨i, hi, hir⟩ := List.getElem_of_mem hr
  have hri : t[i]? = some r := by rw [List.getElem?_eq_getElem hi, hir]
  unfold tTakes
  rw [decide_eq_true ⟨by omega, h.len⟩, Bool.true_and, List.all_eq_true]
  intro k hk
  have hk := List.mem_range.1 hk
  obtain ⟨x, hx⟩ : ∃ x, t[k]? = some x := ⟨_, List.getElem?_eq_getElem hk⟩
  have hxm : x ∈ t := List.mem_of_getElem? hx
  have hg : t.getD k lfRoot = x := by rw [List.getD_eq_getElem?_getD, hx]; rfl
  unfold tStep
  simp only [hg]
  by_cases hk0 : k = 0
  · rw [if_pos hk0]
    subst hk0
    have hxr : x = r := by
      by_cases hp : x.path = [47]
      · exact srt_uniq h.srt hxm hr (hp.trans h1.symm)
      · have hl := root_least (h.path x hxm) hp
        rw [← h1] at hl
        have := (srt_at h.srt hri hx).2 hl
        omega
    rw [fit_of h hxm, hxr]
    unfold lfRooty
    rw [h1, h2, h3]; rfl
  · rw [if_neg hk0]
    obtain ⟨p, hp⟩ : ∃ p, t[k - 1]? = some p := ⟨_, List.getElem?_eq_getElem (by omega)⟩
    have hgp : t.getD (k - 1) lfRoot = p := by rw [List.getD_eq_getElem?_getD, hp]; rfl
    have hlb : Op.bytesLess p.path x.path = true := (srt_at h.srt hp hx).1 (by omega)
    have hne : x.path ≠ [47] := by
      intro e
      have := srt_uniq h.srt hxm hr (e.trans h1.symm)
      subst this
      have hpn : p.path ≠ [47] := fun e2 => lb_irr [47] (by have h9 : lb p.path x.path := hlb; rw [e, e2] at h9; exact h9)
      have h8 := root_least (h.path p (List.mem_of_getElem? hp)) hpn
      have h9 : lb p.path x.path := hlb
      rw [e] at h9
      exact lb_asym h8 h9
    obtain ⟨m, hm, hm1, hm2⟩ := h.par x hxm hne
    have hmay : tMay x.path (t.take k) = true := by
      obtain ⟨j, hj, hjm⟩ := List.getElem_of_mem hm
      have hmj : t[j]? = some m := by rw [List.getElem?_eq_getElem hj, hjm]
      have hjk : j < k := (srt_at h.srt hmj hx).2 (parent_lb hm1)
      have hmt : (t.take k)[j]? = some m := by rw [List.getElem?_take, if_pos hjk]; exact hmj
      have hst : Srt (t.take k) := List.Pairwise.sublist (List.take_sublist k t) h.srt
      unfold tMay
      rw [hm1]
      show (tHold m.path (t.take k)).1.isSome = true
      unfold tHold
      rw [tGet_at (h.path m hm), tAt_of hst hmt]
      have hgm : (t.take k).getD j lfRoot = m := by rw [List.getD_eq_getElem?_getD, hmt]; rfl
      simp only [hgm, hm2, if_true]
      rfl
    rw [hgp, hlb, fit_of h hxm, hmay]
    rfl
/-- the kids of these, told together -/
def kidSum (ks : List (List UInt8)) (t : List Lf) : Nat := (ks.map fun p => (tKids p t).length).sum
theorem kidSum_snoc (ks : List (List UInt8)) (p : List UInt8) (t : List Lf) : kidSum (ks ++ [p]) t = kidSum ks t + (tKids p t).length := by
  unfold kidSum
  simp
theorem kidSum_more (y : Lf) (t : List Lf) : ∀ ks : List (List UInt8), kidSum ks (y :: t) = kidSum ks t + (ks.filter fun p => decide (parentP y.path = some p)).length
  | [] => rfl
  | p :: ks => by
    have ih := kidSum_more y t ks
    have e1 : kidSum (p :: ks) (y :: t) = (tKids p (y :: t)).length + kidSum ks (y :: t) := by unfold kidSum; simp
    have e2 : kidSum (p :: ks) t = (tKids p t).length + kidSum ks t := by unfold kidSum; simp
    rw [e1, e2, ih]
    by_cases h : parentP y.path = some p
    · have h3 : (tKids p (y :: t)).length = (tKids p t).length + 1 := by unfold tKids; simp [h]
      rw [h3, List.filter_cons_of_pos (by simpa using h), List.length_cons]; omega
    · have h3 : (tKids p (y :: t)).length = (tKids p t).length := by unfold tKids; simp [h]
      rw [h3, List.filter_cons_of_neg (by simpa using h)]; omega
theorem filter_one {ks : List (List UInt8)} (hd : ks.Nodup) {p : List UInt8} (hp : p ∈ ks) : (ks.filter fun q => decide (some p = some q)).length = 1 := by
  induction ks with
  | nil => cases hp
  | cons a r ih =>
    have hd' := List.nodup_cons.1 hd
    by_cases e : p = a
    · subst e
      rw [List.filter_cons_of_pos (by simp)]
      have : r.filter (fun q => decide (some p = some q)) = [] := List.filter_eq_nil_iff.2 fun q hq => by
        simp only [Option.some.injEq, decide_eq_true_eq]
        rintro rfl
        exact hd'.1 hq
      rw [this]; rfl
    · rcases List.mem_cons.1 hp with e2 | hp
      · exact absurd e2 e
      · rw [List.filter_cons_of_neg (by simpa using e)]
        exact ih hd'.2 hp
/-- each of them but the root is the child of just one of ks -/
theorem kidSum_all {ks : List (List UInt8)} (hd : ks.Nodup) : ∀ t : List Lf, (∀ y ∈ t, y.path ≠ [47] → ∃ p ∈ ks, parentP y.path = some p) → kidSum ks t = (t.filter fun y => decide (y.path ≠ [47])).length
  | [], _ => by
    unfold kidSum
    have : ks.map (fun p => (tKids p ([] : List Lf)).length) = ks.map fun _ => 0 := List.map_congr_left fun p _ => rfl
    rw [this]
    clear this hd
    induction ks with
    | nil => rfl
    | cons a r ih => simpa using ih
  | y :: t, h => by
    rw [kidSum_more, kidSum_all hd t fun z hz => h z (List.mem_cons_of_mem _ hz)]
    by_cases e : y.path = [47]
    · rw [List.filter_cons_of_neg (by simpa using e), e]
      have : ks.filter (fun p => decide (parentP [47] = some p)) = [] := List.filter_eq_nil_iff.2 fun q _ => by simp [show parentP [47] = none from rfl]
      rw [this]; rfl
    · obtain ⟨p, hp, hpp⟩ := h y List.mem_cons_self e
      rw [List.filter_cons_of_pos (by simpa using e), hpp, filter_one hd hp]
      rfl
theorem kids_sum {n : Nat} {t : List Lf} (h : TOk n t) : kidSum (t.map (·.path)) t + 1 = t.length := by
  have hd : (t.map (·.path)).Nodup := by
    rw [List.nodup_iff_pairwise_ne, List.pairwise_map]
    exact h.srt.imp fun hab => lb_ne hab
  rw [kidSum_all hd t fun y hy hne => by
    obtain ⟨m, hm, hm1, _⟩ := h.par y hy hne
    exact ⟨m.path, List.mem_map.2 ⟨m, hm, rfl⟩, hm1⟩]
  obtain ⟨r, hr, h1, _⟩ := h.root
  obtain ⟨i, hi, hir⟩ := List.getElem_of_mem hr
  have hri : t[i]? = some r := by rw [List.getElem?_eq_getElem hi, hir]
  have hf := drop_filter h.srt hri
  rw [h1] at hf
  have hf2 : (t.filter fun y => decide (y.path ≠ [47])) = t.take i ++ t.drop (i + 1) := hf.symm
  rw [hf2]
  simp
  omega
end Go.Proofs.YtgppclmofphlfaaGreatDoor
