import Derived.Test.YtgppclmofphlfaaGreatDoorTreeOk
import Derived.Test.YtgppclmofphlfaaGreatDoorTreeLoad

/-
  Numbered nodes beside the root, one after another. Plain lemmas; no statement.
-/
namespace Go.Proofs.YtgppclmofphlfaaGreatDoor
set_option maxRecDepth 100000
set_option linter.unusedVariables false

/-- no number above m -/
def NxLe (m : Int) (t : List Lf) : Prop := ∀ l ∈ t, l.next ≤ m
theorem nx_root : NxLe 0 [lfRoot] := by intro l hl; obtain rfl := List.mem_singleton.1 hl; decide
theorem nx_make {m : Int} {t : List Lf} (h : NxLe m t) (hm : 0 ≤ m) (p data : List UInt8) (own born : Int) (numbered : Bool) : NxLe (m + 1) (tMake p data own born numbered t).1 := by
  have h0 : NxLe (m + 1) t := fun l hl => by have := h l hl; omega
  unfold tMake
  cases hu : parentP p with
  | none => exact h0
  | some up =>
    simp only
    split
    · exact h0
    cases hk : tAt up t with
    | none => exact h0
    | some k =>
      obtain ⟨a, hka, hap⟩ := tAt_mem hk
      have hg : t.getD k lfRoot = a := by rw [List.getD_eq_getElem?_getD, hka]; rfl
      have ha := h a (List.mem_of_getElem? hka)
      simp only [hg]
      split
      · exact h0
      cases hq : (if numbered = true then numberedP p a.next else some p) with
      | none => exact h0
      | some q =>
        simp only
        split
        · exact h0
        split
        · exact h0
        intro l hl
        rcases (mem_tWith _ _ _).1 hl with rfl | ⟨hl, _⟩
        · show (0 : Int) ≤ m + 1; omega
        · rcases (mem_tWith _ _ _).1 hl with rfl | ⟨hl, _⟩
          · cases numbered
            · show a.next ≤ m + 1; omega
            · show a.next + 1 ≤ m + 1; omega
          · exact h0 l hl
/-- the path of the numbered node i -/
def nPath (i : Nat) : List UInt8 := [47, 110, 45] ++ digits5 i
theorem digit_p (d : Nat) : pchar (UInt8.ofNat (48 + d % 10)) = true := by
  have h : ∀ x : Nat, x < 10 → pchar (UInt8.ofNat (48 + x)) = true := by decide
  exact h _ (Nat.mod_lt _ (by decide))
theorem nPart (i : Nat) : isPart ([110, 45] ++ digits5 i) = true := by
  rw [isPart_eq]
  have h1 : pchar 110 = true := by decide
  have h2 : pchar 45 = true := by decide
  have ha : ([110, 45] ++ digits5 i).all pchar = true := by simp only [digits5, List.cons_append, List.nil_append, List.all_cons, List.all_nil, h1, h2, digit_p, Bool.and_self]
  rw [ha]; rfl
theorem nPath_parts (i : Nat) : partsOf (nPath i) = some [[110, 45] ++ digits5 i] := by
  have h : wholeP [[110, 45] ++ digits5 i] = nPath i := by
    unfold wholeP
    rw [if_neg (by simp)]
    simp [joinP, nPath]
  rw [← h, parts_whole (by intro p hp; obtain rfl := List.mem_singleton.1 hp; exact nPart i) (by rw [h]; simp [nPath, digits_len])]
theorem nPath_parent (i : Nat) : parentP (nPath i) = some [47] := (parentP_eq (ps := []) (q := [110, 45] ++ digits5 i) (nPath_parts i)).1
theorem n_numbered {z : Int} (h0 : 0 ≤ z) (h1 : z ≤ 99999) : numberedP [47, 110, 45] z = some (nPath z.toNat) := by
  unfold numberedP
  rw [if_pos]
  · rfl
  · refine ⟨rfl, h0, h1, ?_⟩
    show (partsOf (nPath z.toNat)).isSome = true
    rw [nPath_parts]; rfl
theorem digits_inj {i j : Nat} (hi : i ≤ 99999) (hj : j ≤ 99999) (h : digits5 i = digits5 j) : i = j := by
  have hd : ∀ x y : Nat, UInt8.ofNat (48 + x % 10) = UInt8.ofNat (48 + y % 10) → x % 10 = y % 10 := by
    intro x y e
    have := congrArg UInt8.toNat e
    rw [UInt8.toNat_ofNat', UInt8.toNat_ofNat'] at this
    omega
  unfold digits5 at h
  simp only [List.cons.injEq, and_true] at h
  obtain ⟨a, b, c, d, e⟩ := h
  have a := hd _ _ a
  have b := hd _ _ b
  have c := hd _ _ c
  have d := hd _ _ d
  have e := hd _ _ e
  omega
/-- is it one of those that the law numbers? -/
def isN (p : List UInt8) : Bool := decide (3 ≤ p.length) && p.take 3 == [47, 110, 45]
theorem isN_path (i : Nat) : isN (nPath i) = true := rfl
/-- the root tells how many there may be; none but those before it is there -/
def Rm (N : Int) (t : List Lf) : Prop := ∃ r ∈ t, r.path = [47] ∧ r.own = -1 ∧ 0 ≤ r.next ∧ r.next ≤ N ∧ ∀ l ∈ t, isN l.path = true → ∃ i : Nat, (i : Int) < r.next ∧ l.path = nPath i
theorem Rm.start {n : Nat} {N : Int} {t : List Lf} (h : TOk n t) (hx : NxLe N t) (hno : ∀ l ∈ t, isN l.path = false) : Rm N t := by
  obtain ⟨r, hr, h1, h2, _⟩ := h.root
  exact ⟨r, hr, h1, h2, (h.next r hr).1, hx r hr, fun l hl e => by rw [hno l hl] at e; cases e⟩
theorem at_mem {t : List Lf} (h : Srt t) {a : Lf} (ha : a ∈ t) : ∃ k, tAt a.path t = some k ∧ t.getD k lfRoot = a := by
  obtain ⟨k, hk, e⟩ := List.getElem_of_mem ha
  have h1 : t[k]? = some a := by rw [List.getElem?_eq_getElem hk, e]
  exact ⟨k, tAt_of h h1, by rw [List.getD_eq_getElem?_getD, h1]; rfl⟩
theorem room_full {n : Nat} {N : Int} {t : List Lf} (h : TOk n t) (hr : Rm N t) (hN : N ≤ 99999) (hl : 32 ≤ t.length) : tMake [47, 110, 45] [] (-1) 0 true t = (t, [], 104) := by
  obtain ⟨r, hrm, h1, h2, h3, h4, h5⟩ := hr
  obtain ⟨k, hk, hg⟩ := at_mem h.srt hrm
  rw [h1] at hk
  unfold tMake
  rw [show parentP [47, 110, 45] = some [47] from rfl]
  simp only [hk, hg, h2]
  rw [n_numbered h3 (by omega)]
  have hno : tAt (nPath r.next.toNat) t = none := tAt_no.2 fun l hl e => by
    obtain ⟨i, hi, he⟩ := h5 l hl (by rw [e]; exact isN_path _)
    have := digits_inj (by omega) (by omega) (List.append_cancel_left (e.symm.trans he))
    omega
  simp [hno, hl]
theorem room_one {n : Nat} {N : Int} {t : List Lf} (h : TOk n t) (hr : Rm N t) (hN : N ≤ 99998) (hl : t.length < 32) :
    ∃ i t', tMake [47, 110, 45] [] (-1) 0 true t = (t', nPath i, 0) ∧ TOk n t' ∧ t'.length = t.length + 1 ∧ Rm (N + 1) t' ∧ (∃ l ∈ t', l.path = nPath i ∧ l.ver = 0) := by
  obtain ⟨r, hrm, h1, h2, h3, h4, h5⟩ := hr
  obtain ⟨k, hk, hg⟩ := at_mem h.srt hrm
  rw [h1] at hk
  have hno : tAt (nPath r.next.toNat) t = none := tAt_no.2 fun l hl e => by
    obtain ⟨i, hi, he⟩ := h5 l hl (by rw [e]; exact isN_path _)
    have := digits_inj (by omega) (by omega) (List.append_cancel_left (e.symm.trans he))
    omega
  have e : tMake [47, 110, 45] [] (-1) 0 true t = (tWith ⟨nPath r.next.toNat, [], 0, -1, 0, 0⟩ (tWith { r with next := r.next + 1 } t), nPath r.next.toNat, 0) := by
    unfold tMake
    rw [show parentP [47, 110, 45] = some [47] from rfl]
    simp only [hk, hg, h2]
    simp only [if_true]
    rw [n_numbered h3 (by omega)]
    simp [hno]
    omega
  have hok := h.make [47, 110, 45] [] (-1) 0 true
  rw [e] at hok
  have hno2 : tAt (nPath r.next.toNat) (tWith { r with next := r.next + 1 } t) = none := tAt_no.2 fun l hl e => by
    rcases (mem_tWith _ _ _).1 hl with rfl | ⟨hl, _⟩
    · have e' : r.path = nPath r.next.toNat := e
      rw [h1] at e'; cases e'
    · exact tAt_no.1 hno l hl e
  refine ⟨r.next.toNat, _, e, hok, ?_, ⟨{ r with next := r.next + 1 }, ?_, h1, h2, by show 0 ≤ r.next + 1; omega, by show r.next + 1 ≤ N + 1; omega, ?_⟩, ⟨_, (mem_tWith _ _ _).2 (.inl rfl), rfl, rfl⟩⟩
  · rw [len_new (l := ⟨nPath r.next.toNat, [], 0, -1, 0, 0⟩) hno2, len_swap h.srt (l := { r with next := r.next + 1 }) hrm rfl]
  · refine (mem_tWith _ _ _).2 (.inr ⟨(mem_tWith _ _ _).2 (.inl rfl), ?_⟩)
    show r.path ≠ nPath _
    rw [h1]; intro e'; cases e'
  · intro l hl hn
    rcases (mem_tWith _ _ _).1 hl with rfl | ⟨hl, _⟩
    · exact ⟨r.next.toNat, by show (r.next.toNat : Int) < r.next + 1; omega, rfl⟩
    · rcases (mem_tWith _ _ _).1 hl with rfl | ⟨hl, _⟩
      · have hn' : isN r.path = true := hn
        rw [h1] at hn'; cases hn'
      · obtain ⟨i, hi, he⟩ := h5 l hl hn
        exact ⟨i, by show (i : Int) < r.next + 1; omega, he⟩
/-- such a node has no children: it goes -/
theorem room_drop {n : Nat} {N : Int} {t : List Lf} (h : TOk n t) (hr : Rm N t) {l : Lf} (hl : l ∈ t) {i : Nat} (hp : l.path = nPath i) (hv : l.ver = 0) :
    ∃ t', tDrop (nPath i) 0 t = (t', 0) ∧ t'.length + 1 = t.length ∧ Rm N t' ∧ TOk n t' := by
  obtain ⟨r, hrm, h1, h2, h3, h4, h5⟩ := hr
  obtain ⟨k, hk, hg⟩ := at_mem h.srt hl
  rw [hp] at hk
  have hnk : tKids (nPath i) t = [] := by
    cases hks : tKids (nPath i) t with
    | nil => rfl
    | cons y ys =>
      have hy : y ∈ tKids (nPath i) t := by rw [hks]; exact List.mem_cons_self
      unfold tKids at hy
      obtain ⟨x, hx, -⟩ := List.mem_map.1 hy
      obtain ⟨hx1, hx2⟩ := List.mem_filter.1 hx
      have hx3 : parentP x.path = some (nPath i) := by simpa using hx2
      exfalso
      rcases path_cases x.path with k0 | ⟨k1, k0⟩ | ⟨ps, q, k0, k1, k2, k3, _⟩
      · rw [(belowP_none k0).2.1] at hx3; cases hx3
      · rw [k1] at hx3; cases hx3
      · rw [(parentP_eq k0).1] at hx3
        have hw : wholeP ps = nPath i := Option.some.inj hx3
        have hj : joinP ps = nPath i := by
          unfold wholeP at hw
          split at hw
          · cases hw
          · exact hw
        obtain ⟨j, hj1, hj2⟩ := h5 x hx1 (by rw [k1, hj]; rfl)
        have hpar := nPath_parent j
        rw [← hj2, (parentP_eq k0).1, hw] at hpar
        cases hpar
  have hka : t[k]? = some l := by
    obtain ⟨a, ha, hap⟩ := tAt_mem hk
    rw [List.getD_eq_getElem?_getD, ha] at hg
    have : a = l := hg
    rw [← this]; exact ha
  have e : tDrop (nPath i) 0 t = (t.take k ++ t.drop (k + 1), 0) := by
    unfold tDrop
    rw [nPath_parent]
    simp only [hk, hg, hv, hnk]
    simp
  have hok := h.drop (nPath i) 0
  rw [e] at hok
  refine ⟨_, e, ?_, ⟨r, ?_, h1, h2, h3, h4, ?_⟩, hok⟩
  · have := (List.getElem?_eq_some_iff.1 hka).1
    simp; omega
  · rw [drop_filter h.srt hka, List.mem_filter]
    refine ⟨hrm, ?_⟩
    rw [hp, h1]; rfl
  · intro x hx hn
    rw [drop_filter h.srt hka, List.mem_filter] at hx
    exact h5 x hx.1 hn
end Go.Proofs.YtgppclmofphlfaaGreatDoor

/-
  Trees that calls have made are such as Load takes; each node but the root is just one node's child. Plain lemmas; no statement.
-/
namespace Go.Proofs.YtgppclmofphlfaaGreatDoor
set_option maxRecDepth 100000
set_option linter.unusedVariables false

theorem lb_prefix : ∀ (a : List UInt8) (c : UInt8) (r : List UInt8), lb a (a ++ c :: r)
  | [], c, r => rfl
  | x :: a, c, r => lb_cons.2 (.inr ⟨rfl, lb_prefix a c r⟩)
theorem parent_lb {p up : List UInt8} (h : parentP p = some up) : lb up p := by
  rcases path_cases p with h0 | ⟨rfl, h0⟩ | ⟨ps, q, h0, h1, h2, h3, _⟩
  · rw [(belowP_none h0).2.1] at h; cases h
  · cases h
  · rw [(parentP_eq h0).1] at h
    obtain rfl := Option.some.inj h
    unfold wholeP
    split
    · rename_i hp
      subst hp
      have hq : q ≠ [] := fun e => by subst e; cases h3
      obtain ⟨c, r, rfl⟩ := List.exists_cons_of_ne_nil hq
      rw [h1]
      exact lb_prefix [47] c r
    · rw [h1]; exact lb_prefix _ _ _
theorem root_least {p : List UInt8} (h : (partsOf p).isSome = true) (hne : p ≠ [47]) : lb [47] p := by
  rcases path_cases p with h0 | ⟨h1, h0⟩ | ⟨ps, q, h0, h1, h2, h3, _⟩
  · rw [h0] at h; cases h
  · exact absurd h1 hne
  · have hq : q ≠ [] := fun e => by subst e; cases h3
    obtain ⟨c, r, rfl⟩ := List.exists_cons_of_ne_nil hq
    cases ps with
    | nil => rw [h1]; exact lb_prefix [47] c r
    | cons a ps =>
      rw [h1]
      have hne2 : a ++ joinP ps ++ 47 :: c :: r ≠ [] := by simp
      obtain ⟨c2, r2, e⟩ := List.exists_cons_of_ne_nil hne2
      have : joinP (a :: ps) ++ 47 :: c :: r = [47] ++ c2 :: r2 := by
        rw [← e]; simp [joinP]
      rw [this]; exact lb_prefix [47] c2 r2
theorem fit_of {n : Nat} {t : List Lf} (h : TOk n t) {x : Lf} (hx : x ∈ t) : lfFit x = true := by
  have h1 := h.own x hx
  have h2 := h.ver x hx
  have h3 := h.next x hx
  have h4 := h.born x hx
  have h5 := h.data x hx
  unfold lfFit
  rw [decide_eq_true h1, decide_eq_true (show 0 ≤ min (min x.ver x.next) x.born by omega), decide_eq_true h5]
  rfl
theorem takes_of {n : Nat} {t : List Lf} (h : TOk n t) : tTakes t = true := by
  obtain ⟨r, hr, h1, h2, h3⟩ := h.root
  obtain ⟨i, hi, hir⟩ := List.getElem_of_mem hr
  have hri : t[i]? = some r := by rw [List.getElem?_eq_getElem hi, hir]
  unfold tTakes
  rw [decide_eq_true ⟨by omega, h.len⟩, Bool.true_and, List.all_eq_true]
  intro k hk
  have hk := List.mem_range.1 hk
  obtain ⟨x, hx⟩ : ∃ x, t[k]? = some x := ⟨_, List.getElem?_eq_getElem hk⟩
  have hxm : x ∈ t := List.mem_of_getElem? hx
  have hg : t.getD k lfRoot = x := by rw [List.getD_eq_getElem?_getD, hx]; rfl
  unfold tStep
  simp only [hg]
  by_cases hk0 : k = 0
  · rw [if_pos hk0]
    subst hk0
    have hxr : x = r := by
      by_cases hp : x.path = [47]
      · exact srt_uniq h.srt hxm hr (hp.trans h1.symm)
      · have hl := root_least (h.path x hxm) hp
        rw [← h1] at hl
        have := (srt_at h.srt hri hx).2 hl
        omega
    rw [fit_of h hxm, hxr]
    unfold lfRooty
    rw [h1, h2, h3]; rfl
  · rw [if_neg hk0]
    obtain ⟨p, hp⟩ : ∃ p, t[k - 1]? = some p := ⟨_, List.getElem?_eq_getElem (by omega)⟩
    have hgp : t.getD (k - 1) lfRoot = p := by rw [List.getD_eq_getElem?_getD, hp]; rfl
    have hlb : Op.bytesLess p.path x.path = true := (srt_at h.srt hp hx).1 (by omega)
    have hne : x.path ≠ [47] := by
      intro e
      have := srt_uniq h.srt hxm hr (e.trans h1.symm)
      subst this
      have hpn : p.path ≠ [47] := fun e2 => lb_irr [47] (by have h9 : lb p.path x.path := hlb; rw [e, e2] at h9; exact h9)
      have h8 := root_least (h.path p (List.mem_of_getElem? hp)) hpn
      have h9 : lb p.path x.path := hlb
      rw [e] at h9
      exact lb_asym h8 h9
    obtain ⟨m, hm, hm1, hm2⟩ := h.par x hxm hne
    have hmay : tMay x.path (t.take k) = true := by
      obtain ⟨j, hj, hjm⟩ := List.getElem_of_mem hm
      have hmj : t[j]? = some m := by rw [List.getElem?_eq_getElem hj, hjm]
      have hjk : j < k := (srt_at h.srt hmj hx).2 (parent_lb hm1)
      have hmt : (t.take k)[j]? = some m := by rw [List.getElem?_take, if_pos hjk]; exact hmj
      have hst : Srt (t.take k) := List.Pairwise.sublist (List.take_sublist k t) h.srt
      unfold tMay
      rw [hm1]
      show (tHold m.path (t.take k)).1.isSome = true
      unfold tHold
      rw [tGet_at (h.path m hm), tAt_of hst hmt]
      have hgm : (t.take k).getD j lfRoot = m := by rw [List.getD_eq_getElem?_getD, hmt]; rfl
      simp only [hgm, hm2, if_true]
      rfl
    rw [hgp, hlb, fit_of h hxm, hmay]
    rfl
/-- the kids of these, told together -/
def kidSum (ks : List (List UInt8)) (t : List Lf) : Nat := (ks.map fun p => (tKids p t).length).sum
theorem kidSum_snoc (ks : List (List UInt8)) (p : List UInt8) (t : List Lf) : kidSum (ks ++ [p]) t = kidSum ks t + (tKids p t).length := by
  unfold kidSum
  simp
theorem kidSum_more (y : Lf) (t : List Lf) : ∀ ks : List (List UInt8), kidSum ks (y :: t) = kidSum ks t + (ks.filter fun p => decide (parentP y.path = some p)).length
  | [] => rfl
  | p :: ks => by
    have ih := kidSum_more y t ks
    have e1 : kidSum (p :: ks) (y :: t) = (tKids p (y :: t)).length + kidSum ks (y :: t) := by unfold kidSum; simp
    have e2 : kidSum (p :: ks) t = (tKids p t).length + kidSum ks t := by unfold kidSum; simp
    rw [e1, e2, ih]
    by_cases h : parentP y.path = some p
    · have h3 : (tKids p (y :: t)).length = (tKids p t).length + 1 := by unfold tKids; simp [h]
      rw [h3, List.filter_cons_of_pos (by simpa using h), List.length_cons]; omega
    · have h3 : (tKids p (y :: t)).length = (tKids p t).length := by unfold tKids; simp [h]
      rw [h3, List.filter_cons_of_neg (by simpa using h)]; omega
theorem filter_one {ks : List (List UInt8)} (hd : ks.Nodup) {p : List UInt8} (hp : p ∈ ks) : (ks.filter fun q => decide (some p = some q)).length = 1 := by
  induction ks with
  | nil => cases hp
  | cons a r ih =>
    have hd' := List.nodup_cons.1 hd
    by_cases e : p = a
    · subst e
      rw [List.filter_cons_of_pos (by simp)]
      have : r.filter (fun q => decide (some p = some q)) = [] := List.filter_eq_nil_iff.2 fun q hq => by
        simp only [Option.some.injEq, decide_eq_true_eq]
        rintro rfl
        exact hd'.1 hq
      rw [this]; rfl
    · rcases List.mem_cons.1 hp with e2 | hp
      · exact absurd e2 e
      · rw [List.filter_cons_of_neg (by simpa using e)]
        exact ih hd'.2 hp
/-- each of them but the root is the child of just one of ks -/
theorem kidSum_all {ks : List (List UInt8)} (hd : ks.Nodup) : ∀ t : List Lf, (∀ y ∈ t, y.path ≠ [47] → ∃ p ∈ ks, parentP y.path = some p) → kidSum ks t = (t.filter fun y => decide (y.path ≠ [47])).length
  | [], _ => by
    unfold kidSum
    have : ks.map (fun p => (tKids p ([] : List Lf)).length) = ks.map fun _ => 0 := List.map_congr_left fun p _ => rfl
    rw [this]
    clear this hd
    induction ks with
    | nil => rfl
    | cons a r ih => simpa using ih
  | y :: t, h => by
    rw [kidSum_more, kidSum_all hd t fun z hz => h z (List.mem_cons_of_mem _ hz)]
    by_cases e : y.path = [47]
    · rw [List.filter_cons_of_neg (by simpa using e), e]
      have : ks.filter (fun p => decide (parentP [47] = some p)) = [] := List.filter_eq_nil_iff.2 fun q _ => by simp [show parentP [47] = none from rfl]
      rw [this]; rfl
    · obtain ⟨p, hp, hpp⟩ := h y List.mem_cons_self e
      rw [List.filter_cons_of_pos (by simpa using e), hpp, filter_one hd hp]
      rfl
theorem kids_sum {n : Nat} {t : List Lf} (h : TOk n t) : kidSum (t.map (·.path)) t + 1 = t.length := by
  have hd : (t.map (·.path)).Nodup := by
    rw [List.nodup_iff_pairwise_ne, List.pairwise_map]
    exact h.srt.imp fun hab => lb_ne hab
  rw [kidSum_all hd t fun y hy hne => by
    obtain ⟨m, hm, hm1, _⟩ := h.par y hy hne
    exact ⟨m.path, List.mem_map.2 ⟨m, hm, rfl⟩, hm1⟩]
  obtain ⟨r, hr, h1, _⟩ := h.root
  obtain ⟨i, hi, hir⟩ := List.getElem_of_mem hr
  have hri : t[i]? = some r := by rw [List.getElem?_eq_getElem hi, hir]
  have hf := drop_filter h.srt hri
  rw [h1] at hf
  have hf2 : (t.filter fun y => decide (y.path ≠ [47])) = t.take i ++ t.drop (i + 1) := hf.symm
  rw [hf2]
  simp
  omega
end Go.Proofs.YtgppclmofphlfaaGreatDoor
