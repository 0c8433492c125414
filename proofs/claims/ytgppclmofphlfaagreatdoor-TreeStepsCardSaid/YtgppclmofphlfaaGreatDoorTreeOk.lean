/-
  What holds of every tree that calls have made. Plain lemmas; no statement.
-/
import Derived.Test.YtgppclmofphlfaaGreatDoorTreeMake
import Derived.Test.YtgppclmofphlfaaGreatDoorTreeDrop
namespace Go.Proofs.YtgppclmofphlfaaGreatDoor
set_option maxRecDepth 100000
open Go.RowKit
set_option linter.unusedVariables false

/-- a tree as calls make it; no version above n -/
structure TOk (n : Nat) (t : List Lf) : Prop where
  srt : Srt t
  len : t.length ≤ 32
  path : ∀ l ∈ t, (partsOf l.path).isSome = true
  data : ∀ l ∈ t, l.data.length ≤ 128
  own : ∀ l ∈ t, -1 ≤ l.own
  ver : ∀ l ∈ t, 0 ≤ l.ver ∧ l.ver ≤ n
  next : ∀ l ∈ t, 0 ≤ l.next ∧ l.next ≤ 100000
  born : ∀ l ∈ t, 0 ≤ l.born
  root : ∃ l ∈ t, l.path = [47] ∧ l.own = -1 ∧ l.born = 0
  par : ∀ l ∈ t, l.path ≠ [47] → ∃ m ∈ t, parentP l.path = some m.path ∧ m.own = -1
theorem TOk.p64 {n : Nat} {t : List Lf} (h : TOk n t) : ∀ l ∈ t, l.path.length ≤ 64 := fun l hl => parts_le (h.path l hl)
theorem TOk.d1000 {n : Nat} {t : List Lf} (h : TOk n t) : ∀ l ∈ t, l.data.length ≤ 1000 := fun l hl => by have := h.data l hl; omega
theorem TOk.wf {n : Nat} {t : List Lf} (h : TOk n t) : ∀ l ∈ t, (Lit.int .i64 l.next).wf = true := fun l hl => by
  have := h.next l hl
  simp only [Lit.wf, IntKind.min, IntKind.max, IntKind.signed, IntKind.bits]
  simp; omega
theorem TOk.more {n m : Nat} {t : List Lf} (h : TOk n t) (hm : n ≤ m) : TOk m t := { h with ver := fun l hl => by have := h.ver l hl; omega }
theorem tOk_new : TOk 0 [lfRoot] where
  srt := List.pairwise_singleton _ _
  len := by decide
  path := by intro l hl; obtain rfl := List.mem_singleton.1 hl; rfl
  data := by intro l hl; obtain rfl := List.mem_singleton.1 hl; decide
  own := by intro l hl; obtain rfl := List.mem_singleton.1 hl; decide
  ver := by intro l hl; obtain rfl := List.mem_singleton.1 hl; decide
  next := by intro l hl; obtain rfl := List.mem_singleton.1 hl; decide
  born := by intro l hl; obtain rfl := List.mem_singleton.1 hl; decide
  root := ⟨lfRoot, List.mem_singleton.2 rfl, rfl, rfl, rfl⟩
  par := by intro l hl hne; obtain rfl := List.mem_singleton.1 hl; exact absurd rfl hne
/-- a node in place of the one of its path -/
theorem len_swap {t : List Lf} (h : Srt t) {a l : Lf} (ha : a ∈ t) (e : a.path = l.path) : (tWith l t).length = t.length := by
  obtain ⟨k, hk, hka⟩ := List.getElem_of_mem ha
  have hf := drop_filter h (List.getElem?_eq_getElem hk)
  rw [hka, e] at hf
  rw [tWith_put]
  unfold kPut
  rw [len_kIns, ← hf]
  simp; omega
theorem len_new {t : List Lf} {l : Lf} (h : tAt l.path t = none) : (tWith l t).length = t.length + 1 := by
  have hf : (t.filter fun y => decide (y.path ≠ l.path)) = t := List.filter_eq_self.2 fun y hy => by simpa using tAt_no.1 h y hy
  rw [tWith_put]
  unfold kPut
  rw [len_kIns, hf]
/-- the last slash parts a text in one way -/
theorem slash_once {a b x y : List UInt8} (h : a ++ 47 :: x = b ++ 47 :: y) (hx : (47 : UInt8) ∉ x) (hy : (47 : UInt8) ∉ y) : a = b ∧ x = y := by
  rcases List.append_eq_append_iff.1 h with ⟨c, h1, h2⟩ | ⟨c, h1, h2⟩
  · cases c with
    | nil => simp at h1 h2; exact ⟨h1.symm, h2⟩
    | cons z c =>
      injection h2 with h3 h4
      exact absurd (by rw [h4]; simp) hx
  · cases c with
    | nil => simp at h1 h2; exact ⟨h1, h2.symm⟩
    | cons z c =>
      injection h2 with h3 h4
      exact absurd (by rw [h4]; simp) hy
theorem digits_slash (n : Nat) : (47 : UInt8) ∉ digits5 n := by
  have h : ∀ d : Nat, (47 : UInt8) ≠ UInt8.ofNat (48 + d % 10) := by
    intro d e
    have := congrArg UInt8.toNat e
    rw [UInt8.toNat_ofNat'] at this
    simp at this
    omega
  unfold digits5
  simp only [List.mem_cons, List.not_mem_nil, or_false, not_or]
  exact ⟨h _, h _, h _, h _, h _⟩
theorem numbered_parent {p q up : List UInt8} {n : Int} (h : numberedP p n = some q) (hu : parentP p = some up) : parentP q = some up := by
  obtain ⟨hq, _⟩ := numbered_some h
  have e : q = p ++ digits5 n.toNat := by
    unfold numberedP at h
    split at h
    · exact (Option.some.inj h).symm
    · cases h
  rcases path_cases p with h0 | ⟨rfl, h0⟩ | ⟨ps, x, h0, h1, h2, h3, _⟩
  · rw [(belowP_none h0).2.1] at hu; cases hu
  · cases hu
  rcases path_cases q with k0 | ⟨rfl, k0⟩ | ⟨qs, y, k0, k1, k2, k3, _⟩
  · rw [k0] at hq; cases hq
  · have := congrArg List.length e
    simp [digits_len, h1] at this
    omega
  have he : joinP qs ++ 47 :: y = joinP ps ++ 47 :: (x ++ digits5 n.toNat) := by rw [← k1, e, h1]; simp
  obtain ⟨e1, e2⟩ := slash_once he (part_noslash k3) (by
    intro hm
    rcases List.mem_append.1 hm with hm | hm
    · exact part_noslash h3 hm
    · exact digits_slash _ hm)
  rw [(parentP_eq k0).1, joinP_inj k2 h2 e1, ← (parentP_eq h0).1, hu]
/-- a node in place of one of the same path, owner and birth -/
theorem TOk.swap {n m : Nat} {t : List Lf} (h : TOk n t) {a l : Lf} (ha : a ∈ t) (e : l.path = a.path) (eo : l.own = a.own) (eb : l.born = a.born) (hd : l.data.length ≤ 128) (hv : 0 ≤ l.ver ∧ l.ver ≤ m) (hx : 0 ≤ l.next ∧ l.next ≤ 100000) (hm : n ≤ m) : TOk m (tWith l t) where
  srt := tWith_srt l h.srt
  len := by rw [len_swap h.srt ha e.symm]; exact h.len
  path := by intro x hx; rcases (mem_tWith l x t).1 hx with rfl | hx; · rw [e]; exact h.path a ha
             exact h.path x hx.1
  data := by intro x hx; rcases (mem_tWith l x t).1 hx with rfl | hx; · exact hd
             exact h.data x hx.1
  own := by intro x hx; rcases (mem_tWith l x t).1 hx with rfl | hx; · rw [eo]; exact h.own a ha
            exact h.own x hx.1
  ver := by intro x hx; rcases (mem_tWith l x t).1 hx with rfl | hx; · exact hv
            have := h.ver x hx.1; omega
  next := by intro x hx; rcases (mem_tWith l x t).1 hx with rfl | hx; · assumption
             exact h.next x hx.1
  born := by intro x hx; rcases (mem_tWith l x t).1 hx with rfl | hx; · rw [eb]; exact h.born a ha
             exact h.born x hx.1
  root := by
    obtain ⟨r, hr, h1, h2, h3⟩ := h.root
    by_cases hc : r.path = l.path
    · have : r = a := srt_uniq h.srt hr ha (hc.trans e)
      subst this
      exact ⟨l, (mem_tWith l l t).2 (.inl rfl), by rw [e, h1], by rw [eo, h2], by rw [eb, h3]⟩
    · exact ⟨r, (mem_tWith l r t).2 (.inr ⟨hr, hc⟩), h1, h2, h3⟩
  par := by
    intro x hx hne
    have hx' : ∃ z ∈ t, z.path = x.path := by
      rcases (mem_tWith l x t).1 hx with rfl | hx
      · exact ⟨a, ha, e.symm⟩
      · exact ⟨x, hx.1, rfl⟩
    obtain ⟨z, hz, hze⟩ := hx'
    obtain ⟨m, hm1, hm2, hm3⟩ := h.par z hz (by rw [hze]; exact hne)
    by_cases hc : m.path = l.path
    · have : m = a := srt_uniq h.srt hm1 ha (hc.trans e)
      subst this
      exact ⟨l, (mem_tWith l l t).2 (.inl rfl), by rw [← hze, hm2, e], by rw [eo, hm3]⟩
    · exact ⟨m, (mem_tWith l m t).2 (.inr ⟨hm1, hc⟩), by rw [← hze]; exact hm2, hm3⟩
/-- a new node -/
theorem TOk.add {n : Nat} {t : List Lf} (h : TOk n t) {l : Lf} (hno : tAt l.path t = none) (hl : t.length < 32) (hp : (partsOf l.path).isSome = true) (hd : l.data.length ≤ 128) (ho : -1 ≤ l.own) (hv : l.ver = 0) (hx : l.next = 0) (hb : 0 ≤ l.born) (hm : ∃ m ∈ t, parentP l.path = some m.path ∧ m.own = -1) : TOk n (tWith l t) where
  srt := tWith_srt l h.srt
  len := by rw [len_new hno]; omega
  path := by intro x hx; rcases (mem_tWith l x t).1 hx with rfl | hx; · exact hp
             exact h.path x hx.1
  data := by intro x hx; rcases (mem_tWith l x t).1 hx with rfl | hx; · exact hd
             exact h.data x hx.1
  own := by intro x hx; rcases (mem_tWith l x t).1 hx with rfl | hx; · exact ho
            exact h.own x hx.1
  ver := by intro x hx; rcases (mem_tWith l x t).1 hx with rfl | hx; · omega
            exact h.ver x hx.1
  next := by intro x hx; rcases (mem_tWith l x t).1 hx with rfl | hx; · omega
             exact h.next x hx.1
  born := by intro x hx; rcases (mem_tWith l x t).1 hx with rfl | hx; · exact hb
             exact h.born x hx.1
  root := by
    obtain ⟨r, hr, h1⟩ := h.root
    exact ⟨r, (mem_tWith l r t).2 (.inr ⟨hr, tAt_no.1 hno r hr⟩), h1⟩
  par := by
    intro x hx hne
    have hin : ∀ m ∈ t, m ∈ tWith l t := fun m hm => (mem_tWith l m t).2 (.inr ⟨hm, tAt_no.1 hno m hm⟩)
    rcases (mem_tWith l x t).1 hx with rfl | hx
    · obtain ⟨m, h1, h2⟩ := hm; exact ⟨m, hin m h1, h2⟩
    · obtain ⟨m, h1, h2⟩ := h.par x hx.1 hne; exact ⟨m, hin m h1, h2⟩
theorem TOk.make {n : Nat} {t : List Lf} (h : TOk n t) (p data : List UInt8) (own born : Int) (numbered : Bool) : TOk n (tMake p data own born numbered t).1 := by
  unfold tMake
  cases hu : parentP p with
  | none => exact h
  | some up =>
    simp only
    by_cases hd : data.length > 128
    · rw [if_pos hd]; exact h
    rw [if_neg hd]
    cases hk : tAt up t with
    | none => exact h
    | some k =>
      obtain ⟨a, hka, hap⟩ := tAt_mem hk
      have hg : t.getD k lfRoot = a := by rw [List.getD_eq_getElem?_getD, hka]; rfl
      have ha : a ∈ t := List.mem_of_getElem? hka
      simp only [hg]
      by_cases ho : a.own ≠ -1
      · rw [if_pos ho]; exact h
      rw [if_neg ho]
      have ho' : a.own = -1 := Decidable.not_not.1 ho
      cases hq : (if numbered = true then numberedP p a.next else some p) with
      | none => exact h
      | some q =>
        simp only
        by_cases ht : (tAt q t).isSome = true
        · rw [if_pos ht]; exact h
        rw [if_neg ht]
        have ht' : tAt q t = none := by cases hh : tAt q t with
          | none => rfl
          | some j => rw [hh] at ht; exact absurd rfl ht
        by_cases hl : t.length ≥ 32
        · rw [if_pos hl]; exact h
        rw [if_neg hl]
        have hb := h.next a ha
        have hv := h.ver a ha
        have hw : TOk n (tWith (if numbered = true then { a with next := a.next + 1 } else a) t) ∧ parentP q = some up ∧ (partsOf q).isSome = true := by
          cases numbered with
          | false =>
            rw [if_neg (by simp)] at hq ⊢
            cases hq
            refine ⟨h.swap ha rfl rfl rfl (h.data a ha) hv hb (Nat.le_refl _), hu, ?_⟩
            unfold parentP at hu
            cases hh : partsOf p with
            | none => rw [hh] at hu; cases hu
            | some _ => rfl
          | true =>
            rw [if_pos rfl] at hq ⊢
            have hs := numbered_some hq
            exact ⟨h.swap ha rfl rfl rfl (h.data a ha) hv (by show 0 ≤ a.next + 1 ∧ a.next + 1 ≤ 100000; omega) (Nat.le_refl _), numbered_parent hq hu, hs.1⟩
        obtain ⟨hw, hup, hpa⟩ := hw
        have he : (if numbered = true then { a with next := a.next + 1 } else a : Lf).path = a.path := by cases numbered <;> rfl
        have he2 : (if numbered = true then { a with next := a.next + 1 } else a : Lf).own = a.own := by cases numbered <;> rfl
        refine hw.add (l := ⟨q, data, 0, max own (-1), 0, max born 0⟩) ?_ ?_ hpa (by show data.length ≤ 128; omega) (by show -1 ≤ max own (-1); omega) rfl rfl (by show 0 ≤ max born 0; omega) ?_
        · refine tAt_no.2 fun x hx => ?_
          rcases (mem_tWith _ x t).1 hx with rfl | hx
          · rw [he]; exact tAt_no.1 ht' a ha
          · exact tAt_no.1 ht' x hx.1
        · rw [len_swap h.srt ha he.symm]; omega
        · exact ⟨_, (mem_tWith _ _ t).2 (.inl rfl), by rw [he, hap]; exact hup, by rw [he2]; exact ho'⟩
theorem TOk.drop {n : Nat} {t : List Lf} (h : TOk n t) (p : List UInt8) (v : Int) : TOk n (tDrop p v t).1 := by
  unfold tDrop
  cases hu : parentP p with
  | none => exact h
  | some up =>
    simp only
    cases hk : tAt p t with
    | none => exact h
    | some k =>
      simp only
      split
      · exact h
      split
      · exact h
      rename_i _ hn
      have hn' : tKids p t = [] := Decidable.not_not.1 hn
      obtain ⟨a, hka, hap⟩ := tAt_mem hk
      show TOk n (t.take k ++ t.drop (k + 1))
      rw [drop_filter h.srt hka, hap]
      have hm : ∀ x, x ∈ t.filter (fun y => decide (y.path ≠ p)) ↔ x ∈ t ∧ x.path ≠ p := fun x => by rw [List.mem_filter]; simp
      exact {
        srt := h.srt.filter _
        len := Nat.le_trans (List.length_filter_le _ _) h.len
        path := fun x hx => h.path x ((hm x).1 hx).1
        data := fun x hx => h.data x ((hm x).1 hx).1
        own := fun x hx => h.own x ((hm x).1 hx).1
        ver := fun x hx => h.ver x ((hm x).1 hx).1
        next := fun x hx => h.next x ((hm x).1 hx).1
        born := fun x hx => h.born x ((hm x).1 hx).1
        root := by
          obtain ⟨r, hr, h1, h2⟩ := h.root
          refine ⟨r, (hm r).2 ⟨hr, fun e => ?_⟩, h1, h2⟩
          rw [← e, h1] at hu
          cases hu
        par := by
          intro x hx hne
          obtain ⟨m, h1, h2, h3⟩ := h.par x ((hm x).1 hx).1 hne
          refine ⟨m, (hm m).2 ⟨h1, fun e => ?_⟩, h2, h3⟩
          have : x.path ∈ tKids p t := by
            unfold tKids
            exact List.mem_map.2 ⟨x, List.mem_filter.2 ⟨((hm x).1 hx).1, by rw [h2, e]; simp⟩, rfl⟩
          rw [hn'] at this
          cases this }
theorem TOk.set {n : Nat} {t : List Lf} (h : TOk n t) (hn : n ≤ 100000) (p data : List UInt8) (v : Int) : TOk (n + 1) (tSet p data v t).1 := by
  unfold tSet
  split
  · exact h.more (by omega)
  cases hk : tAt p t with
  | none => exact h.more (by omega)
  | some k =>
    obtain ⟨a, hka, hap⟩ := tAt_mem hk
    have hg : t.getD k lfRoot = a := by rw [List.getD_eq_getElem?_getD, hka]; rfl
    have ha : a ∈ t := List.mem_of_getElem? hka
    simp only [hg]
    split
    · exact h.more (by omega)
    split
    · exact h.more (by omega)
    have hv := h.ver a ha
    have hw : IntKind.i64.wrap (a.ver + 1) = a.ver + 1 := by
      simp only [IntKind.wrap, IntKind.signed, IntKind.bits]; simp; omega
    exact h.swap ha rfl rfl rfl (by show data.length ≤ 128; omega) (by show 0 ≤ IntKind.i64.wrap (a.ver + 1) ∧ IntKind.i64.wrap (a.ver + 1) ≤ ((n + 1 : Nat) : Int); rw [hw]; omega) (h.next a ha) (by omega)
end Go.Proofs.YtgppclmofphlfaaGreatDoor
