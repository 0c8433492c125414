/-
  Packed and read again: letters, entries, messages. Plain lemmas; no statement.
-/
import Derived.Test.YtmgmmbgjmnklkaaMsgHeavy
namespace Go.Proofs.Ytmgmmbgjmnklkaa
set_option maxRecDepth 100000
open Pk
set_option linter.unusedVariables false

theorem ints_nums8 : ∀ (vs : List Int) (f : Nat), (numsN vs).length < f → numsBad vs = false → intsF f (numsN vs) = (0, vs) := by
  intro vs
  induction vs with
  | nil =>
    intro f hf _
    cases f with
    | zero => simp [numsN] at hf
    | succ f => simp [numsN, intsF]
  | cons v r ih =>
    intro f hf hb
    cases f with
    | zero => omega
    | succ f =>
      unfold numsBad at hb
      rw [List.any_cons, Bool.or_eq_false_iff] at hb
      have h1 := hb.1
      rw [decide_eq_false_iff_not] at h1
      have hv : v.toNat < 4611686018427387904 := by omega
      have hp := encN_pos v.toNat
      simp only [numsN, List.length_append] at hf
      have hne : encN v.toNat ++ numsN r ≠ [] := by
        intro e
        have := congrArg List.length e
        simp only [List.length_append, List.length_nil] at this
        omega
      have h2 := ih f (by omega) hb.2
      simp only [numsN]
      rw [intsF, if_neg hne, rdN_enc hv, restN_enc hv, h2]
      simp
      omega
theorem nums_ints8 : ∀ (f : Nat) (p : List UInt8), p.length < f → (intsF f p).1 = 0 → numsN (intsF f p).2 = p := by
  intro f
  induction f with
  | zero => intro p h; omega
  | succ f ih =>
    intro p hp h
    rw [intsF] at h ⊢
    by_cases h1 : p = []
    · subst h1; simp [numsN]
    · rw [if_neg h1] at h ⊢
      by_cases h2 : (rdN p).2.2 = 0
      · rw [if_neg (by omega)] at h ⊢
        have hc := rdN_count h2
        have hr : (restN p).length < f := by unfold restN; rw [if_pos h2, List.length_drop]; omega
        by_cases h3 : (intsF f (restN p)).1 = 0
        · rw [if_neg (by omega)]
          have := ih (restN p) hr h3
          simp only [numsN, Int.toNat_natCast, this]
          exact encN_rdN h2
        · rw [if_pos h3] at h; exact absurd h h3
      · rw [if_pos h2] at h; exact absurd h h2
theorem rdNums_nums {vs : List Int} (h : numsBad vs = false) : rdNums vs.length (numsN vs) = some vs := by
  unfold rdNums intsN
  rw [ints_nums8 vs _ (by omega) h]
  simp
theorem nums_rdNums {k : Nat} {b : List UInt8} {vs : List Int} (h : rdNums k b = some vs) : numsN vs = b := by
  unfold rdNums at h
  split at h
  · rename_i h1
    injection h with h
    rw [← h]
    exact nums_ints8 _ _ (by omega) h1.1
  · cases h
theorem rdNum_enc {v : Int} (h : 0 ≤ v ∧ v < 4611686018427387904) : rdNum (encI v) = some v := by
  have h1 := rdNums_nums (vs := [v]) (by simp [numsBad]; omega)
  have h2 : numsN [v] = encI v := by simp [numsN, encI]
  rw [h2] at h1
  unfold rdNum
  rw [show ([v] : List Int).length = 1 from rfl] at h1
  rw [h1]
theorem enc_rdNum {b : List UInt8} {v : Int} (h : rdNum b = some v) : encI v = b ∧ 0 ≤ v ∧ v < 4611686018427387904 := by
  unfold rdNum at h
  split at h
  · rename_i u hu
    injection h with h
    subst h
    have h1 := nums_rdNums hu
    have h2 := (rdNums_range hu).2 u (by simp)
    refine ⟨?_, h2⟩
    simpa [numsN, encI] using h1
  · cases h
theorem joinX_rdFlds {ls : List (List UInt8)} {b : List UInt8} (h : joinX ls = some b) : rdFlds ls.length b = some ls ∧ rdSplit b = some ls := by
  unfold joinX at h
  split at h
  · cases h
  · rename_i h1
    injection h with h
    have h2 := splitN_joinN (ls := ls) (by simpa using h1)
    rw [h] at h2
    unfold rdFlds rdSplit
    rw [h2]
    simp
theorem rdSplit_join {b : List UInt8} {ls : List (List UInt8)} (h : rdSplit b = some ls) : joinX ls = some b := by
  unfold rdSplit at h
  split at h
  · rename_i h1
    injection h with h
    obtain ⟨h2, h3⟩ := joinN_splitN h1
    unfold joinX
    rw [← h, if_neg (by rw [h3]; decide), h2]
  · cases h
theorem rdFlds_join {k : Nat} {b : List UInt8} {ls : List (List UInt8)} (h : rdFlds k b = some ls) : joinX ls = some b ∧ ls.length = k := by
  unfold rdFlds at h
  split at h
  · rename_i h1
    injection h with h
    refine ⟨rdSplit_join (by unfold rdSplit; rw [if_pos h1.1, h]), by rw [← h]; exact h1.2⟩
  · cases h

/-- a letter -/
theorem rdLt_pack {l : Lt} {b : List UInt8} (hok : l.ok = true) (h : l.pack = some b) : rdLt b = some l := by
  unfold Lt.pack at h
  split at h
  · cases h
  · rename_i t ht
    obtain ⟨h1, _⟩ := joinX_rdFlds h
    obtain ⟨_, h2⟩ := joinX_rdFlds ht
    have h3 := rdNums_nums (lt_ok hok).1
    unfold rdLt
    rw [show ([numsN [l.f1, l.f2, l.r], l.body, t] : List (List UInt8)).length = 3 from rfl] at h1
    rw [show ([l.f1, l.f2, l.r] : List Int).length = 3 from rfl] at h3
    rw [h1]
    simp only [h3, h2]
theorem pack_rdLt {l : Lt} {b : List UInt8} (h : rdLt b = some l) : l.pack = some b := by
  unfold rdLt at h
  split at h
  · rename_i f0 f1 f2 hf
    split at h
    · rename_i x y z hn
      split at h
      · rename_i ts hs
        injection h with h
        subst h
        unfold Lt.pack
        rw [rdSplit_join hs]
        simp only
        rw [nums_rdNums hn]
        exact (rdFlds_join hf).1
      · cases h
    · cases h
  · cases h
/-- an entry -/
theorem rdEn_pack {e : En} (hok : e.ok = true) : rdEn e.pack = some e := by
  obtain ⟨h1, _⟩ := joinX_rdFlds (en_join hok)
  have h3 := rdNums_nums (en_ok hok).1
  unfold rdEn
  rw [show ([numsN [e.c + 1, e.s, e.t], e.dig] : List (List UInt8)).length = 2 from rfl] at h1
  rw [show ([e.c + 1, e.s, e.t] : List Int).length = 3 from rfl] at h3
  rw [h1]
  simp only [h3]
  rw [show e.c + 1 - 1 = e.c by omega]
theorem pack_rdEn {e : En} {b : List UInt8} (h : rdEn b = some e) : e.pack = b := by
  unfold rdEn at h
  split at h
  · rename_i f0 f1 hf
    split at h
    · rename_i x y z hn
      injection h with h
      subst h
      unfold En.pack
      have h1 := (rdFlds_join hf).1
      have h2 := nums_rdNums hn
      unfold joinX at h1
      split at h1
      · cases h1
      · injection h1 with h1
        simp only
        rw [show x - 1 + 1 = x by omega, h2]
        exact h1
    · cases h
  · cases h
/-- lists -/
theorem allX_back {α β : Type} {f : α → Option β} {g : β → Option α} {P : α → Prop} (hfg : ∀ x y, P x → f x = some y → g y = some x) : ∀ {xs : List α} {ys : List β}, (∀ x ∈ xs, P x) → allX f xs = some ys → allX g ys = some xs
  | [], ys, _, h => by
    simp only [allX, Option.some.injEq] at h
    subst h
    rfl
  | x :: r, ys, hp, h => by
    simp only [allX] at h
    cases hx : f x with
    | none => rw [hx] at h; cases h
    | some y =>
      rw [hx] at h
      simp only at h
      cases hr : allX f r with
      | none => rw [hr] at h; cases h
      | some zs =>
        rw [hr] at h
        injection h with h
        subst h
        have h1 := hfg x y (hp x (List.mem_cons_self ..)) hx
        have h2 := allX_back hfg (fun z hz => hp z (List.mem_cons_of_mem _ hz)) hr
        simp only [allX, h1, h2]
theorem rdList_pack {α : Type} {f : α → Option (List UInt8)} {g : List UInt8 → Option α} {P : α → Prop} (hfg : ∀ x y, P x → f x = some y → g y = some x) {xs : List α} {b : List UInt8} (hp : ∀ x ∈ xs, P x) (h : packList f xs = some b) : rdList g b = some xs := by
  unfold packList at h
  split at h
  · cases h
  · rename_i rows hr
    unfold rdList
    rw [(joinX_rdFlds h).2]
    exact allX_back hfg hp hr
theorem pack_rdList {α : Type} {f : α → Option (List UInt8)} {g : List UInt8 → Option α} (hgf : ∀ y x, g y = some x → f x = some y) {xs : List α} {b : List UInt8} (h : rdList g b = some xs) : packList f xs = some b := by
  unfold rdList at h
  split at h
  · cases h
  · rename_i fs hs
    unfold packList
    rw [allX_back (P := fun _ => True) (fun x y _ h => hgf x y h) (fun _ _ => trivial) h]
    exact rdSplit_join hs
theorem rdLts_pack {ls : List Lt} {b : List UInt8} (hok : ltsOk ls = true) (h : ltsPack ls = some b) : rdLts b = some ls :=
  rdList_pack (P := fun l => l.ok = true) (fun x y hx hy => rdLt_pack hx hy) (by unfold ltsOk at hok; simp only [Bool.and_eq_true, List.all_eq_true] at hok; exact hok.2) h
theorem pack_rdLts {ls : List Lt} {b : List UInt8} (h : rdLts b = some ls) : ltsPack ls = some b := pack_rdList (fun y x hx => pack_rdLt hx) h
theorem rdPv_pack {p : Pv} {b : List UInt8} (hok : p.ok = true) (h : p.pack = some b) : rdPv b = some p := by
  unfold Pv.ok wideB at hok
  simp only [Bool.and_eq_true, decide_eq_true_eq] at hok
  unfold Pv.pack at h
  split at h
  · cases h
  · rename_i v hv
    obtain ⟨h1, _⟩ := joinX_rdFlds h
    have h3 := rdNums_nums (vs := [p.seq, p.view]) (by simp [numsBad]; omega)
    unfold rdPv
    rw [show ([numsN [p.seq, p.view], p.e.pack, v] : List (List UInt8)).length = 3 from rfl] at h1
    rw [show ([p.seq, p.view] : List Int).length = 2 from rfl] at h3
    rw [h1]
    simp only [h3, rdEn_pack hok.2.2.1, rdLts_pack hok.2.2.2 hv]
theorem pack_rdPv {p : Pv} {b : List UInt8} (h : rdPv b = some p) : p.pack = some b := by
  unfold rdPv at h
  split at h
  · rename_i f0 f1 f2 hf
    split at h
    · rename_i x y hn
      split at h
      · rename_i e he
        split at h
        · rename_i v hv
          injection h with h
          subst h
          unfold Pv.pack
          rw [pack_rdLts hv]
          simp only
          rw [nums_rdNums hn, pack_rdEn he]
          exact (rdFlds_join hf).1
        · cases h
      · cases h
    · cases h
  · cases h
theorem rdPvs_pack {ps : List Pv} {b : List UInt8} (hok : pvsOk ps = true) (h : pvsPack ps = some b) : rdPvs b = some ps :=
  rdList_pack (P := fun l => l.ok = true) (fun x y hx hy => rdPv_pack hx hy) (by unfold pvsOk at hok; simp only [Bool.and_eq_true, List.all_eq_true] at hok; exact hok.2) h
theorem pack_rdPvs {ps : List Pv} {b : List UInt8} (h : rdPvs b = some ps) : pvsPack ps = some b := pack_rdList (fun y x hx => pack_rdPv hx) h

/-- the part p of m -/
def Mg.part (a m : Mg) (p : Nat) : Mg :=
  match p with
  | 0 => { a with view := m.view }
  | 1 => { a with seq := m.seq }
  | 2 => { a with client := m.client }
  | 3 => { a with stamp := m.stamp }
  | 4 => { a with e := m.e }
  | 5 => { a with dig := m.dig }
  | 6 => { a with data := m.data }
  | 7 => { a with proof := m.proof }
  | _ => { a with proven := m.proven }
theorem nine {p : Nat} (h : p ≤ 8) : p = 0 ∨ p = 1 ∨ p = 2 ∨ p = 3 ∨ p = 4 ∨ p = 5 ∨ p = 6 ∨ p = 7 ∨ p = 8 := by omega
theorem put_pack {a m : Mg} {p : Nat} {b : List UInt8} (hp : p ≤ 8) (hok : m.partOk p = true) (h : m.partPack p = some b) : a.put p b = some (a.part m p) := by
  rcases nine hp with rfl | rfl | rfl | rfl | rfl | rfl | rfl | rfl | rfl
  all_goals simp only [Mg.partOk, Mg.partPack, wideB, peerB, decide_eq_true_eq, Option.some.injEq] at hok h
  all_goals simp only [Mg.put, Mg.part]
  · subst h; rw [rdNum_enc (by omega)]; rfl
  · subst h; rw [rdNum_enc (by omega)]; rfl
  · subst h; rw [rdNum_enc (by omega)]; rfl
  · subst h; rw [rdNum_enc (by omega)]; rfl
  · subst h; rw [rdEn_pack hok]; rfl
  · subst h; rfl
  · subst h; rfl
  · rw [rdLts_pack hok h]; rfl
  · rw [rdPvs_pack hok h]; rfl
theorem puts_pack {m : Mg} : ∀ (ps : List Nat) (fs : List (List UInt8)) (a : Mg), (∀ p ∈ ps, p ≤ 8) → ps.all m.partOk = true → allX m.partPack ps = some fs → a.puts ps fs = some (ps.foldl (fun a p => a.part m p) a)
  | [], fs, a, _, _, h => by
    simp only [allX, Option.some.injEq] at h
    subst h
    rfl
  | p :: r, fs, a, hp, hok, h => by
    simp only [allX] at h
    simp only [List.all_cons, Bool.and_eq_true] at hok
    cases hx : m.partPack p with
    | none => rw [hx] at h; cases h
    | some y =>
      rw [hx] at h
      simp only at h
      cases hr : allX m.partPack r with
      | none => rw [hr] at h; cases h
      | some zs =>
        rw [hr] at h
        injection h with h
        subst h
        simp only [Mg.puts, put_pack (a := a) (hp p (List.mem_cons_self ..)) hok.1 hx, List.foldl_cons]
        exact puts_pack r zs _ (fun q hq => hp q (List.mem_cons_of_mem _ hq)) hok.2 hr
theorem parts_le {k : Int} : ∀ p ∈ partsN k, p ≤ 8 := by
  by_cases h : kindB k = true
  · rcases kind_cases h with rfl | rfl | rfl | rfl | rfl | rfl | rfl | rfl | rfl | rfl | rfl | rfl | rfl | rfl <;> simp [partsN]
  · rw [(parts_kind k).2 (by simpa using h)]
    simp
theorem parts_nodup {k : Int} : (partsN k).Nodup := by
  by_cases h : kindB k = true
  · rcases kind_cases h with rfl | rfl | rfl | rfl | rfl | rfl | rfl | rfl | rfl | rfl | rfl | rfl | rfl | rfl <;> simp [partsN]
  · rw [(parts_kind k).2 (by simpa using h)]
    simp
theorem rest_no {m : Mg} {ps : List Nat} (h : restOk m ps = true) {p : Nat} (hp : p ≤ 8) (hn : p ∉ ps) : m.partNo p = true := by
  unfold restOk at h
  rw [List.all_eq_true] at h
  have := h p (by simp; omega)
  simpa [hn] using this
theorem En.ext_zero {e : En} (h : e.c = 0 ∧ e.s = 0 ∧ e.t = 0 ∧ e.dig.length = 0) : e = En.zero := by
  obtain ⟨c, s, t, d⟩ := e
  obtain ⟨h1, h2, h3, h4⟩ := h
  simp only at h1 h2 h3 h4
  have := List.eq_nil_of_length_eq_zero h4
  subst h1 h2 h3 this
  rfl
theorem part_fold {m : Mg} (hk : kindB m.kind = true) (h : restOk m (partsN m.kind) = true) : (partsN m.kind).foldl (fun a p => a.part m p) ({ Mg.zero with kind := m.kind } : Mg) = m := by
  have n0 := rest_no h (p := 0) (by omega)
  have n1 := rest_no h (p := 1) (by omega)
  have n2 := rest_no h (p := 2) (by omega)
  have n3 := rest_no h (p := 3) (by omega)
  have n4 := rest_no h (p := 4) (by omega)
  have n5 := rest_no h (p := 5) (by omega)
  have n6 := rest_no h (p := 6) (by omega)
  have n7 := rest_no h (p := 7) (by omega)
  have n8 := rest_no h (p := 8) (by omega)
  clear h
  obtain ⟨kind, view, seq, client, stamp, e, dig, data, proof, proven⟩ := m
  simp only [Mg.partNo, decide_eq_true_eq, List.length_eq_zero_iff] at *
  have n4' : 4 ∉ partsN kind → e = En.zero := fun q => En.ext_zero (by have := n4 q; simpa using this)
  clear n4
  rcases kind_cases hk with rfl | rfl | rfl | rfl | rfl | rfl | rfl | rfl | rfl | rfl | rfl | rfl | rfl | rfl <;> clear hk <;> simp [partsN] at n0 n1 n2 n3 n4' n5 n6 n7 n8 <;> simp [partsN, Mg.part, Mg.zero, *]
/-- a message -/
theorem rdMg_pack {m : Mg} {b : List UInt8} (hk : kindB m.kind = true) (hok : m.ok = true) (h : m.pack = some b) : rdMg b = some m := by
  unfold Mg.ok at hok
  simp only [Bool.and_eq_true] at hok
  unfold Mg.pack at h
  split at h
  · cases h
  · rename_i rows hr
    have h1 := (joinX_rdFlds h).2
    have hkr : 1 ≤ m.kind ∧ m.kind ≤ 14 := by unfold kindB at hk; simpa using hk
    unfold rdMg
    rw [h1]
    simp only [rdNum_enc (v := m.kind) (by omega), hk, if_true]
    rw [puts_pack _ _ _ parts_le hok.1 hr, part_fold hk hok.2]
theorem put_of {a a' : Mg} {p : Nat} {f : List UInt8} (hp : p ≤ 8) (h : a.put p f = some a') : a'.partPack p = some f := by
  rcases nine hp with rfl | rfl | rfl | rfl | rfl | rfl | rfl | rfl | rfl
  all_goals simp only [Mg.put, Option.map_eq_some_iff, Option.some.injEq] at h
  · obtain ⟨v, hv, rfl⟩ := h; simp only [Mg.partPack, (enc_rdNum hv).1]
  · obtain ⟨v, hv, rfl⟩ := h; simp only [Mg.partPack, (enc_rdNum hv).1]
  · obtain ⟨v, hv, rfl⟩ := h; simp only [Mg.partPack, (enc_rdNum hv).1]
  · obtain ⟨v, hv, rfl⟩ := h; simp only [Mg.partPack, (enc_rdNum hv).1]
  · obtain ⟨v, hv, rfl⟩ := h; simp only [Mg.partPack, pack_rdEn hv]
  · subst h; rfl
  · subst h; rfl
  · obtain ⟨v, hv, rfl⟩ := h; exact pack_rdLts hv
  · obtain ⟨v, hv, rfl⟩ := h; exact pack_rdPvs hv
theorem put_keep {a a' : Mg} {p q : Nat} {f : List UInt8} (hp : p ≤ 8) (hq : q ≤ 8) (hne : p ≠ q) (h : a.put q f = some a') : a'.partPack p = a.partPack p ∧ a'.kind = a.kind := by
  rcases nine hq with rfl | rfl | rfl | rfl | rfl | rfl | rfl | rfl | rfl
  all_goals simp only [Mg.put, Option.map_eq_some_iff, Option.some.injEq] at h
  all_goals first | obtain ⟨v, hv, rfl⟩ := h | subst h
  all_goals rcases nine hp with rfl | rfl | rfl | rfl | rfl | rfl | rfl | rfl | rfl <;> first | exact absurd rfl hne | exact ⟨rfl, rfl⟩
theorem puts_keep {p : Nat} (hp : p ≤ 8) : ∀ (ps : List Nat) (fs : List (List UInt8)) (a a' : Mg), (∀ q ∈ ps, q ≤ 8) → p ∉ ps → a.puts ps fs = some a' → a'.partPack p = a.partPack p
  | [], [], a, a', _, _, h => by injection h with h; rw [h]
  | [], _ :: _, _, _, _, _, h => by simp [Mg.puts] at h
  | _ :: _, [], _, _, _, _, h => by simp [Mg.puts] at h
  | q :: r, f :: fs, a, a', hq, hn, h => by
    simp only [Mg.puts] at h
    cases hx : a.put q f with
    | none => rw [hx] at h; cases h
    | some a1 =>
      rw [hx] at h
      simp only [List.mem_cons, not_or] at hn
      rw [puts_keep hp r fs a1 a' (fun z hz => hq z (List.mem_cons_of_mem _ hz)) hn.2 h]
      exact (put_keep hp (hq q (List.mem_cons_self ..)) hn.1 hx).1
theorem pack_puts : ∀ (ps : List Nat) (fs : List (List UInt8)) (a a' : Mg), (∀ q ∈ ps, q ≤ 8) → ps.Nodup → a.puts ps fs = some a' → allX a'.partPack ps = some fs ∧ a'.kind = a.kind
  | [], [], a, a', _, _, h => by injection h with h; rw [h]; exact ⟨rfl, rfl⟩
  | [], _ :: _, _, _, _, _, h => by simp [Mg.puts] at h
  | _ :: _, [], _, _, _, _, h => by simp [Mg.puts] at h
  | q :: r, f :: fs, a, a', hq, hn, h => by
    simp only [Mg.puts] at h
    cases hx : a.put q f with
    | none => rw [hx] at h; cases h
    | some a1 =>
      rw [hx] at h
      simp only [List.nodup_cons] at hn
      have hq1 := hq q (List.mem_cons_self ..)
      have hqr : ∀ z ∈ r, z ≤ 8 := fun z hz => hq z (List.mem_cons_of_mem _ hz)
      obtain ⟨h1, h2⟩ := pack_puts r fs a1 a' hqr hn.2 h
      have h3 := puts_keep hq1 r fs a1 a' hqr hn.1 h
      rw [put_of hq1 hx] at h3
      simp only [allX, h3, h1]
      exact ⟨trivial, by rw [h2, put_kind hx]⟩
theorem pack_rdMg {m : Mg} {b : List UInt8} (h : rdMg b = some m) : m.pack = some b := by
  unfold rdMg at h
  split at h
  · rename_i f0 fs hs
    split at h
    · rename_i k hk
      split at h
      · obtain ⟨h1, h2⟩ := pack_puts _ _ _ _ parts_le parts_nodup h
        unfold Mg.pack
        rw [h2]
        simp only
        rw [h1]
        simp only
        rw [(enc_rdNum hk).1]
        exact rdSplit_join hs
      · cases h
    · cases h
  · cases h

/-- two letters, entries with the same bytes are the same -/
theorem lt_inj {l k : Lt} {b : List UInt8} (hl : l.ok = true) (hk : k.ok = true) (h : l.pack = some b) (h' : k.pack = some b) : l = k := by
  have h1 := rdLt_pack hl h
  rw [rdLt_pack hk h'] at h1
  injection h1 with h1
  exact h1.symm
theorem en_inj {l k : En} (hl : l.ok = true) (hk : k.ok = true) (h : l.pack = k.pack) : l = k := by
  have h1 := rdEn_pack hl
  rw [h, rdEn_pack hk] at h1
  injection h1 with h1
  exact h1.symm
/-- a list of fields ahead of other bytes -/
theorem join_prefix : ∀ (a b : List (List UInt8)) (rest : List UInt8), (∀ f ∈ a, f.length ≤ 65536) → (∀ f ∈ b, f.length ≤ 65536) → joinN a ++ rest = joinN b → ∃ more, b = a ++ more
  | [], b, rest, _, _, _ => ⟨b, rfl⟩
  | p :: r, [], rest, _, _, h => by
    have e := congrArg List.length h
    have := encN_pos p.length
    simp only [joinN, List.length_append, List.length_nil] at e
    omega
  | p :: r, q :: s, rest, hp, hq, h => by
    simp only [joinN] at h
    have h1 := fld_join (p := p) (more := joinN r ++ rest) (hp p (List.mem_cons_self ..))
    have h2 := fld_join (p := q) (more := joinN s) (hq q (List.mem_cons_self ..))
    rw [← h, List.append_assoc, h1] at h2
    injection h2 with _ h2
    injection h2 with h3 h4
    obtain ⟨more, hm⟩ := join_prefix r s rest (fun f hf => hp f (List.mem_cons_of_mem _ hf)) (fun f hf => hq f (List.mem_cons_of_mem _ hf)) h4
    exact ⟨more, by rw [hm, h3]; rfl⟩
theorem joinX_fields {ls : List (List UInt8)} {b : List UInt8} (h : joinX ls = some b) : b = joinN ls ∧ ls.length ≤ 1024 ∧ ∀ f ∈ ls, f.length ≤ 65536 := by
  unfold joinX at h
  split at h
  · cases h
  · rename_i h1
    injection h with h
    unfold joinBad longField at h1
    simp only [Bool.or_eq_true, decide_eq_true_eq, List.any_eq_true, not_or, not_exists, not_and] at h1
    refine ⟨h.symm, by omega, fun f hf => ?_⟩
    have := h1.2 f hf
    omega
theorem allX_len' {α β : Type} {f : α → Option β} : ∀ {xs : List α} {ys : List β}, allX f xs = some ys → ys.length = xs.length
  | [], ys, h => by simp only [allX, Option.some.injEq] at h; subst h; rfl
  | x :: r, ys, h => by
    simp only [allX] at h
    cases hx : f x with
    | none => rw [hx] at h; cases h
    | some y =>
      rw [hx] at h
      simp only at h
      cases hr : allX f r with
      | none => rw [hr] at h; cases h
      | some zs =>
        rw [hr] at h
        injection h with h
        subst h
        simp [allX_len' hr]
/-- a packed message's fields -/
theorem pack_rows {m : Mg} {b : List UInt8} (h : m.pack = some b) : ∃ rows, allX m.partPack (partsN m.kind) = some rows ∧ joinX (encI m.kind :: rows) = some b ∧ rows.length = (partsN m.kind).length := by
  unfold Mg.pack at h
  split at h
  · cases h
  · rename_i rows hr
    exact ⟨rows, hr, h, allX_len' hr⟩
/-- a front of a message's bytes is no message -/
theorem cut_none {m : Mg} {b : List UInt8} {k : Nat} (hk : kindB m.kind = true) (h : m.pack = some b) (hlt : k < b.length) : rdMg (b.take k) = none := by
  cases hr : rdMg (b.take k) with
  | none => rfl
  | some m' =>
    exfalso
    obtain ⟨rows, h1, h2, h3⟩ := pack_rows h
    have hf := (rdMg_facts hr).1
    obtain ⟨rows', g1, g2, g3⟩ := pack_rows (pack_rdMg hr)
    obtain ⟨e1, _, f1⟩ := joinX_fields h2
    obtain ⟨e2, _, f2⟩ := joinX_fields g2
    obtain ⟨more, hm⟩ := join_prefix (encI m'.kind :: rows') (encI m.kind :: rows) (b.drop k) f2 f1 (by rw [← e2, List.take_append_drop, e1])
    rw [List.cons_append] at hm
    injection hm with hm1 hm2
    have hr1 : 1 ≤ m.kind ∧ m.kind ≤ 14 := by unfold kindB at hk; simpa using hk
    have hr2 : 1 ≤ m'.kind ∧ m'.kind ≤ 14 := by unfold kindB at hf; simpa using hf
    have hke : m.kind = m'.kind := by
      have q1 := rdNum_enc (v := m.kind) (by omega)
      rw [hm1, rdNum_enc (v := m'.kind) (by omega)] at q1
      injection q1 with q1
      exact q1.symm
    have hl := congrArg List.length hm2
    rw [List.length_append, h3, g3, hke] at hl
    have hmn : more = [] := List.eq_nil_of_length_eq_zero (by omega)
    rw [hmn, List.append_nil] at hm2
    rw [hm1, hm2, ← e2] at e1
    have := congrArg List.length e1
    rw [List.length_take] at this
    omega
/-- a field more: no message -/
theorem more_none {m : Mg} {b : List UInt8} (hk : kindB m.kind = true) (h : m.pack = some b) : rdMg (b ++ [0]) = none := by
  cases hr : rdMg (b ++ [0]) with
  | none => rfl
  | some m' =>
    exfalso
    obtain ⟨rows, h1, h2, h3⟩ := pack_rows h
    have hf := (rdMg_facts hr).1
    obtain ⟨rows', g1, g2, g3⟩ := pack_rows (pack_rdMg hr)
    obtain ⟨e1, _, f1⟩ := joinX_fields h2
    obtain ⟨e2, _, f2⟩ := joinX_fields g2
    obtain ⟨more, hm⟩ := join_prefix (encI m.kind :: rows) (encI m'.kind :: rows') [0] f1 f2 (by rw [← e1, e2])
    rw [List.cons_append] at hm
    injection hm with hm1 hm2
    have hr1 : 1 ≤ m.kind ∧ m.kind ≤ 14 := by unfold kindB at hk; simpa using hk
    have hr2 : 1 ≤ m'.kind ∧ m'.kind ≤ 14 := by unfold kindB at hf; simpa using hf
    have hke : m'.kind = m.kind := by
      have q1 := rdNum_enc (v := m'.kind) (by omega)
      rw [hm1, rdNum_enc (v := m.kind) (by omega)] at q1
      injection q1 with q1
      exact q1.symm
    have hl := congrArg List.length hm2
    rw [List.length_append, h3, g3, hke] at hl
    have hmn : more = [] := List.eq_nil_of_length_eq_zero (by omega)
    rw [hmn, List.append_nil] at hm2
    rw [hm1, hm2, ← e1] at e2
    have := congrArg List.length e2
    simp at this
theorem pack_pos {m : Mg} {b : List UInt8} (h : m.pack = some b) : 0 < b.length := by
  obtain ⟨rows, h1, h2, h3⟩ := pack_rows h
  rw [(joinX_fields h2).1]
  have := encN_pos (encI m.kind).length
  simp only [joinN, List.length_append]
  omega
/-- what came of an encoding -/
theorem enc_cases (m : Mg) : (∃ b, m.encode = (0, b) ∧ kindB m.kind = true ∧ m.ok = true ∧ m.pack = some b) ∨ (∃ k, m.encode = (k, []) ∧ (k = 80 ∨ k = 81 ∨ k = 13)) := by
  unfold Mg.encode
  by_cases h1 : kindB m.kind = false
  · exact .inr ⟨80, by rw [if_pos h1], .inl rfl⟩
  · rw [if_neg h1]
    by_cases h2 : m.ok = false
    · exact .inr ⟨81, by rw [if_pos h2], .inr (.inl rfl)⟩
    · rw [if_neg h2]
      cases hp : m.pack with
      | none => exact .inr ⟨13, rfl, .inr (.inr rfl)⟩
      | some b => exact .inl ⟨b, rfl, by simpa using h1, by simpa using h2, rfl⟩
theorem dec_enc {m : Mg} {b : List UInt8} (hk : kindB m.kind = true) (hok : m.ok = true) (h : m.pack = some b) : decMg b = some m := by
  unfold decMg okX
  rw [rdMg_pack hk hok h]
  simp [hok]
theorem dec_ok {m : Mg} {b : List UInt8} (h : decMg b = some m) : m.encode = (0, b) ∧ m.wf ∧ kindB m.kind = true ∧ m.ok = true := by
  unfold decMg okX at h
  split at h
  · rename_i x hx
    split at h
    · rename_i ho
      injection h with h
      subst h
      have h1 := rdMg_facts hx
      refine ⟨?_, h1.2, h1.1, ho⟩
      unfold Mg.encode
      rw [if_neg (by rw [h1.1]; decide), if_neg (by rw [ho]; decide), pack_rdMg hx]
    · cases h
  · cases h
theorem dec_none {b : List UInt8} (h : rdMg b = none) : decMg b = none := by unfold decMg okX; rw [h]
end Go.Proofs.Ytmgmmbgjmnklkaa
