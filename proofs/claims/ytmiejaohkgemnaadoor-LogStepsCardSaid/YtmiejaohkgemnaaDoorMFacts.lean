import Derived.Test.YtmiejaohkgemnaaDoorLogDev9

/-
  Plain facts of logs on disks: what stays of an area; what calls make of a disk whose power lasts. Nothing of the program.
-/
namespace Go.Proofs.YtmiejaohkgemnaaDoor
open Go.RowKit
set_option linter.unusedVariables false
set_option maxRecDepth 100000

namespace Lg
theorem frames_front (g : Nat) : ∀ (ls : List (List UInt8)) (p j : Nat), (∀ l ∈ ls, l.length ≤ 65536) → ∃ i t, i ≤ ls.length ∧ (frames g p ls).take j = frames g p (ls.take i) ++ t ∧ cut t = none := by
  intro ls
  induction ls with
  | nil => intro p j _; exact ⟨0, [], by simp, by simp [frames], rfl⟩
  | cons l r ih =>
    intro p j hl
    rcases Nat.lt_or_ge j (frame g p l).length with h | h
    · refine ⟨0, (frame g p l).take j, by simp, ?_, cut_front g p l j (hl l (by simp)) h⟩
      simp only [frames, List.take_zero, List.nil_append]
      rw [List.take_append_of_le_length (by omega)]
    · obtain ⟨i, t, h1, h2, h3⟩ := ih (p + 1) (j - (frame g p l).length) (fun x hx => hl x (List.mem_cons_of_mem _ hx))
      refine ⟨i + 1, t, by simp; omega, ?_, h3⟩
      simp only [frames, List.take_succ_cons]
      rw [List.take_append, List.take_of_length_le h, h2, List.append_assoc]
theorem whole_front (g n : Nat) (ls : List (List UInt8)) (j : Nat) (hl : ∀ l ∈ ls, l.length ≤ 65536) (hj : (whole g n []).length ≤ j) : ∃ i t, i ≤ ls.length ∧ (whole g n ls).take j = whole g n (ls.take i) ++ t ∧ cut t = none := by
  obtain ⟨i, t, h1, h2, h3⟩ := frames_front g ls 1 (j - (frame g 0 (headB g n)).length) hl
  have hj' : (frame g 0 (headB g n)).length ≤ j := by simpa [whole, frames] using hj
  refine ⟨i, t, h1, ?_, h3⟩
  unfold whole
  rw [List.take_append, List.take_of_length_le hj', h2, List.append_assoc]
/-- a front that goes on behind so many records -/
theorem whole_keep (g n : Nat) (a b : List (List UInt8)) (j : Nat) (hl : ∀ l ∈ b, l.length ≤ 65536) (hj : (whole g n a).length ≤ j) : ∃ i t, i ≤ b.length ∧ (whole g n (a ++ b)).take j = whole g n (a ++ b.take i) ++ t ∧ cut t = none := by
  obtain ⟨i, t, h1, h2, h3⟩ := frames_front g b (1 + a.length) (j - (whole g n a).length) hl
  refine ⟨i, t, h1, ?_, h3⟩
  rw [whole_append, whole_append, List.take_append, List.take_of_length_le hj, h2, List.append_assoc]
theorem good_nil : good [] = none := rfl
theorem known0 : known 0 = true := rfl
theorem known1 : known 1 = true := rfl
section
variable {d0 d1 : List UInt8} {s0 s1 : Int} {gen : Nat} {ls : List (List UInt8)}
theorem lay0 (h : 0 ≤ s0) : lay ⟨-1, d0, d1, s0, s1⟩ 0 gen ls = (⟨-1, whole gen ls.length ls, d1, (whole gen ls.length ls).length, s1⟩, 0) := by
  have ht : (⟨-1, d0, d1, s0, s1⟩ : PD).trim 0 0 = (⟨-1, [], d1, 0, s1⟩, 0) := by
    unfold PD.trim
    rw [if_pos (by simp [known, PD.data]), if_neg (by show ¬ ((-1 : Int) = 0); omega)]
    simp only [PD.setData, PD.setSafe, PD.drew, drawn, PD.safe, PD.data, if_pos]
    simp
    omega
  have ha : (⟨-1, [], d1, 0, s1⟩ : PD).append 0 [whole gen ls.length ls] = (⟨-1, whole gen ls.length ls, d1, 0, s1⟩, 0) := by
    unfold PD.append
    rw [if_pos known0, if_neg (by show ¬ ((-1 : Int) = 0); omega)]
    simp [PD.setData, PD.drew, drawn, PD.data]
  unfold lay
  rw [ht]
  simp only
  rw [if_neg (by simp), ha]
  simp only
  rw [if_neg (by simp), sync_eq _ _ rfl (by show ¬ ((-1 : Int) = 0); omega)]
  simp [told, drawn]
theorem lay1 (h : 0 ≤ s1) : lay ⟨-1, d0, d1, s0, s1⟩ 1 gen ls = (⟨-1, d0, whole gen ls.length ls, s0, (whole gen ls.length ls).length⟩, 0) := by
  have ht : (⟨-1, d0, d1, s0, s1⟩ : PD).trim 1 0 = (⟨-1, d0, [], s0, 0⟩, 0) := by
    unfold PD.trim
    rw [if_pos (by simp [known, PD.data]), if_neg (by show ¬ ((-1 : Int) = 0); omega)]
    simp only [PD.setData, PD.setSafe, PD.drew, drawn, PD.safe, PD.data]
    simp
    omega
  have ha : (⟨-1, d0, [], s0, 0⟩ : PD).append 1 [whole gen ls.length ls] = (⟨-1, d0, whole gen ls.length ls, s0, 0⟩, 0) := by
    unfold PD.append
    rw [if_pos known1, if_neg (by show ¬ ((-1 : Int) = 0); omega)]
    simp [PD.setData, PD.drew, drawn, PD.data]
  unfold lay
  rw [ht]
  simp only
  rw [if_neg (by simp), ha]
  simp only
  rw [if_neg (by simp), sync_eq _ _ rfl (by show ¬ ((-1 : Int) = 0); omega)]
  simp [told, drawn]
theorem add0 {n : Nat} {list : List (List UInt8)} (hl : longs ls = false) : PL.add ⟨⟨-1, d0, d1, s0, s1⟩, 0, gen, n, list⟩ ls = (⟨⟨-1, d0 ++ frames gen (list.length + 1) ls, d1, s0, s1⟩, 0, gen, n, list ++ ls⟩, 0) := by
  unfold PL.add
  rw [if_neg (by simp [hl])]
  by_cases h0 : ls.length = 0
  · have : ls = [] := List.eq_nil_of_length_eq_zero h0
    subst this
    simp [frames]
  · have ha : (⟨-1, d0, d1, s0, s1⟩ : PD).append 0 [frames gen (list.length + 1) ls] = (⟨-1, d0 ++ frames gen (list.length + 1) ls, d1, s0, s1⟩, 0) := by
      unfold PD.append
      rw [if_pos known0, if_neg (by show ¬ ((-1 : Int) = 0); omega)]
      simp [PD.setData, PD.drew, drawn, PD.data]
    rw [if_neg h0]
    simp only
    rw [ha]
    simp
theorem add1 {n : Nat} {list : List (List UInt8)} (hl : longs ls = false) : PL.add ⟨⟨-1, d0, d1, s0, s1⟩, 1, gen, n, list⟩ ls = (⟨⟨-1, d0, d1 ++ frames gen (list.length + 1) ls, s0, s1⟩, 1, gen, n, list ++ ls⟩, 0) := by
  unfold PL.add
  rw [if_neg (by simp [hl])]
  by_cases h0 : ls.length = 0
  · have : ls = [] := List.eq_nil_of_length_eq_zero h0
    subst this
    simp [frames]
  · have ha : (⟨-1, d0, d1, s0, s1⟩ : PD).append 1 [frames gen (list.length + 1) ls] = (⟨-1, d0, d1 ++ frames gen (list.length + 1) ls, s0, s1⟩, 0) := by
      unfold PD.append
      rw [if_pos known1, if_neg (by show ¬ ((-1 : Int) = 0); omega)]
      simp [PD.setData, PD.drew, drawn, PD.data]
    rw [if_neg h0]
    simp only
    rw [ha]
    simp
theorem sync0 {n : Nat} {list : List (List UInt8)} : PL.sync ⟨⟨-1, d0, d1, s0, s1⟩, 0, gen, n, list⟩ = (⟨⟨-1, d0, d1, d0.length, s1⟩, 0, gen, n, list⟩, 0) := by
  unfold PL.sync
  simp only
  rw [sync_eq _ _ rfl (by show ¬ ((-1 : Int) = 0); omega)]
  simp [told, drawn]
theorem sync1 {n : Nat} {list : List (List UInt8)} : PL.sync ⟨⟨-1, d0, d1, s0, s1⟩, 1, gen, n, list⟩ = (⟨⟨-1, d0, d1, s0, d1.length⟩, 1, gen, n, list⟩, 0) := by
  unfold PL.sync
  simp only
  rw [sync_eq _ _ rfl (by show ¬ ((-1 : Int) = 0); omega)]
  simp [told, drawn]
theorem layL0 {n : Nat} {list : List (List UInt8)} (hl : longs ls = false) (h : 0 ≤ s1) : PL.lay ⟨⟨-1, d0, d1, s0, s1⟩, 0, gen, n, list⟩ ls = (⟨⟨-1, d0, whole (gen + 1) ls.length ls, s0, (whole (gen + 1) ls.length ls).length⟩, 1, gen + 1, ls.length, ls⟩, 0) := by
  unfold PL.lay
  rw [if_neg (by simp [hl])]
  simp only
  rw [show (1 : Int) - 0 = 1 by omega, lay1 h]
  simp
theorem layL1 {n : Nat} {list : List (List UInt8)} (hl : longs ls = false) (h : 0 ≤ s0) : PL.lay ⟨⟨-1, d0, d1, s0, s1⟩, 1, gen, n, list⟩ ls = (⟨⟨-1, whole (gen + 1) ls.length ls, d1, (whole (gen + 1) ls.length ls).length, s1⟩, 0, gen + 1, ls.length, ls⟩, 0) := by
  unfold PL.lay
  rw [if_neg (by simp [hl])]
  simp only
  rw [show (1 : Int) - 1 = 0 by omega, lay0 h]
  simp
end
/-- the empty area -/
def H0 : List UInt8 := whole 1 0 []
theorem H0_le : H0.length ≤ 31 := by have := whole_le (g := 1) (n := 0) (ls := []) (by omega) (by omega) (by simp); simpa [H0, rowsW] using this
/-- the log on a new disk -/
def L0 : PL := ⟨⟨-1, H0, [], H0.length, 0⟩, 0, 1, 0, []⟩
theorem opn_new : opn (PD.new (-1)) = (L0, 0) := by
  have h : best (PD.new (-1)) = none := rfl
  rw [opn_none h]
  have : PD.new (-1) = ⟨-1, [], [], 0, 0⟩ := rfl
  rw [this, lay0 (by omega)]
  rfl
theorem L0_good : Good L0 := ⟨rfl, .inl rfl, by decide, by decide, by decide, Nat.le_refl _, by simp [L0]⟩
end Lg
end Go.Proofs.YtmiejaohkgemnaaDoor

/-
  Plain facts of logs on disks: openings, and what a loss of power leaves. Nothing of the program.
-/
namespace Go.Proofs.YtmiejaohkgemnaaDoor
open Go.RowKit
set_option linter.unusedVariables false
set_option maxRecDepth 100000

namespace PD
theorem trim_down {P : PD} {a : Int} {k : Nat} (ha : known a = true) (hk : k ≤ (P.data a).length) (hp : P.power = 0) : P.trim a k = (P, 40) := by
  unfold trim
  rw [if_pos (by simp [ha]; omega), if_pos hp]
theorem trim_ok {P : PD} {a : Int} {k : Nat} (ha : known a = true) (hk : k ≤ (P.data a).length) (hp : P.power ≠ 0) :
    (P.trim a k).2 = 0 ∧ (P.trim a k).1.data a = (P.data a).take k ∧ (∀ b, known b = true → b ≠ a → (P.trim a k).1.data b = P.data b) ∧ (P.trim a k).1.power = drawn P.power := by
  have e : P.trim a k = ((P.drew.setData a ((P.data a).take k)).setSafe a (if (k : Int) < P.safe a then k else P.safe a), 0) := by
    unfold trim
    rw [if_pos (by simp [ha]; omega), if_neg hp]
    simp
  rw [e]
  rcases known_cases ha with rfl | rfl
  · refine ⟨rfl, rfl, fun b hb hne => ?_, rfl⟩
    rcases known_cases hb with rfl | rfl
    · exact absurd rfl hne
    · rfl
  · refine ⟨rfl, rfl, fun b hb hne => ?_, rfl⟩
    rcases known_cases hb with rfl | rfl
    · rfl
    · exact absurd rfl hne
end PD
namespace Lg
theorem lay_data {D : PD} {a : Int} {gen : Nat} {ls : List (List UInt8)} (ha : known a = true) (h : (lay D a gen ls).2 = 0) : (lay D a gen ls).1.data a = whole gen ls.length ls := by
  unfold lay at h ⊢
  by_cases h1 : (D.trim a 0).2 = 0
  · rw [if_neg (by simp [h1])] at h ⊢
    by_cases h2 : ((D.trim a 0).1.append a [whole gen ls.length ls]).2 = 0
    · rw [if_neg (by simp [h2])] at h ⊢
      have hp : D.power ≠ 0 := fun hp => by
        have := PD.trim_down (P := D) (a := a) (k := 0) ha (by omega) hp
        rw [show ((0 : Nat) : Int) = 0 from rfl] at this
        rw [this] at h1
        exact absurd h1 (by simp)
      obtain ⟨_, t2, _, _⟩ := PD.trim_ok (P := D) (a := a) (k := 0) ha (by omega) hp
      rw [show ((0 : Nat) : Int) = 0 from rfl] at t2
      generalize (D.trim a 0).1 = T at *
      have hT : T.power ≠ 0 := fun hp => by
        unfold PD.append at h2
        rw [if_pos ha, if_pos hp] at h2
        exact absurd h2 (by simp)
      have ea : T.append a [whole gen ls.length ls] = (T.drew.setData a (T.data a ++ whole gen ls.length ls), 0) := by
        unfold PD.append
        rw [if_pos ha, if_neg hT]
        simp
      rw [ea] at h ⊢
      simp only at h ⊢
      have hU : ((T.drew.setData a (T.data a ++ whole gen ls.length ls)).sync [a]).1.data a = (T.drew.setData a (T.data a ++ whole gen ls.length ls)).data a := by
        by_cases hz : (T.drew.setData a (T.data a ++ whole gen ls.length ls)).power = 0
        · unfold PD.sync
          rw [if_pos (show [a].all known = true by simpa using ha), if_pos hz]
        · rw [sync_eq _ _ (by simpa using ha) hz]
          rcases known_cases ha with rfl | rfl <;> rfl
      rw [hU, t2]
      rcases known_cases ha with rfl | rfl <;> simp [PD.setData, PD.data]
    · rw [if_pos h2] at h; exact absurd h h2
  · rw [if_pos h1] at h; exact absurd h h1
theorem findD_rest {D : PD} {a : Int} {x : Ar} (h : best D = some (a, x)) : (x.rest.length = 0 → findD D = (D, 0)) ∧ (x.rest.length ≠ 0 → findD D = D.trim a (((D.data a).length - x.rest.length : Nat) : Int)) := by
  unfold findD
  rw [h]
  exact ⟨fun hr => if_pos (show stB (some (a, x)) = 0 from hr), fun hr => if_neg (show ¬ stB (some (a, x)) = 0 from hr)⟩
theorem opn_best {D : PD} {a : Int} {x : Ar} (h : best D = some (a, x)) (hp : x.rest = [] ∨ D.power ≠ 0) : (opn D).2 = 0 ∧ (opn D).1.a = a ∧ (opn D).1.gen = x.gen ∧ (opn D).1.n = x.laid ∧ (opn D).1.list = x.list ∧ (opn D).1.D.data a = whole x.gen x.laid x.list := by
  obtain ⟨ha, hg⟩ := best_some h
  have hka : known a = true := by rcases ha with rfl | rfl <;> rfl
  obtain ⟨har, _, _⟩ := good_some hg
  obtain ⟨hd, _, _, _⟩ := area_spec har
  rw [opn_some h]
  refine ⟨?_, rfl, rfl, rfl, rfl, ?_⟩
  · show (findD D).2 = 0
    by_cases hr : x.rest.length = 0
    · rw [(findD_rest h).1 hr]
    · rw [(findD_rest h).2 hr]
      exact (PD.trim_ok hka (by omega) (hp.resolve_left (fun e => hr (by rw [e]; rfl)))).1
  · show (findD D).1.data a = _
    by_cases hr : x.rest.length = 0
    · rw [(findD_rest h).1 hr, hd, List.eq_nil_of_length_eq_zero hr, List.append_nil]
    · rw [(findD_rest h).2 hr, (PD.trim_ok hka (by omega) (hp.resolve_left (fun e => hr (by rw [e]; rfl)))).2.1, hd]
      rw [List.take_left' (by simp)]
theorem opn_down {D : PD} {a : Int} {x : Ar} (h : best D = some (a, x)) (hr : x.rest ≠ []) (hp : D.power = 0) : opn D = (⟨D, a, x.gen, x.laid, x.list⟩, 40) := by
  obtain ⟨ha, hg⟩ := best_some h
  have hka : known a = true := by rcases ha with rfl | rfl <;> rfl
  have hr' : x.rest.length ≠ 0 := fun e => hr (List.eq_nil_of_length_eq_zero e)
  have : findD D = (D, 40) := by
    rw [(findD_rest h).2 hr']
    exact PD.trim_down hka (by omega) hp
  rw [opn_some h, this]
/-- what is opened is a log -/
theorem opn_good {D : PD} (h : (opn D).2 = 0) : Good (opn D).1 := by
  cases hb : best D with
  | none =>
    rw [opn_none hb] at h ⊢
    exact ⟨lay_data rfl h, .inl rfl, by simp, by simp, by simp, Nat.le_refl _, by simp⟩
  | some q =>
    obtain ⟨a, x⟩ := q
    obtain ⟨ha, hg⟩ := best_some hb
    obtain ⟨har, h1, h2⟩ := good_some hg
    obtain ⟨hd, hrows, hgn, hn⟩ := area_spec har
    have hor : x.rest = [] ∨ D.power ≠ 0 := by
      by_cases hr : x.rest = []
      · exact .inl hr
      · refine .inr fun hp => ?_
        rw [opn_down hb hr hp] at h
        exact absurd h (by simp)
    obtain ⟨_, e1, e2, e3, e4, e5⟩ := opn_best hb hor
    exact ⟨by rw [e1, e2, e3, e4]; exact e5, by rw [e1]; exact ha, by rw [e2]; exact h1, by rw [e2]; exact hgn, by rw [e3]; exact hn, by rw [e3, e4]; exact h2, by rw [e4]; exact hrows⟩
theorem best_0 {D : PD} {x : Ar} (h0 : good D.d0 = some x) (h1 : ∀ y, good D.d1 = some y → ¬ x.gen < y.gen) : best D = some (0, x) := by
  unfold best upd
  rw [h0]
  cases h : good D.d1 with
  | none => rfl
  | some y => simp only; rw [if_neg (h1 y h)]
theorem best_1 {D : PD} {x : Ar} (h0 : good D.d1 = some x) (h1 : ∀ y, good D.d0 = some y → y.gen < x.gen) : best D = some (1, x) := by
  unfold best upd
  rw [h0]
  cases h : good D.d0 with
  | none => rfl
  | some y => simp only; rw [if_pos (h1 y h)]
theorem crash_eq (P : PD) (ks : List Int) (q : Int) (hf : P.Fine) : ∃ j0 j1 : Nat, P.s0 ≤ j0 ∧ j0 ≤ P.d0.length ∧ P.s1 ≤ j1 ∧ j1 ≤ P.d1.length ∧ P.crash ks q = ⟨q, P.d0.take j0, P.d1.take j1, (P.d0.take j0).length, (P.d1.take j1).length⟩ := by
  obtain ⟨f1, f2, f3, f4⟩ := hf
  have e0 := left_eq P.d0 P.s0 (ks.getD 0 0) f1 f2
  have e1 := left_eq P.d1 P.s1 (ks.getD 1 0) f3 f4
  exact ⟨PD.left P.d0 P.s0 (ks.getD 0 0), PD.left P.d1 P.s1 (ks.getD 1 0), by omega, by omega, by omega, by omega, rfl⟩
theorem crash_all (q p : Int) (e0 e1 : List UInt8) : (⟨q, e0, e1, e0.length, e1.length⟩ : PD).crash [] p = ⟨p, e0, e1, e0.length, e1.length⟩ := by
  unfold PD.crash
  simp [PD.left_all]
end Lg
end Go.Proofs.YtmiejaohkgemnaaDoor

/-
  LogPrefix: plain facts. Nothing of the program.
-/
namespace Go.Proofs.YtmiejaohkgemnaaDoor
open Go.RowKit
set_option linter.unusedVariables false
set_option maxRecDepth 100000

theorem i64_and1 (n : Int) : bits .and .i64 n 1 = n % 2 := by
  have h1 : (BitVec.ofInt 64 1).toNat = 2 ^ 1 - 1 := by decide
  have key : (BitVec.ofInt 64 n &&& BitVec.ofInt 64 1).toNat = (n % ((2 ^ 64 : Nat) : Int)).toNat % 2 ^ 1 := by
    rw [BitVec.toNat_and, BitVec.toNat_ofInt, h1, Nat.and_two_pow_sub_one_eq_mod]
  show IntKind.i64.wrap ((BitVec.ofInt 64 n &&& BitVec.ofInt 64 1).toNat : Nat) = n % 2
  rw [key, IntKind.wrap_i64]
  omega
theorem i64_and7 (n : Int) : bits .and .i64 n 7 = n % 8 := by
  have h1 : (BitVec.ofInt 64 7).toNat = 2 ^ 3 - 1 := by decide
  have key : (BitVec.ofInt 64 n &&& BitVec.ofInt 64 7).toNat = (n % ((2 ^ 64 : Nat) : Int)).toNat % 2 ^ 3 := by
    rw [BitVec.toNat_and, BitVec.toNat_ofInt, h1, Nat.and_two_pow_sub_one_eq_mod]
  show IntKind.i64.wrap ((BitVec.ofInt 64 n &&& BitVec.ofInt 64 7).toNat : Nat) = n % 8
  rw [key, IntKind.wrap_i64]
  omega
theorem rows_len (ls : List (List UInt8)) : ls.length ≤ rowsW ls := by
  induction ls with
  | nil => simp
  | cons x r ih => simp only [List.length_cons, rowsW]; omega
theorem rows_each {ls : List (List UInt8)} {N : Nat} (h : rowsW ls ≤ N) : ∀ l ∈ ls, l.length ≤ N := by
  induction ls with
  | nil => simp
  | cons x r ih =>
    simp only [rowsW] at h
    intro l hl
    rcases List.mem_cons.1 hl with rfl | hl
    · omega
    · exact ih (by omega) l hl
theorem rowsW_take (ls : List (List UInt8)) (k : Nat) : rowsW (ls.take k) ≤ rowsW ls := by
  have := rowsW_append (ls.take k) (ls.drop k)
  rw [List.take_append_drop] at this
  omega
namespace Lg
theorem len_lay (D : PD) (a : Int) (gen : Nat) (ls : List (List UInt8)) : (lay D a gen ls).1.d0.length ≤ D.d0.length + (whole gen ls.length ls).length ∧ (lay D a gen ls).1.d1.length ≤ D.d1.length + (whole gen ls.length ls).length := by
  have h1 := D.len_trim a 0
  have h2 := (D.trim a 0).1.len_append a [whole gen ls.length ls]
  have h3 := ((D.trim a 0).1.append a [whole gen ls.length ls]).1.len_sync [a]
  have hf : [whole gen ls.length ls].flatten.length = (whole gen ls.length ls).length := by simp
  unfold lay
  split
  · omega
  · split
    · omega
    · omega
theorem len_opn (D : PD) : (opn D).1.D.d0.length ≤ D.d0.length + 31 ∧ (opn D).1.D.d1.length ≤ D.d1.length + 31 := by
  cases hb : best D with
  | none =>
    rw [opn_none hb]
    have := len_lay D 0 1 []
    have := H0_le
    unfold H0 at this
    simp only [List.length_nil] at *
    omega
  | some q =>
    obtain ⟨a, x⟩ := q
    rw [opn_some hb]
    by_cases hr : x.rest.length = 0
    · rw [(findD_rest hb).1 hr]; simp only; omega
    · rw [(findD_rest hb).2 hr]
      have := D.len_trim a (((D.data a).length - x.rest.length : Nat) : Int)
      simp only
      omega
theorem whole_all (g n : Nat) (a b : List (List UInt8)) (hg : g ≤ 1000) (hn : n ≤ 10000) (h : rowsW a + rowsW b ≤ 3000) : (whole g n (a ++ b)).length ≤ 39031 := by
  have hw : rowsW (a ++ b) ≤ 3000 := by rw [rowsW_append]; exact h
  have := whole_le (g := g) (n := n) (ls := a ++ b) (by omega) (by omega) (fun l hl => by have := rows_each hw l hl; omega)
  omega
/-- LogPrefix's log: laid or not, and so many added behind -/
def pk (lay : Bool) (a b : List (List UInt8)) (k : Nat) : PL :=
  if lay then ⟨⟨-1, whole 1 0 a, whole 2 a.length (a ++ b.take k), H0.length, (whole 2 a.length a).length⟩, 1, 2, a.length, a ++ b.take k⟩
  else ⟨⟨-1, whole 1 0 (a ++ b.take k), [], (whole 1 0 a).length, 0⟩, 0, 1, 0, a ++ b.take k⟩
def pa (a : List (List UInt8)) : PL := ⟨⟨-1, whole 1 0 a, [], H0.length, 0⟩, 0, 1, 0, a⟩
def pl (a : List (List UInt8)) : PL := ⟨⟨-1, whole 1 0 a, whole 2 a.length a, H0.length, (whole 2 a.length a).length⟩, 1, 2, a.length, a⟩
section
variable {a b : List (List UInt8)}
theorem pa_is (h : longs a = false) : L0.add a = (pa a, 0) := by
  have := add0 (d0 := H0) (d1 := []) (s0 := H0.length) (s1 := 0) (gen := 1) (n := 0) (list := []) h
  unfold L0 pa
  rw [this]
  simp only [List.length_nil, List.nil_append, H0]
  rw [show whole 1 0 a = whole 1 0 ([] ++ a) from rfl, whole_append]
  rfl
theorem pl_is (h : longs a = false) : (pa a).lay a = (pl a, 0) := layL0 h (Int.le_refl _)
theorem pk_sync (lay : Bool) : (if lay then pl a else pa a).sync = (pk lay a b 0, 0) := by
  cases lay
  · show (pa a).sync = (pk false a b 0, 0)
    unfold pa
    rw [sync0]
    simp [pk]
  · show (pl a).sync = (pk true a b 0, 0)
    unfold pl
    rw [sync1]
    simp [pk]
theorem pk_add (lay : Bool) (k : Nat) (hk : k < b.length) (hl : (b.getD k []).length ≤ 65536) : (pk lay a b k).add [b.getD k []] = (pk lay a b (k + 1), 0) := by
  have hlo : longs [b.getD k []] = false := longs_of (by simpa using hl)
  have hs := take_snocD b [] k hk
  have hw : ∀ g n, whole g n (a ++ b.take (k + 1)) = whole g n (a ++ b.take k) ++ frames g ((a ++ b.take k).length + 1) [b.getD k []] := fun g n => by
    rw [hs, ← List.append_assoc, whole_append, Nat.add_comm]
  cases lay
  · show PL.add ⟨⟨-1, whole 1 0 (a ++ b.take k), [], (whole 1 0 a).length, 0⟩, 0, 1, 0, a ++ b.take k⟩ [b.getD k []] = _
    rw [add0 hlo, ← hw 1 0]
    simp only [pk]
    rw [hs, List.append_assoc]
    rfl
  · show PL.add ⟨⟨-1, whole 1 0 a, whole 2 a.length (a ++ b.take k), H0.length, (whole 2 a.length a).length⟩, 1, 2, a.length, a ++ b.take k⟩ [b.getD k []] = _
    rw [add1 hlo, ← hw 2 a.length]
    simp only [pk]
    rw [hs, List.append_assoc]
    rfl
end
/-- an opening behind a loss of power: it comes at once, or behind another one -/
def Comes (D : PD) (list : List (List UInt8)) : Prop :=
  ((opn D).2 = 0 ∧ (opn D).1.list = list) ∨ ((opn D).2 = 40 ∧ (opn ((opn D).1.D.crash [] (-1))).2 = 0 ∧ (opn ((opn D).1.D.crash [] (-1))).1.list = list)
theorem comes_best {q : Int} {e0 e1 : List UInt8} {c : Int} {x : Ar} (h : best ⟨q, e0, e1, e0.length, e1.length⟩ = some (c, x)) : Comes ⟨q, e0, e1, e0.length, e1.length⟩ x.list := by
  by_cases hp : x.rest = [] ∨ q ≠ 0
  · obtain ⟨h1, _, _, _, h2, _⟩ := opn_best h hp
    exact .inl ⟨h1, h2⟩
  · have hr : x.rest ≠ [] := fun e => hp (.inl e)
    have hq : q = 0 := Decidable.byContradiction fun e => hp (.inr e)
    have hd := opn_down h hr hq
    refine .inr ?_
    rw [hd]
    simp only
    rw [crash_all]
    have h' : best ⟨-1, e0, e1, e0.length, e1.length⟩ = some (c, x) := h
    obtain ⟨h1, _, _, _, h2, _⟩ := opn_best h' (.inr (by show (-1 : Int) ≠ 0; omega))
    exact ⟨trivial, h1, h2⟩
theorem pk_fine (lay : Bool) (a b : List (List UInt8)) (k : Nat) : (pk lay a b k).D.Fine := by
  cases lay
  · refine ⟨by show (0 : Int) ≤ ((whole 1 0 a).length : Int); omega, ?_, Int.le_refl _, Int.le_refl _⟩
    show ((whole 1 0 a).length : Int) ≤ ((whole 1 0 (a ++ b.take k)).length : Int)
    rw [whole_append, List.length_append]
    omega
  · refine ⟨by show (0 : Int) ≤ (H0.length : Int); omega, ?_, by show (0 : Int) ≤ ((whole 2 a.length a).length : Int); omega, ?_⟩
    · show (H0.length : Int) ≤ ((whole 1 0 a).length : Int)
      have : whole 1 0 a = H0 ++ frames 1 1 a := by rw [show whole 1 0 a = whole 1 0 ([] ++ a) from rfl, whole_append]; rfl
      rw [this, List.length_append]
      omega
    · show ((whole 2 a.length a).length : Int) ≤ ((whole 2 a.length (a ++ b.take k)).length : Int)
      rw [whole_append, List.length_append]
      omega
/-- behind a loss of power: the synced ones, and a front of the others -/
theorem prefix_comes (lay : Bool) (a b : List (List UInt8)) (ks : List Int) (q : Int) (ha : ∀ l ∈ a, l.length ≤ 65536) (hb : ∀ l ∈ b, l.length ≤ 65536) (hn : a.length < 4611686018427387904) :
    ∃ i, i ≤ b.length ∧ Comes ((pk lay a b b.length).D.crash ks q) (a ++ b.take i) := by
  obtain ⟨j0, j1, h0, h0', h1, h1', he⟩ := crash_eq (pk lay a b b.length).D ks q (pk_fine lay a b b.length)
  rw [he]
  have hall : ∀ i, ∀ l ∈ a ++ b.take i, l.length ≤ 65536 := fun i l hl => by
    rcases List.mem_append.1 hl with hl | hl
    · exact ha l hl
    · exact hb l (List.mem_of_mem_take hl)
  cases lay
  · have e0 : (pk false a b b.length).D.d0 = whole 1 0 (a ++ b) := by show whole 1 0 (a ++ b.take b.length) = _; rw [List.take_length]
    have e1 : (pk false a b b.length).D.d1 = [] := rfl
    have es : (pk false a b b.length).D.s0 = ((whole 1 0 a).length : Int) := rfl
    obtain ⟨i, t, hi, ht, hc⟩ := whole_keep 1 0 a b j0 hb (by omega)
    rw [e0, e1, ht, List.take_nil]
    refine ⟨i, hi, ?_⟩
    have hg := good_whole (g := 1) (n := 0) (ls := a ++ b.take i) (t := t) (by omega) (by omega) (by omega) (by omega) (hall i) hc
    have hbest : best ⟨q, whole 1 0 (a ++ b.take i) ++ t, [], (whole 1 0 (a ++ b.take i) ++ t).length, ([] : List UInt8).length⟩ = some (0, ⟨1, 0, a ++ b.take i, t⟩) := best_0 hg (fun y hy => by cases hy)
    exact comes_best hbest
  · have e0 : (pk true a b b.length).D.d0 = whole 1 0 a := rfl
    have e1 : (pk true a b b.length).D.d1 = whole 2 a.length (a ++ b) := by show whole 2 a.length (a ++ b.take b.length) = _; rw [List.take_length]
    have es0 : (pk true a b b.length).D.s0 = (H0.length : Int) := rfl
    have es1 : (pk true a b b.length).D.s1 = ((whole 2 a.length a).length : Int) := rfl
    obtain ⟨i, t, hi, ht, hc⟩ := whole_keep 2 a.length a b j1 hb (by omega)
    obtain ⟨i', t', hi', ht', hc'⟩ := whole_front 1 0 a j0 ha (by show H0.length ≤ j0; omega)
    rw [e0, e1, ht, ht']
    refine ⟨i, hi, ?_⟩
    have hg := good_whole (g := 2) (n := a.length) (ls := a ++ b.take i) (t := t) (by omega) (by omega) (by simp) hn (hall i) hc
    have hg' := good_whole (g := 1) (n := 0) (ls := a.take i') (t := t') (by omega) (by omega) (by omega) (by omega) (fun l hl => ha l (List.mem_of_mem_take hl)) hc'
    have hbest : best ⟨q, whole 1 0 (a.take i') ++ t', whole 2 a.length (a ++ b.take i) ++ t, (whole 1 0 (a.take i') ++ t').length, (whole 2 a.length (a ++ b.take i) ++ t).length⟩ = some (1, ⟨2, a.length, a ++ b.take i, t⟩) :=
      best_1 hg (fun y hy => by
        have hy' : good (whole 1 0 (a.take i') ++ t') = some y := hy
        rw [hg'] at hy'
        injection hy' with hy'
        rw [← hy']
        show 1 < 2
        omega)
    exact comes_best hbest
end Lg
end Go.Proofs.YtmiejaohkgemnaaDoor
