import Derived.Test.YtgniocgcfldiaaaNum
namespace Go.Proofs.Ytgniocgcfldiaaa
open Go.RowKit
open Pk

/-- what Go makes of s[k:] at capacity c -/
def cutA (A : Option Addr) (c k : Nat) : Option Addr := if c = k then A else A.map (·.add k)

/-- cutNum's answer -/
def CutPost (A : Option Addr) (n c : Nat) (l : List UInt8) (w : World) (e : Ending) (w' : World) : Prop :=
  (∃ m, w' = w.drewN m) ∧
  (((rdN l).2.2 = 0 ∧ e = .returned (.tuple #[.int .i64 (rdN l).1, .slice (cutA A c (rdN l).2.1) (n - (rdN l).2.1) (c - (rdN l).2.1), .int .i64 0])) ∨
   ((rdN l).2.2 ≠ 0 ∧ e = .returned (.tuple #[.int .i64 0, .slice none 0 0, .int .i64 (rdN l).2.2])))

/-- a group is laid on top -/
theorem or_group {a g k : Nat} (ha : a < 2 ^ (7 * k)) (hg : g < 128) (hk : k < 9) (h8 : k = 8 → g ≤ 63) :
    bits .or .i64 (a : Int) (wrap64 ((g : Int) * 2 ^ (k * 7))) = ((a + g * 2 ^ (7 * k) : Nat) : Int) := by
  have hp : 2 ^ (7 * k) ≤ 2 ^ 56 := Nat.pow_le_pow_right (by omega) (by omega)
  have hb : g * 2 ^ (7 * k) + 2 ^ (7 * k) ≤ 2 ^ 62 := by
    have e : g * 2 ^ (7 * k) + 2 ^ (7 * k) = (g + 1) * 2 ^ (7 * k) := by rw [Nat.add_mul]; omega
    rw [e]
    by_cases h : k = 8
    · subst h
      have := h8 rfl
      exact Nat.le_trans (Nat.mul_le_mul_right _ (show g + 1 ≤ 64 by omega)) (by decide)
    · have h2 : 2 ^ (7 * k) ≤ 2 ^ 49 := Nat.pow_le_pow_right (by omega) (by omega)
      exact Nat.le_trans (Nat.mul_le_mul (show g + 1 ≤ 128 by omega) h2) (by decide)
  have ew : wrap64 ((g : Int) * 2 ^ (k * 7)) = ((g * 2 ^ (7 * k) : Nat) : Int) := by
    have e1 : ((g : Int) * 2 ^ (k * 7)) = ((g * 2 ^ (7 * k) : Nat) : Int) := by rw [Nat.mul_comm k 7]; simp
    rw [e1]
    generalize g * 2 ^ (7 * k) = x at *
    unfold wrap64
    omega
  rw [ew]
  have hor : a ||| g * 2 ^ (7 * k) = a + g * 2 ^ (7 * k) := by
    have := Nat.two_pow_add_eq_or_of_lt ha g
    rw [Nat.mul_comm, Nat.add_comm] at this
    rw [this, Nat.or_comm, Nat.mul_comm]
  have h1 : (BitVec.ofInt 64 (a : Int)).toNat = a := by
    rw [BitVec.ofInt_natCast, BitVec.toNat_ofNat]; exact Nat.mod_eq_of_lt (by omega)
  have h2 : (BitVec.ofInt 64 ((g * 2 ^ (7 * k) : Nat) : Int)).toNat = g * 2 ^ (7 * k) := by
    rw [BitVec.ofInt_natCast, BitVec.toNat_ofNat]; exact Nat.mod_eq_of_lt (by omega)
  show IntKind.i64.wrap ((BitVec.ofInt 64 (a : Int) ||| BitVec.ofInt 64 ((g * 2 ^ (7 * k) : Nat) : Int)).toNat : Int) = _
  rw [BitVec.toNat_or, h1, h2, hor, IntKind.wrap_i64]
  generalize g * 2 ^ (7 * k) = x at *
  omega

theorem grow_lt {a g k : Nat} (ha : a < 2 ^ (7 * k)) (hg : g < 128) : a + g * 2 ^ (7 * k) < 2 ^ (7 * (k + 1)) := by
  have e : 2 ^ (7 * (k + 1)) = 128 * 2 ^ (7 * k) := by rw [Nat.mul_add, Nat.pow_add]; omega
  have : (g + 1) * 2 ^ (7 * k) ≤ 128 * 2 ^ (7 * k) := Nat.mul_le_mul_right _ (by omega)
  rw [Nat.add_mul] at this
  omega

theorem cut_done {A A' : Option Addr} {n n' c c' k v m : Nat} {a' : Int} {l : List UInt8} {w : World} (hres : Hid (rdN l = (v, k, 0))) (h1 : a' = (v : Int)) (h2 : A' = cutA A c k) (h3 : n' = n - k) (h4 : c' = c - k) :
    CutPost A n c l w (.returned (.tuple #[.int .i64 a', .slice A' n' c', .int .i64 0])) (w.drewN m) := by
  refine ⟨⟨m, rfl⟩, .inl ?_⟩
  rw [hres.out, h1, h2, h3, h4]
  exact ⟨rfl, rfl⟩
theorem cut_bad {A : Option Addr} {n c m : Nat} {l : List UInt8} {w : World} {k : Nat} (hres : Hid (rdN l = (0, 0, k))) (hk : k ≠ 0) :
    CutPost A n c l w (.returned (.tuple #[.int .i64 0, .slice none 0 0, .int .i64 (k : Int)])) (w.drewN m) := by
  refine ⟨⟨m, rfl⟩, .inr ?_⟩
  rw [hres.out]
  exact ⟨hk, rfl⟩
theorem cutA_end (A : Option Addr) (k : Nat) : A = cutA A k k := by simp [cutA]
theorem cutA_mid {a : Addr} {c k : Nat} (h : ¬ c = k) (hk : k ≠ 0) : some { block := a.block, off := a.off + k } = cutA (some a) c k := by simp [cutA, Addr.add, h, hk]

theorem rd_step {l : List UInt8} {k a : Nat} (hk : k < l.length) : rd k a (l.drop k) =
    if (k = 8 ∧ (128 ≤ l[k].toNat ∨ 63 < l[k].toNat % 128)) ∨ (l[k].toNat = 0 ∧ 0 < k) then (0, 0, 12)
    else if l[k].toNat < 128 then (a + l[k].toNat * 2 ^ (7 * k), k + 1, 0)
    else rd (k + 1) (a + l[k].toNat % 128 * 2 ^ (7 * k)) (l.drop (k + 1)) := by
  rw [List.drop_eq_getElem_cons hk, rd]

set_option maxHeartbeats 1600000 in
set_option maxRecDepth 100000 in
theorem cutNum_any (A : Option Addr) (n c : Nat) (l : List UInt8) (w : World) (h : Rd w A n (l.map bv)) (hc : n ≤ c) (hm : c ≤ maxLen) :
    Calls Try.prog 39 #[.slice A n c] w (CutPost A n c l w) := by
  unfold maxLen at hm
  have hl : l.length = n := by simpa using h.1
  go_enter Try.func39, Try.ntmps39
  go_wp2
  go_loopw [5, 12] (fun v i wr => ∃ k a m : Nat, k ≤ n ∧ k ≤ 8 ∧ v = .int .i64 a ∧ i = .int .i64 k ∧ wr = w.drewN m ∧ a < 2 ^ (7 * k) ∧ rdN l = rd k a (l.drop k)) (fun _ i _ => n - (intOf i).toNat)
  case atStart => exact ⟨0, 0, 0, by omega, by omega, rfl, rfl, rfl, by decide, rfl⟩
  case round =>
    obtain ⟨k, a, m, hk, hk8, rfl, rfl, rfl, ha, hrd⟩ := hrel
    by_cases hlt : k < n
    · have hkl : k < l.length := by omega
      rw [rd_step hkl] at hrd
      obtain ⟨ad, rfl, hb, hcell⟩ := h.at_ hlt
      have gx : (l.map bv).getD k undef = .int .u8 ((l[k]'(by omega)).toNat : Int) := by simp [bv, hkl]
      rw [gx] at hcell
      have hq := l[k].toNat_lt
      generalize l[k].toNat = q at hrd hcell hq
      have HRD := Lib.hid hrd
      have HA := Lib.hid ha
      have HL := Lib.hid hl
      clear gx hrd h hb ha hl hkl
      by_cases h8 : 8 ≤ k
      · by_cases hq1 : 128 ≤ q
        · have hres := Lib.hid (show rdN l = (0, 0, 12) by rw [HRD.out, if_pos (.inl ⟨by omega, .inl hq1⟩)])
          clear HRD
          go_wp2
          go_ret3
          exact cut_bad (k := 12) hres (by decide)
        · by_cases hq2 : 63 < q
          · have hres := Lib.hid (show rdN l = (0, 0, 12) by rw [HRD.out, if_pos (.inl ⟨by omega, .inr (by omega)⟩)])
            clear HRD
            go_wp2
            go_ret3
            exact cut_bad (k := 12) hres (by decide)
          · by_cases hq3 : q = 0
            · subst hq3
              have hres := Lib.hid (show rdN l = (0, 0, 12) by rw [HRD.out, if_pos (.inr ⟨rfl, by omega⟩)])
              clear HRD
              go_wp2
              go_ret3
              exact cut_bad (k := 12) hres (by decide)
            · have hres := Lib.hid (show rdN l = (a + q * 2 ^ (7 * k), k + 1, 0) by
                rw [HRD.out, if_neg (by omega), if_pos (by omega)])
              have hor := Lib.hid (or_group (g := q) HA.out (by omega) (by omega) (by omega))
              clear HRD
              go_wp2
              go_quiet (fail)
              go_wp2
              all_goals
                go_ret3
                refine cut_done hres ?_ ?_ ?_ ?_
                · rw [← hor.out]
                  have e8 : k = 8 := by omega
                  have eq : (q : Int) % 128 = q := by omega
                  subst e8
                  show bits .or .i64 (a : Int) ((q : Int) % 128 * 72057594037927936) = _
                  rw [eq]
                  show bits .or .i64 (a : Int) ((q : Int) * 72057594037927936) = _
                  congr 1
                  unfold wrap64
                  omega
                · have e8 : k = 8 := by omega
                  subst e8
                  first
                    | exact cutA_end _ _
                    | exact cutA_mid (by omega) (by omega)
                · omega
                · omega
      · by_cases hq1 : 128 ≤ q
        · have hres := Lib.hid (show rdN l = rd (k + 1) (a + q % 128 * 2 ^ (7 * k)) (l.drop (k + 1)) by
            rw [HRD.out, if_neg (by omega), if_neg (by omega)])
          have hor := Lib.hid (or_group (g := q % 128) HA.out (by omega) (by omega) (by omega))
          clear HRD
          go_wp2
          all_goals
            go_roundw
            case rel => exact ⟨k + 1, a + q % 128 * 2 ^ (7 * k), m, by omega, by omega, by rw [← hor.out]; rfl, by go_num, rfl, grow_lt HA.out (by omega), hres.out⟩
            case measure => simp [intOf]; omega
        · by_cases hq2 : q = 0 ∧ 0 < k
          · obtain ⟨hq2, hk0⟩ := hq2
            subst hq2
            have hres := Lib.hid (show rdN l = (0, 0, 12) by rw [HRD.out, if_pos (.inr ⟨rfl, by omega⟩)])
            clear HRD
            go_wp2
            go_ret3
            exact cut_bad (k := 12) hres (by decide)
          · have hres := Lib.hid (show rdN l = (a + q * 2 ^ (7 * k), k + 1, 0) by
                rw [HRD.out, if_neg (by omega), if_pos (by omega)])
            have hor := Lib.hid (or_group (g := q) HA.out (by omega) (by omega) (by omega))
            have eq : (q : Int) % 128 = q := by omega
            clear HRD
            by_cases hk0 : 0 < k
            · have hq3 : 0 < q := by omega
              clear hq2
              go_wp2
              all_goals
                go_quiet (fail)
                go_wp2
              all_goals
                go_ret3
                refine cut_done hres ?_ ?_ ?_ ?_
                · exact hor.out
                · first
                    | exact cutA_end _ _
                    | exact cutA_mid (by omega) (by omega)
                · rfl
                · omega
            · clear hq2
              go_wp2
              all_goals
                go_quiet (fail)
                go_wp2
              all_goals
                go_ret3
                refine cut_done hres ?_ ?_ ?_ ?_
                · exact hor.out
                · first
                    | exact cutA_end _ _
                    | exact cutA_mid (by omega) (by omega)
                · rfl
                · omega
    · have hres := Lib.hid (show rdN l = (0, 0, 11) by
        rw [hrd, List.drop_eq_nil_of_le (by omega), rd])
      clear hrd
      go_wp2
      go_ret3
      exact cut_bad (k := 11) hres (by decide)
end Go.Proofs.Ytgniocgcfldiaaa
