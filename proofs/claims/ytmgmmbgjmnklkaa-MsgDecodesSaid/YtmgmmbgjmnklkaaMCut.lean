import Derived.Test.YtmgmmbgjmnklkaaMNum
import Derived.Test.YtmgmmbgjmnklkaaMBase

namespace Go.Proofs.Ytmgmmbgjmnklkaa
set_option maxRecDepth 100000
open Go.RowKit
open Pk

/-- what Go makes of s[k:] at capacity c -/
def cutA (A : Option Addr) (c k : Nat) : Option Addr := if c = k then A else A.map (·.add k)

/-- cutNum's answer -/
def CutPost (A : Option Addr) (n c : Nat) (l : List UInt8) (w : World) (e : Ending) (w' : World) : Prop :=
  (∃ m, w' = w.drewN m) ∧
  (((rdN l).2.2 = 0 ∧ e = .returned (.tuple #[.int .i64 (rdN l).1, .slice (cutA A c (rdN l).2.1) (n - (rdN l).2.1) (c - (rdN l).2.1), .int .i64 0])) ∨
   ((rdN l).2.2 ≠ 0 ∧ e = .returned (.tuple #[.int .i64 0, .slice none 0 0, .int .i64 (rdN l).2.2])))

/-- a group is laid on top -/
theorem or_group {a g k : Nat} (ha : a < 2 ^ (7 * k)) (hg : g < 128) (hk : k < 9) (h8 : k = 8 → g ≤ 63) :
    bits .or .i64 (a : Int) (wrap64 ((g : Int) * 2 ^ (k * 7))) = ((a + g * 2 ^ (7 * k) : Nat) : Int) := by
  have hp : 2 ^ (7 * k) ≤ 2 ^ 56 := Nat.pow_le_pow_right (by omega) (by omega)
  have hb : g * 2 ^ (7 * k) + 2 ^ (7 * k) ≤ 2 ^ 62 := by
    have e : g * 2 ^ (7 * k) + 2 ^ (7 * k) = (g + 1) * 2 ^ (7 * k) := by rw [Nat.add_mul]; omega
    rw [e]
    by_cases h : k = 8
    · subst h
      have := h8 rfl
      exact Nat.le_trans (Nat.mul_le_mul_right _ (show g + 1 ≤ 64 by omega)) (by decide)
    · have h2 : 2 ^ (7 * k) ≤ 2 ^ 49 := Nat.pow_le_pow_right (by omega) (by omega)
      exact Nat.le_trans (Nat.mul_le_mul (show g + 1 ≤ 128 by omega) h2) (by decide)
  have ew : wrap64 ((g : Int) * 2 ^ (k * 7)) = ((g * 2 ^ (7 * k) : Nat) : Int) := by
    have e1 : ((g : Int) * 2 ^ (k * 7)) = ((g * 2 ^ (7 * k) : Nat) : Int) := by rw [Nat.mul_comm k 7]; simp
    rw [e1]
    generalize g * 2 ^ (7 * k) = x at *
    unfold wrap64
    omega
  rw [ew]
  have hor : a ||| g * 2 ^ (7 * k) = a + g * 2 ^ (7 * k) := by
    have := Nat.two_pow_add_eq_or_of_lt ha g
    rw [Nat.mul_comm, Nat.add_comm] at this
    rw [this, Nat.or_comm, Nat.mul_comm]
  have h1 : (BitVec.ofInt 64 (a : Int)).toNat = a := by
    rw [BitVec.ofInt_natCast, BitVec.toNat_ofNat]; exact Nat.mod_eq_of_lt (by omega)
  have h2 : (BitVec.ofInt 64 ((g * 2 ^ (7 * k) : Nat) : Int)).toNat = g * 2 ^ (7 * k) := by
    rw [BitVec.ofInt_natCast, BitVec.toNat_ofNat]; exact Nat.mod_eq_of_lt (by omega)
  show IntKind.i64.wrap ((BitVec.ofInt 64 (a : Int) ||| BitVec.ofInt 64 ((g * 2 ^ (7 * k) : Nat) : Int)).toNat : Int) = _
  rw [BitVec.toNat_or, h1, h2, hor, IntKind.wrap_i64]
  generalize g * 2 ^ (7 * k) = x at *
  omega

theorem grow_lt {a g k : Nat} (ha : a < 2 ^ (7 * k)) (hg : g < 128) : a + g * 2 ^ (7 * k) < 2 ^ (7 * (k + 1)) := by
  have e : 2 ^ (7 * (k + 1)) = 128 * 2 ^ (7 * k) := by rw [Nat.mul_add, Nat.pow_add]; omega
  have : (g + 1) * 2 ^ (7 * k) ≤ 128 * 2 ^ (7 * k) := Nat.mul_le_mul_right _ (by omega)
  rw [Nat.add_mul] at this
  omega

theorem cut_done {A A' : Option Addr} {n n' c c' k v m : Nat} {a' : Int} {l : List UInt8} {w : World} (hres : Hid (rdN l = (v, k, 0))) (h1 : a' = (v : Int)) (h2 : A' = cutA A c k) (h3 : n' = n - k) (h4 : c' = c - k) :
    CutPost A n c l w (.returned (.tuple #[.int .i64 a', .slice A' n' c', .int .i64 0])) (w.drewN m) := by
  refine ⟨⟨m, rfl⟩, .inl ?_⟩
  rw [hres.out, h1, h2, h3, h4]
  exact ⟨rfl, rfl⟩
theorem cut_bad {A : Option Addr} {n c m : Nat} {l : List UInt8} {w : World} {k : Nat} (hres : Hid (rdN l = (0, 0, k))) (hk : k ≠ 0) :
    CutPost A n c l w (.returned (.tuple #[.int .i64 0, .slice none 0 0, .int .i64 (k : Int)])) (w.drewN m) := by
  refine ⟨⟨m, rfl⟩, .inr ?_⟩
  rw [hres.out]
  exact ⟨hk, rfl⟩
theorem cutA_end (A : Option Addr) (k : Nat) : A = cutA A k k := by simp [cutA]
theorem cutA_mid {a : Addr} {c k : Nat} (h : ¬ c = k) (hk : k ≠ 0) : some { block := a.block, off := a.off + k } = cutA (some a) c k := by simp [cutA, Addr.add, h, hk]

theorem rd_step {l : List UInt8} {k a : Nat} (hk : k < l.length) : rd k a (l.drop k) =
    if (k = 8 ∧ (128 ≤ l[k].toNat ∨ 63 < l[k].toNat % 128)) ∨ (l[k].toNat = 0 ∧ 0 < k) then (0, 0, 12)
    else if l[k].toNat < 128 then (a + l[k].toNat * 2 ^ (7 * k), k + 1, 0)
    else rd (k + 1) (a + l[k].toNat % 128 * 2 ^ (7 * k)) (l.drop (k + 1)) := by
  rw [List.drop_eq_getElem_cons hk, rd]

set_option maxHeartbeats 1600000 in
set_option maxRecDepth 100000 in
theorem cutNum_any (A : Option Addr) (n c : Nat) (l : List UInt8) (w : World) (h : Rd w A n (l.map bv)) (hc : n ≤ c) (hm : c ≤ maxLen) :
    Calls Try.prog 125 #[.slice A n c] w (CutPost A n c l w) := by
  unfold maxLen at hm
  have hl : l.length = n := by simpa using h.1
  go_enter Try.func125, Try.ntmps125
  go_wp2
  go_loopw [5, 12] (fun v i wr => ∃ k a m : Nat, k ≤ n ∧ k ≤ 8 ∧ v = .int .i64 a ∧ i = .int .i64 k ∧ wr = w.drewN m ∧ a < 2 ^ (7 * k) ∧ rdN l = rd k a (l.drop k)) (fun _ i _ => n - (intOf i).toNat)
  case atStart => exact ⟨0, 0, 0, by omega, by omega, rfl, rfl, rfl, by decide, rfl⟩
  case round =>
    obtain ⟨k, a, m, hk, hk8, rfl, rfl, rfl, ha, hrd⟩ := hrel
    by_cases hlt : k < n
    · have hkl : k < l.length := by omega
      rw [rd_step hkl] at hrd
      obtain ⟨ad, rfl, hb, hcell⟩ := h.at_ hlt
      have gx : (l.map bv).getD k undef = .int .u8 ((l[k]'(by omega)).toNat : Int) := by simp [bv, hkl]
      rw [gx] at hcell
      have hq := l[k].toNat_lt
      generalize l[k].toNat = q at hrd hcell hq
      have HRD := Lib.hid hrd
      have HA := Lib.hid ha
      have HL := Lib.hid hl
      clear gx hrd h hb ha hl hkl
      by_cases h8 : 8 ≤ k
      · by_cases hq1 : 128 ≤ q
        · have hres := Lib.hid (show rdN l = (0, 0, 12) by rw [HRD.out, if_pos (.inl ⟨by omega, .inl hq1⟩)])
          clear HRD
          go_wp2
          go_ret3
          exact cut_bad (k := 12) hres (by decide)
        · by_cases hq2 : 63 < q
          · have hres := Lib.hid (show rdN l = (0, 0, 12) by rw [HRD.out, if_pos (.inl ⟨by omega, .inr (by omega)⟩)])
            clear HRD
            go_wp2
            go_ret3
            exact cut_bad (k := 12) hres (by decide)
          · by_cases hq3 : q = 0
            · subst hq3
              have hres := Lib.hid (show rdN l = (0, 0, 12) by rw [HRD.out, if_pos (.inr ⟨rfl, by omega⟩)])
              clear HRD
              go_wp2
              go_ret3
              exact cut_bad (k := 12) hres (by decide)
            · have hres := Lib.hid (show rdN l = (a + q * 2 ^ (7 * k), k + 1, 0) by
                rw [HRD.out, if_neg (by omega), if_pos (by omega)])
              have hor := Lib.hid (or_group (g := q) HA.out (by omega) (by omega) (by omega))
              clear HRD
              go_wp2
              go_quiet (fail)
              go_wp2
              all_goals
                go_ret3
                refine cut_done hres ?_ ?_ ?_ ?_
                · rw [← hor.out]
                  have e8 : k = 8 := by omega
                  have eq : (q : Int) % 128 = q := by omega
                  subst e8
                  show bits .or .i64 (a : Int) ((q : Int) % 128 * 72057594037927936) = _
                  rw [eq]
                  show bits .or .i64 (a : Int) ((q : Int) * 72057594037927936) = _
                  congr 1
                  unfold wrap64
                  omega
                · have e8 : k = 8 := by omega
                  subst e8
                  first
                    | exact cutA_end _ _
                    | exact cutA_mid (by omega) (by omega)
                · omega
                · omega
      · by_cases hq1 : 128 ≤ q
        · have hres := Lib.hid (show rdN l = rd (k + 1) (a + q % 128 * 2 ^ (7 * k)) (l.drop (k + 1)) by
            rw [HRD.out, if_neg (by omega), if_neg (by omega)])
          have hor := Lib.hid (or_group (g := q % 128) HA.out (by omega) (by omega) (by omega))
          clear HRD
          go_wp2
          all_goals
            go_roundw
            case rel => exact ⟨k + 1, a + q % 128 * 2 ^ (7 * k), m, by omega, by omega, by rw [← hor.out]; rfl, by go_num, rfl, grow_lt HA.out (by omega), hres.out⟩
            case measure => simp [intOf]; omega
        · by_cases hq2 : q = 0 ∧ 0 < k
          · obtain ⟨hq2, hk0⟩ := hq2
            subst hq2
            have hres := Lib.hid (show rdN l = (0, 0, 12) by rw [HRD.out, if_pos (.inr ⟨rfl, by omega⟩)])
            clear HRD
            go_wp2
            go_ret3
            exact cut_bad (k := 12) hres (by decide)
          · have hres := Lib.hid (show rdN l = (a + q * 2 ^ (7 * k), k + 1, 0) by
                rw [HRD.out, if_neg (by omega), if_pos (by omega)])
            have hor := Lib.hid (or_group (g := q) HA.out (by omega) (by omega) (by omega))
            have eq : (q : Int) % 128 = q := by omega
            clear HRD
            by_cases hk0 : 0 < k
            · have hq3 : 0 < q := by omega
              clear hq2
              go_wp2
              all_goals
                go_quiet (fail)
                go_wp2
              all_goals
                go_ret3
                refine cut_done hres ?_ ?_ ?_ ?_
                · exact hor.out
                · first
                    | exact cutA_end _ _
                    | exact cutA_mid (by omega) (by omega)
                · rfl
                · omega
            · clear hq2
              go_wp2
              all_goals
                go_quiet (fail)
                go_wp2
              all_goals
                go_ret3
                refine cut_done hres ?_ ?_ ?_ ?_
                · exact hor.out
                · first
                    | exact cutA_end _ _
                    | exact cutA_mid (by omega) (by omega)
                · rfl
                · omega
    · have hres := Lib.hid (show rdN l = (0, 0, 11) by
        rw [hrd, List.drop_eq_nil_of_le (by omega), rd])
      clear hrd
      go_wp2
      go_ret3
      exact cut_bad (k := 11) hres (by decide)
end Go.Proofs.Ytmgmmbgjmnklkaa

namespace Go.Proofs.Ytmgmmbgjmnklkaa
set_option maxRecDepth 100000
open Go.RowKit
open Pk

/-- Read's answer: the number, new bytes, the error -/
def ReadPost (l : List UInt8) (w : World) (e : Ending) (w' : World) : Prop :=
  ∃ A n c, e = .returned (.tuple #[.int .i64 (rdN l).1, .slice A n c, .int .i64 (rdN l).2.2]) ∧ OwnB w' w.heap.size A n c (restN l) ∧ Below w.heap.size w w'


/-- a group is added on top -/
theorem add_group {a g k : Nat} (ha : a < 2 ^ (7 * k)) (hg : g < 128) (hk : k < 9) (h8 : k = 8 → g ≤ 63) :
    wrap64 ((a : Int) + wrap64 ((g : Int) * 2 ^ (7 * k))) = ((a + g * 2 ^ (7 * k) : Nat) : Int) := by
  have hp : 2 ^ (7 * k) ≤ 2 ^ 56 := Nat.pow_le_pow_right (by omega) (by omega)
  have hb : g * 2 ^ (7 * k) + 2 ^ (7 * k) ≤ 2 ^ 62 := by
    have e : g * 2 ^ (7 * k) + 2 ^ (7 * k) = (g + 1) * 2 ^ (7 * k) := by rw [Nat.add_mul]; omega
    rw [e]
    by_cases h : k = 8
    · subst h
      have := h8 rfl
      exact Nat.le_trans (Nat.mul_le_mul_right _ (show g + 1 ≤ 64 by omega)) (by decide)
    · have h2 : 2 ^ (7 * k) ≤ 2 ^ 49 := Nat.pow_le_pow_right (by omega) (by omega)
      exact Nat.le_trans (Nat.mul_le_mul (show g + 1 ≤ 128 by omega) h2) (by decide)
  have e1 : ((g : Int) * 2 ^ (7 * k)) = ((g * 2 ^ (7 * k) : Nat) : Int) := by simp
  rw [e1]
  generalize g * 2 ^ (7 * k) = x at *
  unfold wrap64
  omega

theorem read_bad {l : List UInt8} {w : World} {k : Nat} (hres : Hid (rdN l = (0, 0, k))) (hk : k ≠ 0) :
    ReadPost l w (.returned (.tuple #[.int .i64 0, .slice none 0 0, .int .i64 (k : Int)])) w := by
  refine ⟨none, 0, 0, by rw [hres.out]; rfl, ?_, Below.refl _ _⟩
  unfold restN
  rw [hres.out, if_neg hk]
  exact OwnB.nil_ _ _
theorem read_done {l : List UInt8} {w w' : World} {v k : Nat} {a : Int} {A : Option Addr} {n c : Nat} (hres : Hid (rdN l = (v, k, 0))) (ha : a = (v : Int)) (ho : OwnB w' w.heap.size A n c (l.drop k)) (hb : Below w.heap.size w w') :
    ReadPost l w (.returned (.tuple #[.int .i64 a, .slice A n c, .int .i64 0])) w' := by
  refine ⟨A, n, c, by rw [hres.out, ha]; rfl, ?_, hb⟩
  unfold restN
  rw [hres.out, if_pos rfl]
  exact ho

set_option maxHeartbeats 1600000 in
set_option maxRecDepth 100000 in
theorem refRead_any (A : Option Addr) (n c : Nat) (l : List UInt8) (w : World) (h : Rd w A n (l.map bv)) (hc : n ≤ c) (hn : n ≤ 1099511627776) :
    Calls Try.prog 90 #[.slice A n c] w (ReadPost l w) := by
  have hl : l.length = n := by simpa using h.1
  go_enter Try.func90, Try.ntmps90
  go_wp2
  go_loopw [5, 6] (fun v i wr => ∃ k a : Nat, k ≤ n ∧ k ≤ 8 ∧ v = .int .i64 a ∧ i = .int .i64 k ∧ wr = w ∧ a < 2 ^ (7 * k) ∧ rdN l = rd k a (l.drop k)) (fun _ i _ => n - (intOf i).toNat)
  case atStart => exact ⟨0, 0, by omega, by omega, rfl, rfl, rfl, by decide, rfl⟩
  case round =>
    obtain ⟨k, a, hk, hk8, rfl, rfl, rfl, ha, hrd⟩ := hrel
    by_cases hlt : k < n
    · have hkl : k < l.length := by omega
      rw [rd_step hkl] at hrd
      have HR := Lib.hid h
      obtain ⟨ad, rfl, hb, hcell⟩ := h.at_ hlt
      have gx : (l.map bv).getD k undef = .int .u8 ((l[k]'(by omega)).toNat : Int) := by simp [bv, hkl]
      rw [gx] at hcell
      have hq := l[k].toNat_lt
      generalize l[k].toNat = q at hrd hcell hq
      have HRD := Lib.hid hrd
      have HA := Lib.hid ha
      have HL := Lib.hid hl
      clear gx hrd h hb ha hl hkl
      by_cases h8 : 8 ≤ k
      · by_cases hq1 : 128 ≤ q
        · have hres := Lib.hid (show rdN l = (0, 0, 12) by rw [HRD.out, if_pos (.inl ⟨by omega, .inl hq1⟩)])
          clear HRD
          go_wp2
          go_ret3
          exact read_bad (k := 12) hres (by decide)
        · by_cases hq2 : 63 < q
          · have hres := Lib.hid (show rdN l = (0, 0, 12) by rw [HRD.out, if_pos (.inl ⟨by omega, .inr (by omega)⟩)])
            clear HRD
            go_wp2
            go_ret3
            exact read_bad (k := 12) hres (by decide)
          · by_cases hq3 : q = 0
            · subst hq3
              have hres := Lib.hid (show rdN l = (0, 0, 12) by rw [HRD.out, if_pos (.inr ⟨rfl, by omega⟩)])
              clear HRD
              go_wp2
              go_ret3
              exact read_bad (k := 12) hres (by decide)
            · have hres := Lib.hid (show rdN l = (a + q * 2 ^ (7 * k), k + 1, 0) by
                rw [HRD.out, if_neg (by omega), if_pos (by omega)])
              have hor := Lib.hid (add_group (g := q) HA.out (by omega) (by omega) (by omega))
              clear HRD
              have HD := Lib.hid (show Rd wr (cutA (some ad) c (k + 1)) (n - (k + 1)) ((l.drop (k + 1)).map bv) by
                have := HR.out.cut (k := k + 1) (cap := c) (by omega) hc
                rw [← List.map_drop] at this
                exact this)
              by_cases hce : c = k + 1
              · have HD2 := Lib.hid (show Rd wr (some ad) (n - (k + 1)) ((l.drop (k + 1)).map bv) by
                  have := HD.out; rw [hce, ← cutA_end] at this; exact this)
                clear HD
                go_wp2_with fail
                refine (copyBytes_any _ _ _ (l.drop (k + 1)) _ ?hd (by omega)).mono ?_
                case hd => first | exact HD2.out | (have e9 : k + 1 = 9 := (by omega); have := HD2.out; rw [e9] at this ⊢; exact this)
                rintro e w2 ⟨A2, n2, c2, rfl, ho, hb⟩
                go_wp2_with fail
                go_ret3
                refine read_done hres ?_ ho hb
                rw [← hor.out]
                have e8 : k = 8 := by omega
                have eq : (q : Int) % 128 = q := by omega
                subst e8
                show wrap64 ((a : Int) + (q : Int) % 128 * 72057594037927936) = _
                rw [eq]
                show _ = wrap64 ((a : Int) + wrap64 ((q : Int) * 72057594037927936))
                congr 2
                unfold wrap64
                omega
              · have HD2 := Lib.hid (show Rd wr (some { block := ad.block, off := ad.off + (k + 1) }) (n - (k + 1)) ((l.drop (k + 1)).map bv) by
                  have := HD.out; rw [← cutA_mid hce (by omega)] at this; exact this)
                clear HD
                go_wp2_with fail
                refine (copyBytes_any _ _ _ (l.drop (k + 1)) _ ?hd (by omega)).mono ?_
                case hd => first | exact HD2.out | (have e9 : k + 1 = 9 := (by omega); have := HD2.out; rw [e9] at this ⊢; exact this)
                rintro e w2 ⟨A2, n2, c2, rfl, ho, hb⟩
                go_wp2_with fail
                go_ret3
                refine read_done hres ?_ ho hb
                rw [← hor.out]
                have e8 : k = 8 := by omega
                have eq : (q : Int) % 128 = q := by omega
                subst e8
                show wrap64 ((a : Int) + (q : Int) % 128 * 72057594037927936) = _
                rw [eq]
                show _ = wrap64 ((a : Int) + wrap64 ((q : Int) * 72057594037927936))
                congr 2
                unfold wrap64
                omega
      · by_cases hq1 : 128 ≤ q
        · have hres := Lib.hid (show rdN l = rd (k + 1) (a + q % 128 * 2 ^ (7 * k)) (l.drop (k + 1)) by
            rw [HRD.out, if_neg (by omega), if_neg (by omega)])
          have hor := Lib.hid (add_group (g := q % 128) HA.out (by omega) (by omega) (by omega))
          clear HRD
          go_wp2_with fail
          go_roundw
          case rel => exact ⟨k + 1, a + q % 128 * 2 ^ (7 * k), by omega, by omega, by rw [← hor.out]; rfl, by go_num, trivial, grow_lt HA.out (by omega), hres.out⟩
          case measure => simp [intOf]; omega
        · by_cases hq2 : q = 0 ∧ 0 < k
          · obtain ⟨hq2, hk0⟩ := hq2
            subst hq2
            have hres := Lib.hid (show rdN l = (0, 0, 12) by rw [HRD.out, if_pos (.inr ⟨rfl, by omega⟩)])
            clear HRD
            go_wp2
            go_ret3
            exact read_bad (k := 12) hres (by decide)
          · have hres := Lib.hid (show rdN l = (a + q * 2 ^ (7 * k), k + 1, 0) by
                rw [HRD.out, if_neg (by omega), if_pos (by omega)])
            have hor := Lib.hid (add_group (g := q) HA.out (by omega) (by omega) (by omega))
            have eq : (q : Int) % 128 = q := by omega
            clear HRD
            by_cases hk0 : 0 < k
            · have hq3 : 0 < q := by omega
              clear hq2
              have HD := Lib.hid (show Rd wr (cutA (some ad) c (k + 1)) (n - (k + 1)) ((l.drop (k + 1)).map bv) by
                have := HR.out.cut (k := k + 1) (cap := c) (by omega) hc
                rw [← List.map_drop] at this
                exact this)
              by_cases hce : c = k + 1
              · have HD2 := Lib.hid (show Rd wr (some ad) (n - (k + 1)) ((l.drop (k + 1)).map bv) by
                  have := HD.out; rw [hce, ← cutA_end] at this; exact this)
                clear HD
                go_wp2_with fail
                refine (copyBytes_any _ _ _ (l.drop (k + 1)) _ ?hd (by omega)).mono ?_
                case hd => first | exact HD2.out | (have e9 : k + 1 = 9 := (by omega); have := HD2.out; rw [e9] at this ⊢; exact this)
                rintro e w2 ⟨A2, n2, c2, rfl, ho, hb⟩
                go_wp2_with fail
                go_ret3
                refine read_done hres ?_ ho hb
                exact hor.out
              · have HD2 := Lib.hid (show Rd wr (some { block := ad.block, off := ad.off + (k + 1) }) (n - (k + 1)) ((l.drop (k + 1)).map bv) by
                  have := HD.out; rw [← cutA_mid hce (by omega)] at this; exact this)
                clear HD
                go_wp2_with fail
                refine (copyBytes_any _ _ _ (l.drop (k + 1)) _ ?hd (by omega)).mono ?_
                case hd => first | exact HD2.out | (have e9 : k + 1 = 9 := (by omega); have := HD2.out; rw [e9] at this ⊢; exact this)
                rintro e w2 ⟨A2, n2, c2, rfl, ho, hb⟩
                go_wp2_with fail
                go_ret3
                refine read_done hres ?_ ho hb
                exact hor.out
            · clear hq2
              by_cases hq0 : q = 0
              · subst hq0
                have HD := Lib.hid (show Rd wr (cutA (some ad) c (k + 1)) (n - (k + 1)) ((l.drop (k + 1)).map bv) by
                  have := HR.out.cut (k := k + 1) (cap := c) (by omega) hc
                  rw [← List.map_drop] at this
                  exact this)
                by_cases hce : c = k + 1
                · have HD2 := Lib.hid (show Rd wr (some ad) (n - (k + 1)) ((l.drop (k + 1)).map bv) by
                    have := HD.out; rw [hce, ← cutA_end] at this; exact this)
                  clear HD
                  go_wp2_with fail
                  refine (copyBytes_any _ _ _ (l.drop (k + 1)) _ ?hd (by omega)).mono ?_
                  case hd => first | exact HD2.out | (have e9 : k + 1 = 9 := (by omega); have := HD2.out; rw [e9] at this ⊢; exact this)
                  rintro e w2 ⟨A2, n2, c2, rfl, ho, hb⟩
                  go_wp2_with fail
                  go_ret3
                  refine read_done hres ?_ ho hb
                  have := hor.out; have h0 : wrap64 0 = 0 := (by unfold wrap64; omega); simpa [h0] using this
                · have HD2 := Lib.hid (show Rd wr (some { block := ad.block, off := ad.off + (k + 1) }) (n - (k + 1)) ((l.drop (k + 1)).map bv) by
                    have := HD.out; rw [← cutA_mid hce (by omega)] at this; exact this)
                  clear HD
                  go_wp2_with fail
                  refine (copyBytes_any _ _ _ (l.drop (k + 1)) _ ?hd (by omega)).mono ?_
                  case hd => first | exact HD2.out | (have e9 : k + 1 = 9 := (by omega); have := HD2.out; rw [e9] at this ⊢; exact this)
                  rintro e w2 ⟨A2, n2, c2, rfl, ho, hb⟩
                  go_wp2_with fail
                  go_ret3
                  refine read_done hres ?_ ho hb
                  have := hor.out; have h0 : wrap64 0 = 0 := (by unfold wrap64; omega); simpa [h0] using this
              · have hq3 : 0 < q := by omega
                have HD := Lib.hid (show Rd wr (cutA (some ad) c (k + 1)) (n - (k + 1)) ((l.drop (k + 1)).map bv) by
                  have := HR.out.cut (k := k + 1) (cap := c) (by omega) hc
                  rw [← List.map_drop] at this
                  exact this)
                by_cases hce : c = k + 1
                · have HD2 := Lib.hid (show Rd wr (some ad) (n - (k + 1)) ((l.drop (k + 1)).map bv) by
                    have := HD.out; rw [hce, ← cutA_end] at this; exact this)
                  clear HD
                  go_wp2_with fail
                  refine (copyBytes_any _ _ _ (l.drop (k + 1)) _ ?hd (by omega)).mono ?_
                  case hd => first | exact HD2.out | (have e9 : k + 1 = 9 := (by omega); have := HD2.out; rw [e9] at this ⊢; exact this)
                  rintro e w2 ⟨A2, n2, c2, rfl, ho, hb⟩
                  go_wp2_with fail
                  go_ret3
                  refine read_done hres ?_ ho hb
                  exact hor.out
                · have HD2 := Lib.hid (show Rd wr (some { block := ad.block, off := ad.off + (k + 1) }) (n - (k + 1)) ((l.drop (k + 1)).map bv) by
                    have := HD.out; rw [← cutA_mid hce (by omega)] at this; exact this)
                  clear HD
                  go_wp2_with fail
                  refine (copyBytes_any _ _ _ (l.drop (k + 1)) _ ?hd (by omega)).mono ?_
                  case hd => first | exact HD2.out | (have e9 : k + 1 = 9 := (by omega); have := HD2.out; rw [e9] at this ⊢; exact this)
                  rintro e w2 ⟨A2, n2, c2, rfl, ho, hb⟩
                  go_wp2_with fail
                  go_ret3
                  refine read_done hres ?_ ho hb
                  exact hor.out
    · have hres := Lib.hid (show rdN l = (0, 0, 11) by
        rw [hrd, List.drop_eq_nil_of_le (by omega), rd])
      clear hrd
      go_wp2
      go_ret3
      exact read_bad (k := 11) hres (by decide)
end Go.Proofs.Ytmgmmbgjmnklkaa
