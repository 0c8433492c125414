import Derived.Test.YtfdmnnbcnaofgaaDoorMacPlain
import Derived.Test.YtfdmnnbcnaofgaaDoorSum
import Derived.Laws.CopyOwn
namespace Go.Proofs.YtfdmnnbcnaofgaaDoor
open Go.RowKit
open Sh
set_option linter.unusedVariables false

/-- where bytes of the call's own lie -/
theorem own_at {w : World} {base : Nat} {A : Option Addr} {n c : Nat} {l : List UInt8} (h : OwnB w base A n c l) (hn : 0 < n) :
    ∃ g, A = some ⟨g, 0, none⟩ ∧ base ≤ g ∧ n ≤ c ∧ c ≤ maxLen ∧ ∃ rest, Bk w g 5 (l.map bv ++ rest) ∧ (l.map bv ++ rest).length = c := by
  rcases h.2 with ⟨_, e2⟩ | ⟨g, cap, cur, e1, hb, hg, hnc, hcm, hsz, ht⟩
  · omega
  · injection e1 with e3 e4 e5
    subst e3 e5
    refine ⟨g, rfl, hb, hnc, hcm, cur.toList.drop n, ?_, ?_⟩
    · rw [Nat.mul_one] at ht
      rw [← ht, List.take_append_drop]
      simpa [Bk] using hg
    · rw [Nat.mul_one] at ht hsz
      rw [← ht, List.take_append_drop]
      simpa using hsz
theorem own_back {w : World} {base g n c : Nat} {l : List UInt8} {rest : List Value} (h : Bk w g 5 (l.map bv ++ rest)) (hc : (l.map bv ++ rest).length = c) (hb : base ≤ g) (hn : l.length = n) (hnc : n ≤ c) (hm : c ≤ maxLen) :
    OwnB w base (some ⟨g, 0, none⟩) n c l :=
  ⟨by simpa using hn, .inr ⟨g, c, _, rfl, hb, h, hnc, hm, by simpa using hc, by
    rw [Nat.mul_one, ← hn]
    show List.take l.length (l.map bv ++ rest) = _
    have e : l.length = (l.map bv).length := by simp
    rw [e, List.take_left]⟩⟩
theorem xor_u8 (x c : UInt8) : bits .xor .u8 (x.toNat : Int) (c.toNat : Int) = ((x ^^^ c).toNat : Int) := by
  rw [u8_xor_nat _ _ (u8_lt x) (u8_lt c), UInt8.toNat_xor]
/-- each byte laid over -/
def laid (over : UInt8) (l : List UInt8) : List UInt8 := l.map (· ^^^ over)
theorem laid_len (over : UInt8) (l : List UInt8) : (laid over l).length = l.length := by simp [laid]
/-- the first k bytes are laid over already -/
def half (over : UInt8) (l : List UInt8) (rest : List Value) (k : Nat) : List Value := (laid over (l.take k)).map bv ++ ((l.drop k).map bv ++ rest)
theorem half_len (over : UInt8) (l : List UInt8) (rest : List Value) {k : Nat} (h : k ≤ l.length) : (half over l rest k).length = l.length + rest.length := by
  simp [half, laid, List.length_take]; omega
theorem half_at (over : UInt8) (l : List UInt8) (rest : List Value) {k : Nat} (h : k < l.length) : (half over l rest k)[k]? = some (bv l[k]) := by
  unfold half
  have hk : ((laid over (l.take k)).map bv).length = k := by simp [laid, List.length_take]; omega
  rw [List.getElem?_append_right (by omega), hk, Nat.sub_self, List.getElem?_append_left (by simp; omega)]
  simp [h]
theorem half_set (over : UInt8) (l : List UInt8) (rest : List Value) {k : Nat} (h : k < l.length) : (half over l rest k).set k (bv (l[k] ^^^ over)) = half over l rest (k + 1) := by
  unfold half
  have hk : ((laid over (l.take k)).map bv).length = k := by simp [laid, List.length_take]; omega
  rw [List.set_append_right _ _ (by omega), hk, Nat.sub_self, List.drop_eq_getElem_cons h, List.take_succ_eq_append_getElem h]
  simp only [laid, List.map_cons, List.map_append, List.map_nil, List.cons_append, List.set_cons_zero, List.append_assoc, List.nil_append]

set_option maxHeartbeats 800000 in
theorem layOver_any (g n c : Nat) (l : List UInt8) (rest : List Value) (over : UInt8) (w : World) (h : Bk w g 5 (l.map bv ++ rest)) (hl : l.length = n) (hn : n ≤ maxLen) :
    Calls Tryd.prog 42 #[.slice (some ⟨g, 0, none⟩) n c, .int .u8 (over.toNat : Int)] w fun e w' => e = .returned (.tuple #[]) ∧ Bk w' g 5 ((laid over l).map bv ++ rest) ∧ w.grownBy w' (some g) := by
  unfold maxLen at hn
  have HS := Lib.hid h
  have HL := Lib.hid hl
  clear h hl
  go_enter Tryd.func42, Tryd.ntmps42
  go_wp2_with fail
  go_loopw [7] (fun i wr => ∃ k : Nat, k ≤ n ∧ i = .int .i64 k ∧ Bk wr g 5 (half over l rest k) ∧ w.grownBy wr (some g)) (fun i _ => n - (intOf i).toNat)
  case atStart => exact ⟨0, by omega, rfl, by simpa [half, laid] using HS.out, grown_refl _ _⟩
  case round =>
    obtain ⟨k, hk, rfl, hb, hg⟩ := hrel
    by_cases hlt : k < n
    · have hkl : k < l.length := by rw [HL.out]; exact hlt
      have hc := hb.at_ (half_at over l rest hkl)
      have hf := hb.frozen k
      have hst := half_set over l rest hkl
      have hx := xor_u8 l[k] over
      simp only [bv] at hc hst
      generalize l[k] = x at *
      have HB := Lib.hid hb
      have HG := Lib.hid hg
      have HST := Lib.hid hst
      have e1 : (0 : Int) ≤ (k : Int) := by omega
      have e2 : (k : Int) < (n : Int) := by omega
      clear hb hg hst
      go_wp2
      go_roundw
      case rel =>
        refine ⟨k + 1, by omega, by go_num, ?_, grown_set HG.out k _⟩
        have e := HB.out.set k (.int .u8 ((x ^^^ over).toNat : Int))
        rw [HST.out] at e
        exact e
      case measure => simp [intOf]; omega
    · have e : k = n := by omega
      subst e
      have h1 : half over l rest k = (laid over l).map bv ++ rest := by
        unfold half
        rw [List.take_of_length_le (by rw [HL.out]; exact Nat.le_refl _), List.drop_eq_nil_of_le (by rw [HL.out]; exact Nat.le_refl _)]
        rfl
      rw [h1] at hb
      go_wp2
      refine bodyPost_end (results_none rfl _ _ _) rfl ?_
      exact ⟨rfl, hb, hg⟩

theorem over_laid (c : UInt8) (key : List UInt8) (n : Nat) (h : key.length ≤ n) : over c key n = laid c (key ++ zeros (n - key.length)) := by
  have e : ∀ m : Nat, over c key m = laid c ((key ++ zeros (m - key.length)).take m) := by
    intro m
    induction m with
    | zero => rfl
    | succ m ih =>
      have hm : m < (key ++ zeros (m + 1 - key.length)).length := by simp [zeros_len]; omega
      rw [over, ih, List.take_succ_eq_append_getElem hm]
      simp only [laid, List.map_append, List.map_cons, List.map_nil]
      congr 1
      · congr 1
        rcases Nat.lt_or_ge m key.length with hk | hk
        · rw [show m - key.length = 0 by omega, show m + 1 - key.length = 0 by omega]
        · rw [List.take_append, List.take_append]
          congr 1
          rw [zeros, zeros, List.take_replicate, List.take_replicate]
          congr 1
          omega
      · congr 1
        congr 1
        rcases Nat.lt_or_ge m key.length with hk | hk
        · rw [List.getElem_append_left hk]; simp [List.getD, hk]
        · rw [List.getElem_append_right hk]
          simp [List.getD, List.getElem?_eq_none hk, zeros]
  rw [e n, List.take_of_length_le]
  simp [zeros_len]
  omega

/-- where the cells come from, if there are any -/
def Srcs (w : World) (A : Option Addr) (cs : List Value) : Prop := 0 < cs.length → ∃ ad, A = some ad ∧ ∀ j v, cs[j]? = some v → w.cell? (ad.add j) = some v
theorem Rd.srcs {w : World} {A : Option Addr} {n : Nat} {cs : List Value} (h : Rd w A n cs) : Srcs w A cs := by
  intro h0
  obtain ⟨ad, e, _⟩ := h.at_ (k := 0) (by rw [← h.1]; exact h0)
  refine ⟨ad, e, fun j v hv => ?_⟩
  obtain ⟨a, e2, _, hc⟩ := h.2 j v hv
  have e3 : ad = a := Option.some.inj (e.symm.trans e2)
  rw [e3]; exact hc
/-- 64 bytes 0, as cells -/
def Z64 : List Value := (zeros 64).map bv
theorem Z64_len : Z64.length = 64 := rfl
theorem splice_key (key : List UInt8) (h : key.length ≤ 64) : splice Z64 0 (key.map bv) = (key ++ zeros (64 - key.length)).map bv := by
  unfold splice Z64 zeros
  rw [List.map_append, List.map_replicate, List.map_replicate, List.take_zero, List.nil_append, Nat.zero_add, List.length_map, List.drop_replicate]
set_option maxHeartbeats 800000 in
theorem block_any (A : Option Addr) (n c : Nat) (key : List UInt8) (over' : UInt8) (w : World) (h : Rd w A n (key.map bv)) (hn : n ≤ 64) :
    Calls Tryd.prog 31 #[.slice A n c, .int .u8 (over'.toNat : Int)] w (Fresh1 (over over' key 64) w) := by
  have hx : key.length = n := by simpa using h.1
  have hmk : ∀ w : World, (Instr.makeSlice 22 (.int .i64 64) (.int .i64 64)).run Tryd.prog w = .ok (.slice (some ⟨w.heap.size, 0, none⟩) 64 64) (w.alloc (.cells Z64.toArray 5)) := fun _ => by kernel_rfl
  have HB := Lib.hid (Bk.new w 5 Z64)
  have HR := Lib.hid (h.alloc (.cells Z64.toArray 5))
  have HX := Lib.hid hx
  have HL := Lib.hid (over_laid over' key 64 (by omega))
  have HP := Lib.hid (splice_key key (by omega))
  have HLY := Lib.hid (fun W h => layOver_any w.heap.size 64 64 (key ++ zeros (64 - key.length)) [] over' W h (by rw [List.length_append, zeros_len]; omega) (by simp [maxLen]))
  have HPOS := Lib.hid HR.out.srcs
  have HMIN := Lib.hid (show (key.map bv).length = Nat.min n 64 by rw [List.length_map, hx]; exact (Nat.min_eq_left hn).symm)
  have HFIT := Lib.hid (show 0 + (key.map bv).length ≤ Z64.length by rw [List.length_map, Z64_len]; omega)
  have HBEL := Lib.hid ((Below.refl w.heap.size w).alloc (Nat.le_refl _) (.cells Z64.toArray 5))
  clear h hx
  go_enter Tryd.func31, Tryd.ntmps31
  go_wp2_with (with_reducible change wpList _ _ _ _ _ _
               refine wpList_copy_splice rfl (.tmp 7) (.tmp 8) 22 22 rfl 5 Tryd.underlying22 info_u8s _ A 64 64 n c rfl rfl w.heap.size 0 Z64 5 HB.out (key.map bv) HMIN.out (fun q => ⟨rfl, HPOS.out q⟩) HFIT.out (oneB key) w.heap.size w HBEL.out (Nat.le_refl _) ?_
               intro w2 HB2 HBL2)
  have hb2 : Bk w2 w.heap.size 5 ((key ++ zeros (64 - key.length)).map bv ++ []) := by
    rw [List.append_nil, ← HP.out]; exact HB2.out
  refine (HLY.out w2 hb2).mono ?_
  rintro e w3 ⟨rfl, hb3, hg3⟩
  have HB3 := Lib.hid hb3
  have HG3 := Lib.hid (HBL2.grown hg3 HBL2.size (fun k e => by injection e with e; omega))
  clear hb3 hg3 hb2
  go_wp2_with fail
  go_ret
  refine ⟨_, 64, 64, rfl, ?_, HG3.out⟩
  have e := HB3.out
  rw [List.append_nil, ← HL.out] at e
  exact own_of_bk e (Nat.le_refl _) (over_len _ _ _) (by simp [maxLen])
end Go.Proofs.YtfdmnnbcnaofgaaDoor
