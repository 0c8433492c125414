import Derived.Test.YtfdmnnbcnaofgaaDoorRows1
namespace Go.Proofs.YtfdmnnbcnaofgaaDoor
open Go.RowKit
open Pk
set_option linter.unusedVariables false

theorem rows_any (A : Option Addr) (n c : Nat) (ls : List (List UInt8)) (most : Nat) (w : World) (h : RdRows w A n ls) (hm : n ≤ maxLen) (hmost : most ≤ 1099511627776) (hsz : ∀ l ∈ ls, l.length ≤ 140737488355328) :
    Calls Tryd.prog 43 #[.slice A n c, .int .i64 most] w fun e w' => e = .returned (.bool (decide (most < total ls))) ∧ w = w' := by
  unfold maxLen at hm
  have hx : ls.length = n := h.1
  go_enter Tryd.func43, Tryd.ntmps43
  go_wp2
  go_loop [5, 6] (fun s i => ∃ k q : Nat, k ≤ n ∧ i = .int .i64 k ∧ s = .int .i64 q ∧ q = total (ls.take k) ∧ q ≤ most) (fun _ i => n - (intOf i).toNat)
  case atStart => exact ⟨0, 0, Nat.zero_le _, rfl, rfl, by simp [total], by omega⟩
  case round =>
    obtain ⟨k, q, hk, rfl, rfl, hq, hqm⟩ := hrel
    by_cases hlt : k < n
    · obtain ⟨a, B, d, rfl, hb, hc, hd1, hd2, hr, _⟩ := h.at_ hlt
      have ht := take_snocD ls [] k (by omega)
      have hs : total (ls.take (k + 1)) = q + (1 + (ls.getD k []).length) := by
        rw [ht, total_append, ← hq]; simp [total]
      have hle := total_take ls (k + 1)
      have hp : (ls.getD k []).length ≤ 140737488355328 := hsz _ (getD_mem (by omega))
      generalize (ls.getD k []).length = p at *
      have e1 : (0 : Int) ≤ (k : Int) := by omega
      have e2 : (k : Int) < (n : Int) := by omega
      by_cases hbig : most < q + (1 + p)
      · have hd := Lib.hid (show decide (most < total ls) = true by simp; omega)
        clear ht hs hle hq hd1 hd2 hr h hx hsz
        go_wp2
        go_ret
        exact ⟨ret_bool hd.out.symm, rfl⟩
      · clear ht hle hd1 hd2 hr h hx hsz
        have HS := Lib.hid hs
        clear hs hq
        go_wp2
        go_round
        case rel => exact ⟨k + 1, q + (1 + p), by omega, by go_num, by go_num, HS.out.symm, by omega⟩
        case measure => simp [intOf]; omega
    · have hd := Lib.hid (show decide (most < total ls) = false by
        have e : k = n := by omega
        subst e
        rw [List.take_of_length_le (by omega)] at hq
        simp; omega)
      clear hq h hx hsz
      go_wp2
      go_ret
      exact ⟨ret_bool hd.out.symm, rfl⟩

/-- new slices of new bytes: all else is as it was -/
def FreshR (ls : List (List UInt8)) (w : World) (e : Ending) (w' : World) : Prop :=
  ∃ A n c, e = .returned (.slice A n c) ∧ OwnRs w' w.heap.size A n c ls ∧ Below w.heap.size w w'

theorem own_base {w : World} {b b' : Nat} {A : Option Addr} {n c : Nat} {l : List UInt8} (h : OwnB w b' A n c l) (hb : b ≤ b') : OwnB w b A n c l := by
  refine ⟨h.1, ?_⟩
  rcases h.2 with h2 | ⟨g, cap, cur, e1, hg, r⟩
  · exact .inl h2
  · exact .inr ⟨g, cap, cur, e1, by omega, r⟩

set_option maxHeartbeats 800000 in
theorem copyRows_any (A : Option Addr) (n c : Nat) (ls : List (List UInt8)) (w : World) (h : RdRows w A n ls) (ht : total ls ≤ 1099511627776) :
    Calls Tryd.prog 44 #[.slice A n c] w (FreshR ls w) := by
  obtain ⟨i0, hi, hz0, hz1, hz2⟩ := info_parts info_bytes
  have hx : ls.length = n := h.1
  have hnt := total_len ls
  have hn : n ≤ 1099511627776 := by omega
  have HE := Lib.hid (OwnRs.empty w)
  have HT := Lib.hid ht
  clear ht hnt
  go_enter Tryd.func44, Tryd.ntmps44
  go_wp2
  go_loopw [3, 4] (fun s i wr => ∃ (A' : Option Addr) (n' c' k : Nat), k ≤ n ∧ s = .slice A' n' c' ∧ i = .int .i64 k ∧ OwnRs wr w.heap.size A' n' c' (ls.take k) ∧ Below w.heap.size w wr) (fun _ i _ => n - (intOf i).toNat)
  case atStart => exact ⟨_, 0, 0, 0, by omega, rfl, rfl, HE.out, (Below.refl _ _).alloc (Nat.le_refl _) _⟩
  case round =>
    obtain ⟨A', n', c', k, hk, rfl, rfl, ho, hb⟩ := hrel
    by_cases hlt : k < n
    · obtain ⟨a, B, d, rfl, hba, hc, hd1, hd2, hr, _⟩ := (h.below hb).at_ hlt
      have hsn := take_snocD ls [] k (by omega)
      have hmem := total_mem (getD_mem (d := ([] : List UInt8)) (show k < ls.length by omega))
      have hkn : n' = k := by have := ho.1; rw [List.length_take] at this; omega
      subst hkn
      generalize ls.getD n' [] = p at *
      have hpn : p.length ≤ 1099511627776 := by have := HT.out; omega
      have HC := Lib.hid (copyBytes_any B p.length d p wr hr hpn)
      have HSN := Lib.hid hsn
      have HX := Lib.hid hx
      have hs := hb.size
      have e1 : (0 : Int) ≤ (n' : Int) := by omega
      have e2 : (n' : Int) < (n : Int) := by omega
      clear hba hd1 hd2 hr hsn hmem hpn hx
      go_wp2_with fail
      refine HC.out.mono ?_
      rintro e w1 ⟨A1, n1, c1, rfl, ho1, hb1⟩
      have hn1 : p.length = n1 := OwnB.len ho1
      subst hn1
      have hs1 := hb1.size
      obtain ⟨hl0, us, hou, hin⟩ := ho.below hb1
      have hl : ((ls.take n').length = n') := hl0
      have HL := Lib.hid hl
      have HIN := Lib.hid hin
      clear hl hl0 hin
      go_wp2_with (at_builtin
                   refine wpList_append_rd _ rfl _ _ 35 rfl w.heap.size 22 i0 _ 24 Tryd.underlying35 hi hz0 hz1 hz2 rfl A' n' c' us rfl (World.ownsRow.alloc hou _) (some ⟨w1.heap.size, 0, none⟩) 1 1 [.slice A1 p.length c1] rfl
                     (Rd.new w1 [Value.slice A1 p.length c1] 22) (by simp [Value.oneCell']) (by simp only [maxLen]; omega) (by omega) (by simp; omega) ?_
                   intro A2 c2 w2 hown2 hg2 hrow2)
      go_roundw
      case rel =>
        refine ⟨A2, n' + 1, c2, n' + 1, by omega, rfl, by go_num, ?_, ?_⟩
        · rw [HSN.out]
          exact OwnRs.push (w := w1.alloc (.cells #[.slice A1 p.length c1] 22)) HL.out (World.ownsRow.alloc hou _) (fun k u l hu hl => by
            obtain ⟨A3, c3, e3, h3⟩ := HIN.out k u l hu hl
            exact ⟨A3, c3, e3, h3.alloc _⟩) ((own_base ho1 hs).alloc _) hg2 hown2
        · have b1 := hb.trans (hb1.mono hs)
          have b2 := b1.alloc b1.size (.cells #[.slice A1 p.length c1] 22)
          exact b2.grown hg2 b2.size (OwnRs.block ho)
      case measure => simp [intOf]; omega
    · have e : ls.take k = ls := List.take_of_length_le (by omega)
      rw [e] at ho
      clear e hx
      go_wp2
      go_ret
      exact ⟨A', n', c', rfl, ho, hb⟩
end Go.Proofs.YtfdmnnbcnaofgaaDoor
