import Derived.Test.YtcibjdodkcfpeaaRows1
namespace Go.Proofs.Ytcibjdodkcfpeaa
open Go.RowKit
set_option linter.unusedVariables false


/-- new slices of new bytes: all else is as it was -/
def FreshR (ls : List (List UInt8)) (w : World) (e : Ending) (w' : World) : Prop :=
  ∃ A n c, e = .returned (.slice A n c) ∧ OwnRs w' w.heap.size A n c ls ∧ Below w.heap.size w w'

theorem own_base {w : World} {b b' : Nat} {A : Option Addr} {n c : Nat} {l : List UInt8} (h : OwnB w b' A n c l) (hb : b ≤ b') : OwnB w b A n c l := by
  refine ⟨h.1, ?_⟩
  rcases h.2 with h2 | ⟨g, cap, cur, e1, hg, r⟩
  · exact .inl h2
  · exact .inr ⟨g, cap, cur, e1, by omega, r⟩

set_option maxHeartbeats 800000 in
theorem copyRows_any (A : Option Addr) (n c : Nat) (ls : List (List UInt8)) (w : World) (h : RdRows w A n ls) (ht : total ls ≤ 1099511627776) :
    Calls Try.prog 29 #[.slice A n c] w (FreshR ls w) := by
  obtain ⟨i0, hi, hz0, hz1, hz2⟩ := info_parts info_bytes
  have hx : ls.length = n := h.1
  have hnt := total_len ls
  have hn : n ≤ 1099511627776 := by omega
  have HE := Lib.hid (OwnRs.empty w)
  have HT := Lib.hid ht
  clear ht hnt
  go_enter Try.func29, Try.ntmps29
  go_wp2
  go_loopw [3, 4] (fun s i wr => ∃ (A' : Option Addr) (n' c' k : Nat), k ≤ n ∧ s = .slice A' n' c' ∧ i = .int .i64 k ∧ OwnRs wr w.heap.size A' n' c' (ls.take k) ∧ Below w.heap.size w wr) (fun _ i _ => n - (intOf i).toNat)
  case atStart => exact ⟨_, 0, 0, 0, by omega, rfl, rfl, HE.out, (Below.refl _ _).alloc (Nat.le_refl _) _⟩
  case round =>
    obtain ⟨A', n', c', k, hk, rfl, rfl, ho, hb⟩ := hrel
    by_cases hlt : k < n
    · obtain ⟨a, B, d, rfl, hba, hc, hd1, hd2, hr, _⟩ := (h.below hb).at_ hlt
      have hsn := take_snocD ls [] k (by omega)
      have hmem := total_mem (getD_mem (d := ([] : List UInt8)) (show k < ls.length by omega))
      have hkn : n' = k := by have := ho.1; rw [List.length_take] at this; omega
      subst hkn
      generalize ls.getD n' [] = p at *
      have hpn : p.length ≤ 1099511627776 := by have := HT.out; omega
      have HC := Lib.hid (copyBytes_any B p.length d p wr hr hpn)
      have HSN := Lib.hid hsn
      have HX := Lib.hid hx
      have hs := hb.size
      have e1 : (0 : Int) ≤ (n' : Int) := by omega
      have e2 : (n' : Int) < (n : Int) := by omega
      clear hba hd1 hd2 hr hsn hmem hpn hx
      go_wp2_with fail
      refine HC.out.mono ?_
      rintro e w1 ⟨A1, n1, c1, rfl, ho1, hb1⟩
      have hn1 : p.length = n1 := OwnB.len ho1
      subst hn1
      have hs1 := hb1.size
      obtain ⟨hl0, us, hou, hin⟩ := ho.below hb1
      have hl : ((ls.take n').length = n') := hl0
      have HL := Lib.hid hl
      have HIN := Lib.hid hin
      clear hl hl0 hin
      go_wp2_with (at_builtin
                   refine wpList_append_rd _ rfl _ _ 33 rfl w.heap.size 28 i0 _ 24 Try.underlying33 hi hz0 hz1 hz2 rfl A' n' c' us rfl (World.ownsRow.alloc hou _) (some ⟨w1.heap.size, 0, none⟩) 1 1 [.slice A1 p.length c1] rfl
                     (Rd.new w1 [Value.slice A1 p.length c1] 28) (by simp [Value.oneCell']) (by simp only [maxLen]; omega) (by omega) (by simp; omega) ?_
                   intro A2 c2 w2 hown2 hg2 hrow2)
      go_roundw
      case rel =>
        refine ⟨A2, n' + 1, c2, n' + 1, by omega, rfl, by go_num, ?_, ?_⟩
        · rw [HSN.out]
          exact OwnRs.push (w := w1.alloc (.cells #[.slice A1 p.length c1] 28)) HL.out (World.ownsRow.alloc hou _) (fun k u l hu hl => by
            obtain ⟨A3, c3, e3, h3⟩ := HIN.out k u l hu hl
            exact ⟨A3, c3, e3, h3.alloc _⟩) ((own_base ho1 hs).alloc _) hg2 hown2
        · have b1 := hb.trans (hb1.mono hs)
          have b2 := b1.alloc b1.size (.cells #[.slice A1 p.length c1] 28)
          exact b2.grown hg2 b2.size (OwnRs.block ho)
      case measure => simp [intOf]; omega
    · have e : ls.take k = ls := List.take_of_length_le (by omega)
      rw [e] at ho
      clear e hx
      go_wp2
      go_ret
      exact ⟨A', n', c', rfl, ho, hb⟩
end Go.Proofs.Ytcibjdodkcfpeaa
