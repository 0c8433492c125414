import Derived.Test.YtmiejaohkgemnaaDoorLogDev2
import Derived.Test.YtmiejaohkgemnaaDoorMRefSum
import Derived.Test.YtmiejaohkgemnaaDoorMNum
import Derived.Test.YtmiejaohkgemnaaDoorLogDisk
import Derived.Test.YtmiejaohkgemnaaDoorLogGood

/-
  The reference's log: Frame, long, next. Walks; no statement.
-/
namespace Go.Proofs.YtmiejaohkgemnaaDoor
open Go.RowKit
open Pk Sh
set_option linter.unusedVariables false
set_option maxRecDepth 100000

theorem refNums_two (W : World) (g p : Nat) (hg : g < 4611686018427387904) (hp : p < 4611686018427387904) :
    Calls Tryd.prog 65 #[.slice (some ⟨W.heap.size, 0, none⟩) 2 2] (W.alloc (.cells #[.int .i64 g, .int .i64 p] 3)) (Fresh2 (W.heap.size + 1) (Lg.headB g p) (W.alloc (.cells #[.int .i64 g, .int .i64 p] 3))) := by
  refine (refNums_any _ 2 2 [(g : Int), (p : Int)] _ (Rd.new W ([(g : Int), (p : Int)].map iv) 3) (by omega)).mono ?_
  rintro e w' ⟨hb, ⟨hbad, _⟩ | ⟨_, A, n, c, rfl, ho⟩⟩
  · rw [numsBad_two g p hg hp] at hbad; cases hbad
  · rw [numsN_two] at ho
    exact ⟨A, n, c, rfl, by simpa using ho, hb⟩
set_option maxHeartbeats 3200000 in
theorem refFrame (g p : Nat) (B : Option Addr) (n c : Nat) (l : List UInt8) (w : World) (h : Rd w B n (l.map bv)) (hn : n ≤ 1099511627700) (hg : g < 4611686018427387904) (hp : p < 4611686018427387904) :
    Calls Tryd.prog 43 #[.int .i64 g, .int .i64 p, .slice B n c] w (Fresh1 (Lg.frame g p l) w) := by
  obtain ⟨i0, hi, hz0, hz1, hz2⟩ := info_parts info_u8
  have hl : l.length = n := by simpa using h.1
  have HB := Lib.hid h
  have HL := Lib.hid hl
  have HN := Lib.hid (refNums_two w g p hg hp)
  have HHL := Lib.hid (Lg.headB_le hg hp)
  have HNB := Lib.hid hn
  clear h hl hn
  go_enter Tryd.func43, Tryd.ntmps43
  go_wp2_with fail
  refine HN.out.mono ?_
  rintro e w2 ⟨A2, n2, c2, rfl, ho2, hb2⟩
  have hbw := below_next ((Below.refl w.heap.size w).alloc (Nat.le_refl _) (.cells #[.int .i64 g, .int .i64 p] 3)) hb2 (by simp)
  have HNU := Lib.hid (refNum_ok n w2 (by have := HNB.out; omega))
  have HO2 := Lib.hid (show OwnB w2 w.heap.size A2 n2 c2 (Lg.headB g p) from ho2.more (by omega))
  have HBW := Lib.hid hbw
  clear hb2 ho2 hbw HN
  go_wp2_with fail
  refine HNU.out.mono ?_
  rintro e w3 ⟨A3, n3, c3, rfl, ho3, hb3⟩
  have HX2 := Lib.hid (show ∀ i, (Value.slice A2 n2 c2).ownBlock = some i → i < w2.heap.size from fun i e => (World.ownsRow.lt HO2.out i e).2)
  have ho2 := HO2.out.below hb3
  have hbw := below_next HBW.out hb3 HBW.out.size
  have HN2 := Lib.hid (show n2 ≤ 18 by rw [← ho2.len]; exact HHL.out)
  have HN3 := Lib.hid (show n3 ≤ 9 by rw [← ho3.len]; exact encN_len9 (by have := HNB.out; omega))
  have HS2 := Lib.hid HBW.out.size
  have HO2 := Lib.hid ho2
  have HO3 := Lib.hid ho3
  have HR3 := Lib.hid (HB.out.below hbw)
  have HBW := Lib.hid hbw
  clear ho2 ho3 hb3 hbw HNU
  go_wp2_with (at_builtin
               refine wpList_append_rd _ rfl _ _ 32 rfl w.heap.size 5 i0 _ 1 Tryd.underlying32 hi hz0 hz1 hz2 rfl A2 n2 c2 ((Lg.headB g p).map bv) rfl HO2.out B n c (l.map bv) rfl
                 HR3.out (oneCell_bytes l) (by have := HNB.out; have := HN2.out; simp only [maxLen]; omega) (by have := HNB.out; have := HN2.out; omega) HBW.out.size ?_
               intro A4 c4 w4 hown4 hg4 hrow4
               have hch : Chg (fun i => (Value.slice A2 n2 c2).ownBlock = some i) w3 w4 := (Chg.refl (fun i => (Value.slice A2 n2 c2).ownBlock = some i) _).grown hg4 (fun i e => .inl e)
               have ho3 := hch.ownB HO3.out (fun i e e2 => by have h1 := HO3.out.block i e; have h2 := HX2.out i e2; omega)
               have how : OwnB w4 w.heap.size A4 (n2 + n) c4 (Lg.headB g p ++ l) := by unfold OwnB; rw [List.map_append]; exact hown4
               have hbw := HBW.out.grown hg4 HBW.out.size (fun i e => (World.ownsRow.lt HO2.out i e).1)
               have HRS := Lib.hid (refSum_any A4 (n2 + n) c4 (Lg.headB g p ++ l) w4 how.rd (by have := HNB.out; have := HN2.out; omega))
               have HO3 := Lib.hid ho3
               have HBW := Lib.hid hbw
               clear hch ho3 how hbw hown4 hg4 hrow4 HR3)
  refine HRS.out.mono ?_
  rintro e w5 ⟨A5, n5, c5, rfl, ho5, hb5⟩
  have hn5 : n5 = 32 := by rw [← ho5.len, sum_len]
  subst hn5
  have hc5 := own_cap ho5
  have hsl : ∀ wx, (Instr.slice 32 (.slice A5 32 c5) none (some (.int .i64 4)) none).run Tryd.prog wx = .ok (.slice A5 4 c5) wx := slice_h A5 32 c5 4 (by omega) hc5.2
  have hf := own_front (k := 4) ho5 (by omega)
  have hbw := below_next HBW.out hb5 HBW.out.size
  have HF := Lib.hid (show Rd w5 A5 4 ((Lg.dig g p l).map bv) from hf.rd)
  have HO3 := Lib.hid ((HO3.out.below hb5).more HS2.out)
  have HBW := Lib.hid hbw
  clear ho5 hb5 hc5 hf hbw HRS
  go_wp2_with (first
    | (at_builtin
       refine wpList_append_rd _ rfl (.tmp 24) (.tmp 29) 32 rfl w.heap.size 5 i0 _ 1 Tryd.underlying32 hi hz0 hz1 hz2 rfl A3 n3 c3 ((encN n).map bv) rfl HO3.out A5 4 c5 ((Lg.dig g p l).map bv) rfl
         HF.out (oneCell_bytes _) (by have := HN3.out; simp only [maxLen]; omega) (by have := HN3.out; omega) HBW.out.size ?_
       intro A6 c6 w6 hown6 hg6 hrow6
       have hbw := HBW.out.grown hg6 HBW.out.size (fun i e => (World.ownsRow.lt HO3.out i e).1)
       have HO6 := Lib.hid (show OwnB w6 w.heap.size A6 (n3 + 4) c6 (encN n ++ Lg.dig g p l) by unfold OwnB; rw [List.map_append]; exact hown6)
       have HR6 := Lib.hid (HB.out.below hbw)
       have HBW := Lib.hid hbw
       clear hown6 hg6 hrow6 hbw HF HO3)
    | (at_builtin
       refine wpList_append_rd _ rfl (.tmp 31) (.tmp 32) 32 rfl w.heap.size 5 i0 _ 1 Tryd.underlying32 hi hz0 hz1 hz2 rfl A6 (n3 + 4) c6 ((encN n ++ Lg.dig g p l).map bv) rfl HO6.out B n c (l.map bv) rfl
         HR6.out (oneCell_bytes _) (by have := HN3.out; have := HNB.out; simp only [maxLen]; omega) (by have := HN3.out; have := HNB.out; omega) HBW.out.size ?_
       intro A7 c7 w7 hown7 hg7 hrow7
       have HB7 := Lib.hid (HBW.out.grown hg7 HBW.out.size (fun i e => (World.ownsRow.lt HO6.out i e).1))
       have HO7 := Lib.hid (show OwnB w7 w.heap.size A7 (n3 + 4 + n) c7 (Lg.frame g p l) by
         have e : Lg.frame g p l = encN n ++ Lg.dig g p l ++ l := by unfold Lg.frame; rw [HL.out, List.append_assoc]
         rw [e]
         unfold OwnB
         rw [List.map_append (l₂ := l)]
         exact hown7)
       clear hown7 hg7 hrow7))
  go_ret
  exact ⟨_, _, _, rfl, HO7.out, HB7.out⟩
end Go.Proofs.YtmiejaohkgemnaaDoor

/-
  The reference's log: next, long, whole. Walks; no statement.
-/
namespace Go.Proofs.YtmiejaohkgemnaaDoor
open Go.RowKit
open Pk Sh
set_option linter.unusedVariables false
set_option maxRecDepth 100000

/-- a slice's bytes from l to h -/
theorem slice_lh (A : Option Addr) (n c l h : Nat) (hl : l ≤ h) (hh : h ≤ c) (hc : c ≤ maxLen) (wx : World) : (Instr.slice 32 (.slice A n c) (some (.int .i64 (l : Int))) (some (.int .i64 (h : Int))) none).run Tryd.prog wx = .ok (.slice (cutA A c l) (h - l) (c - l)) wx := by
  rw [run_slice_lh wx _ _ _ _ (by kernel_rfl) .i64 .i64 (l : Int) (h : Int) (by omega) (by omega) (by omega)]
  have e : Tryd.prog.elem 32 = 5 := by kernel_rfl
  rw [e, size_u8]
  simp [Result.andThen, sliced, cutA]
/-- next's answer -/
def NextP (l : List UInt8) (w : World) (e : Ending) (w' : World) : Prop :=
  Below w.heap.size w w' ∧ ((Lg.cut l = none ∧ e = .returned (.tuple #[.slice none 0 0, .int .i64 0, .bool false])) ∨
    ∃ s p r A c, Lg.cut l = some (s, p, r) ∧ e = .returned (.tuple #[.slice A p.length c, .int .i64 ((l.length - r.length : Nat) : Int), .bool true]) ∧ Sl w' A p.length c p)
theorem next_no {l : List UInt8} {w w' : World} (hb : Below w.heap.size w w') (h : ¬ ((rdN l).2.2 = 0 ∧ (rdN l).1 ≤ 65536 ∧ (rdN l).2.1 + 4 + (rdN l).1 ≤ l.length)) : NextP l w (.returned (.tuple #[.slice none 0 0, .int .i64 0, .bool false])) w' :=
  ⟨hb, .inl ⟨by unfold Lg.cut; rw [if_neg h], rfl⟩⟩
set_option maxHeartbeats 3200000 in
theorem refNext (A : Option Addr) (n c : Nat) (l : List UInt8) (w : World) (h : Rd w A n (l.map bv)) (hc : n ≤ c) (hn : n ≤ 1099511627776) :
    Calls Tryd.prog 56 #[.slice A n c] w (NextP l w) := by
  have hl : l.length = n := by simpa using h.1
  have HR := Lib.hid (refRead_any A n c l w h hc hn)
  have HL := Lib.hid hl
  have HN := Lib.hid hn
  obtain ⟨v, hv⟩ : ∃ v, v = (rdN l).1 := ⟨_, rfl⟩
  obtain ⟨k, hk⟩ : ∃ k, k = (rdN l).2.1 := ⟨_, rfl⟩
  obtain ⟨er, her⟩ : ∃ er, er = (rdN l).2.2 := ⟨_, rfl⟩
  have HV := Lib.hid (And.intro hv (And.intro hk her))
  have HLT := Lib.hid (show v < 4611686018427387904 by rw [hv]; exact rdN_lt l)
  clear h hl hc hn hv hk her
  go_enter Tryd.func56, Tryd.ntmps56
  go_wp2_with fail
  refine HR.out.mono ?_
  rintro e w2 ⟨A2, n2, c2, rfl, ho2, hb2⟩
  rw [← HV.out.1, ← HV.out.2.2]
  have HB := Lib.hid hb2
  have HO := Lib.hid ho2
  clear hb2 ho2 HR
  by_cases h0 : er = 0
  · have h0' := h0
    subst h0
    have hrest : restN l = l.drop k := by unfold restN; rw [if_pos HV.out.2.2.symm, ← HV.out.2.1]
    have hkl : 0 < k ∧ k ≤ l.length := by rw [HV.out.2.1]; exact rdN_count HV.out.2.2.symm
    have hn2 : n2 = n - k := by rw [← HO.out.len, hrest, List.length_drop, HL.out]
    have HK := Lib.hid hkl
    have HRE := Lib.hid hrest
    have HN2 := Lib.hid hn2
    clear h0' hrest hkl hn2
    by_cases h1 : v ≤ 65536
    · have HV1 := Lib.hid h1
      have y1 : ¬ (65536 : Int) < (v : Int) := by omega
      have y2 : IntKind.i64.wrap (4 + (v : Int)) = 4 + (v : Int) := by simp only [IntKind.wrap, IntKind.bits, IntKind.signed]; simp; omega
      clear h1
      by_cases h2 : 4 + v ≤ n2
      · have y3 : ¬ (n2 : Int) < 4 + (v : Int) := by omega
        have hcap := own_cap HO.out
        have hsl : ∀ wx, (Instr.slice 32 (.slice A2 n2 c2) (some (.int .i64 4)) (some (.int .i64 (4 + (v : Int)))) none).run Tryd.prog wx = .ok (.slice (cutA A2 c2 4) v (c2 - 4)) wx := fun wx => by
          have := slice_lh A2 n2 c2 4 (4 + v) (by omega) (by omega) hcap.2 wx
          rw [Nat.add_sub_cancel_left] at this
          exact this
        have HK2 := Lib.hid (show k + 4 + v ≤ n by have := HN2.out; have := HK.out; omega)
        have hs := ((Sl.own HO.out).fst h2).snd (k := 4) (by omega)
        rw [Nat.add_sub_cancel_left, HRE.out, List.drop_take, Nat.add_sub_cancel_left] at hs
        have HS := Lib.hid hs
        have y4 : IntKind.i64.wrap ((n : Int) - (n2 : Int)) = (k : Int) := by have := HN2.out; have := HK2.out; have := HN.out; simp only [IntKind.wrap, IntKind.bits, IntKind.signed]; simp; omega
        have y5 : IntKind.i64.wrap ((k : Int) + 4) = (k : Int) + 4 := by have := HK2.out; have := HN.out; simp only [IntKind.wrap, IntKind.bits, IntKind.signed]; simp; omega
        have y6 : IntKind.i64.wrap ((k : Int) + 4 + (v : Int)) = (k : Int) + 4 + (v : Int) := by have := HK2.out; have := HN.out; simp only [IntKind.wrap, IntKind.bits, IntKind.signed]; simp; omega
        clear hcap hs h2
        go_wp2_with fail
        go_ret3
        refine ⟨HB.out, .inr ⟨(l.drop k).take 4, ((l.drop k).drop 4).take v, ((l.drop k).drop 4).drop v, cutA A2 c2 4, c2 - 4, ?_, ?_, ?_⟩⟩
        · unfold Lg.cut
          rw [if_pos ⟨HV.out.2.2.symm, by rw [← HV.out.1]; exact HV1.out, by rw [← HV.out.1, ← HV.out.2.1, HL.out]; exact HK2.out⟩, ← HV.out.1, ← HV.out.2.1]
        · have e1 : (((l.drop k).drop 4).take v).length = v := by simp; have := HL.out; have := HK2.out; omega
          have e2 : l.length - (((l.drop k).drop 4).drop v).length = k + 4 + v := by simp; have := HL.out; have := HK2.out; omega
          rw [e1, e2]
          simp
        · have e1 : (((l.drop k).drop 4).take v).length = v := by simp; have := HL.out; have := HK2.out; omega
          rw [e1]
          exact HS.out
      · have y3 : (n2 : Int) < 4 + (v : Int) := by omega
        have HK2 := Lib.hid (show ¬ k + 4 + v ≤ n by have := HN2.out; have := HK.out; have := HL.out; omega)
        clear h2
        go_wp2_with fail
        go_ret3
        exact next_no HB.out (fun hx => HK2.out (by have := hx.2.2; rw [← HV.out.1, ← HV.out.2.1, HL.out] at this; exact this))
    · have y1 : (65536 : Int) < (v : Int) := by omega
      have HV1 := Lib.hid h1
      clear h1
      go_wp2_with fail
      go_ret3
      exact next_no HB.out (fun hx => HV1.out (by rw [HV.out.1]; exact hx.2.1))
  · have y1 : ((er : Int) != 0) = true := by rw [bne_iff_ne]; omega
    have y2 : ¬ (er : Int) = 0 := by omega
    have HE := Lib.hid h0
    clear h0
    go_wp2_with fail
    go_ret3
    exact next_no HB.out (fun hx => HE.out (by rw [HV.out.2.2]; exact hx.1))
set_option maxHeartbeats 1600000 in
theorem refLong (A : Option Addr) (n c : Nat) (ls : List (List UInt8)) (w : World) (h : RdRows w A n ls) (hn : n ≤ 1099511627776) :
    Calls Tryd.prog 42 #[.slice A n c] w (Quiet (.bool (Lg.longs ls)) w) := by
  have hl := h.1
  have HR := Lib.hid h
  have HL := Lib.hid hl
  have HN := Lib.hid hn
  clear h hl hn
  go_enter Tryd.func42, Tryd.ntmps42
  go_wp2_with fail
  go_loopw [3] (fun i wr => ∃ k : Nat, k ≤ n ∧ i = .int .i64 (k : Nat) ∧ Lg.longs (ls.take k) = false ∧ ∃ m, wr = w.drewN m) (fun i _ => n - (intOf i).toNat)
  case atStart => exact ⟨0, Nat.zero_le _, rfl, rfl, 0, rfl⟩
  case round =>
    obtain ⟨k, hk, rfl, hlo, m, rfl⟩ := hrel
    by_cases hkn : k < n
    · obtain ⟨x, E, e, rfl, _, hc, _, _, hr, _⟩ := (HR.out).at_ hkn
      have hnx : Lg.longs (ls.take (k + 1)) = (Lg.longs (ls.take k) || decide (65536 < (ls.getD k []).length)) := by
        rw [take_snocD ls [] k (by rw [HL.out]; exact hkn)]
        unfold Lg.longs
        rw [List.any_append]
        simp
      generalize ls.getD k [] = z at *
      have HKN := Lib.hid hkn
      have HNX := Lib.hid hnx
      have HLO := Lib.hid hlo
      have HLT := Lib.hid (show ls.take (k + 1) ++ ls.drop (k + 1) = ls from List.take_append_drop _ _)
      have y1 : (0 : Int) ≤ (k : Int) := by omega
      have y2 : (k : Int) < (n : Int) := by omega
      have w1' : IntKind.i64.wrap ((k : Int) + 1) = (k : Int) + 1 := by have := HN.out; simp only [IntKind.wrap, IntKind.bits, IntKind.signed]; simp; omega
      clear hkn hnx hlo hr
      by_cases hz : 65536 < z.length
      · have y3 : (65536 : Int) < (z.length : Int) := by omega
        have HQ := Lib.hid (show Lg.longs ls = true by
          have h1 := HNX.out
          rw [show decide (65536 < z.length) = true by simp [hz], Bool.or_true] at h1
          rw [← HLT.out]
          unfold Lg.longs at h1 ⊢
          rw [List.any_append, h1, Bool.true_or])
        rw [HQ.out]
        clear hz
        go_wp2_with fail
        go_ret
        exact ⟨rfl, _, rfl⟩
      · have y3 : ¬ (65536 : Int) < (z.length : Int) := by omega
        have HQ := Lib.hid (show Lg.longs (ls.take (k + 1)) = false by rw [HNX.out, HLO.out]; simp [hz])
        clear hz
        go_wp2_with fail
        go_roundw
        case rel => exact ⟨k + 1, by have := HKN.out; omega, by go_num, HQ.out, _, rfl⟩
        case measure => have := HKN.out; simp [intOf]; omega
    · have y2 : ¬ (k : Int) < (n : Int) := by omega
      have HQ := Lib.hid (show Lg.longs ls = false by rw [← List.take_of_length_le (show ls.length ≤ k by rw [HL.out]; omega)]; exact hlo)
      clear hkn hlo
      go_wp2_with fail
      go_ret
      exact ⟨by rw [HQ.out]; rfl, _, rfl⟩
end Go.Proofs.YtmiejaohkgemnaaDoor

/-
  The reference's log: whole. A walk; no statement.
-/
namespace Go.Proofs.YtmiejaohkgemnaaDoor
open Go.RowKit
open Pk Sh
set_option linter.unusedVariables false
set_option maxRecDepth 100000

set_option maxHeartbeats 3200000 in
theorem refWhole (g : Nat) (A : Option Addr) (n c : Nat) (ls : List (List UInt8)) (w : World) (h : RdRows w A n ls) (hn : n ≤ 4294967296) (hg : g < 4611686018427387904) (ht : ∀ l ∈ ls, l.length ≤ 65536) (hw : (Lg.whole g n ls).length ≤ 1099511627776) :
    Calls Tryd.prog 58 #[.int .i64 g, .slice A n c] w (Fresh1 (Lg.whole g n ls) w) := by
  obtain ⟨i0, hi, hz0, hz1, hz2⟩ := info_parts info_u8
  have hl := h.1
  have HR := Lib.hid h
  have HL := Lib.hid hl
  have HN := Lib.hid hn
  have HALL := Lib.hid ht
  have HWL := Lib.hid hw
  have HHL := Lib.hid (Lg.headB_le hg (show n < 4611686018427387904 by omega))
  have HNU := Lib.hid (refNums_two w g n hg (by omega))
  clear h hl hn ht hw
  go_enter Tryd.func58, Tryd.ntmps58
  go_wp2_with fail
  refine HNU.out.mono ?_
  rintro e w2 ⟨A2, n2, c2, rfl, ho2, hb2⟩
  have hbw := below_next ((Below.refl w.heap.size w).alloc (Nat.le_refl _) (.cells #[.int .i64 g, .int .i64 n] 3)) hb2 (by simp)
  have HF := Lib.hid (refFrame g 0 A2 n2 c2 (Lg.headB g n) w2 ho2.rd (by have := ho2.len; have := HHL.out; omega) hg (by omega))
  have HBW := Lib.hid hbw
  clear ho2 hb2 hbw HNU
  go_wp2_with fail
  refine HF.out.mono ?_
  rintro e w3 ⟨A3, n3, c3, rfl, ho3, hb3⟩
  have HO3 := Lib.hid (ho3.more HBW.out.size)
  have HBW := Lib.hid (below_next HBW.out hb3 HBW.out.size)
  clear ho3 hb3 HF
  go_wp2_with fail
  go_loopw [7, 8] (fun b i wr => ∃ (k : Nat) (A' : Option Addr) (n' c' : Nat), k ≤ n ∧ i = .int .i64 (k : Nat) ∧ b = .slice A' n' c' ∧ OwnB wr w.heap.size A' n' c' (Lg.frame g 0 (Lg.headB g n) ++ Lg.frames g 1 (ls.take k)) ∧ Below w.heap.size w wr) (fun _ i _ => n - (intOf i).toNat)
  case atStart => exact ⟨0, A3, n3, c3, Nat.zero_le _, rfl, rfl, by simpa [Lg.frames] using HO3.out, HBW.out⟩
  case round =>
    clear HO3 HBW
    obtain ⟨k, A', n', c', hk, rfl, rfl, ho, hb⟩ := hrel
    rename World => wr
    by_cases hkn : k < n
    · have hkl : k < ls.length := by rw [HL.out]; exact hkn
      have hmem := HALL.out _ (getD_mem (d := ([] : List UInt8)) hkl)
      have htk := take_snocD ls [] k hkl
      have hfa := Lg.frames_append g (ls.take k) [ls.getD k []] 1
      rw [← htk, show (ls.take k).length = k by simp; omega] at hfa
      have hwh : (Lg.frames g 1 (ls.take (k + 1))).length ≤ (Lg.frames g 1 ls).length := by
        have := Lg.frames_append g (ls.take (k + 1)) (ls.drop (k + 1)) 1
        rw [List.take_append_drop] at this
        rw [this, List.length_append]; omega
      obtain ⟨x, E, e, rfl, _, hc, hd1, _, hr, _⟩ := (HR.out.below hb).at_ hkn
      generalize ls.getD k [] = z at *
      have hfr : Lg.frames g (1 + k) [z] = Lg.frame g (k + 1) z := by unfold Lg.frames; simp [Lg.frames, Nat.add_comm]
      rw [hfr] at hfa
      have HFA := Lib.hid hfa
      have HKN := Lib.hid hkn
      have HLEN := Lib.hid (show n' + (Lg.frame g (k + 1) z).length ≤ 1099511627776 by
        have h1 := HWL.out
        have h2 := ho.len
        unfold Lg.whole at h1
        rw [List.length_append] at h1 h2
        rw [hfa, List.length_append] at hwh
        omega)
      have HFR := Lib.hid (refFrame g (k + 1) E z.length e z wr hr (by omega) hg (by have := HN.out; omega))
      have HO := Lib.hid ho
      have HB := Lib.hid hb
      have y1 : (0 : Int) ≤ (k : Int) := by omega
      have y2 : (k : Int) < (n : Int) := by omega
      have w1' : IntKind.i64.wrap ((k : Int) + 1) = (k : Int) + 1 := by have := HN.out; simp only [IntKind.wrap, IntKind.bits, IntKind.signed]; simp; omega
      clear hkl hmem htk hfa hwh hfr hd1 hr ho hb hkn
      go_wp2_with fail
      refine HFR.out.mono ?_
      rintro e w5 ⟨A5, n5, c5, rfl, ho5, hb5⟩
      have hl5 := ho5.len
      subst hl5
      have HO5 := Lib.hid ho5.rd
      have HO := Lib.hid (HO.out.below hb5)
      have HB5 := Lib.hid (below_next HB.out hb5 HB.out.size)
      clear ho5 hb5 HFR
      go_wp2_with (at_builtin
                   refine wpList_append_rd _ rfl _ _ 32 rfl w.heap.size 5 i0 _ 1 Tryd.underlying32 hi hz0 hz1 hz2 rfl A' n' c' _ rfl HO.out A5 _ c5 _ rfl
                     HO5.out (oneCell_bytes _) (by have := HLEN.out; simp only [maxLen]; omega) (by have := HLEN.out; omega) HB5.out.size ?_
                   intro A6 c6 w6 hown6 hg6 hrow6
                   have HB6 := Lib.hid (HB5.out.grown hg6 HB5.out.size (fun i e => (World.ownsRow.lt HO.out i e).1))
                   have HO6 := Lib.hid (show OwnB w6 w.heap.size A6 (n' + (Lg.frame g (k + 1) z).length) c6 (Lg.frame g 0 (Lg.headB g n) ++ Lg.frames g 1 (ls.take (k + 1))) by
                     rw [HFA.out, ← List.append_assoc]
                     unfold OwnB
                     rw [List.map_append (l₂ := Lg.frame g (k + 1) z)]
                     exact hown6)
                   clear hown6 hg6 hrow6)
      go_roundw
      case rel => exact ⟨k + 1, A6, _, c6, by have := HKN.out; omega, by go_num, rfl, HO6.out, HB6.out⟩
      case measure => have := HKN.out; simp [intOf]; omega
    · have y2 : ¬ (k : Int) < (n : Int) := by omega
      have hq : ls.take k = ls := List.take_of_length_le (by rw [HL.out]; omega)
      rw [hq] at ho
      have HO := Lib.hid ho
      have HB := Lib.hid hb
      clear hkn ho hb hq
      go_wp2_with fail
      go_ret
      exact ⟨A', n', c', rfl, HO.out, HB.out⟩
end Go.Proofs.YtmiejaohkgemnaaDoor
