/-
  The reference's Owned. Walks; no statement.
-/
import Derived.Test.YtgppclmofphlfaaGreatDoorTreeRef3
import Derived.BigQuiet
namespace Go.Proofs.YtgppclmofphlfaaGreatDoor
set_option maxRecDepth 100000
open Go.RowKit
set_option linter.unusedVariables false

theorem tOwned_cons (os : List Int) (t : List Lf) (x : Lf) : tOwned os (x :: t) = tOwned os t ++ (if x.own ∈ os then [x.path] else []) := by
  unfold tOwned
  rw [List.reverse_cons, List.filter_append, List.map_append]
  congr 1
  by_cases h : x.own ∈ os <;> simp [h]
set_option maxHeartbeats 3200000 in
theorem refOwned_any (OA : Option Addr) (oc : Nat) (os : List Int) (A : Option Addr) (c : Nat) (t : List Lf) (F : Nat → Prop) (w : World) (h : RdS RLf F w A c t) (ho : Rd w OA os.length (os.map (.int .i64 ·))) (hm : os.length ≤ maxLen) (hn : t.length ≤ 1000) :
    Calls Tryz.prog 31 #[.agg #[.slice A t.length c], .slice OA os.length oc] w (FreshT (tOwned os t) w) := by
  obtain ⟨i0, hi, hz0, hz1, hz2⟩ := info_parts info_str
  have hB1 := (Below.refl w.heap.size w).alloc (Nat.le_refl _) (.cells #[.slice A t.length c] 30)
  have HR := Lib.hid h
  have HRO := Lib.hid ho
  simp only [maxLen] at hm
  obtain ⟨W1, hW1⟩ : ∃ W1, W1 = w.alloc (.cells #[.slice A t.length c] 30) := ⟨_, rfl⟩
  rw [← hW1] at hB1
  have HB1 := Lib.hid hB1
  have HS1 := Lib.hid (show W1.heap.size = w.heap.size + 1 by rw [hW1]; simp)
  have HK := Lib.hid (show Bk W1 w.heap.size 30 [.slice A t.length c] by rw [hW1]; exact Bk.new w _ _)
  have HE := Lib.hid (show OwnT (W1.alloc (.cells #[] 9)) (w.heap.size + 1) (some ⟨w.heap.size + 1, 0, none⟩) 0 0 [] by
    have := ownT_empty W1
    rw [HS1.out] at this
    exact this)
  have HWE := Lib.hid hW1
  have hj0 : (W1.alloc (.cells #[] 9)).cell? ⟨w.heap.size, 0, none⟩ = some (.slice A t.length c) := (HK.out.alloc _).at_ rfl
  have HJ0 := Lib.hid hj0
  clear h hB1 hW1 ho hj0
  go_enter Tryz.func31, Tryz.ntmps31
  have wl : IntKind.i64.wrap ((t.length : Int) - 1) = (t.length : Int) - 1 := by simp only [IntKind.wrap, IntKind.bits, IntKind.signed]; simp; omega
  go_wp2_with fail
  rw [← HWE.out]
  have j0 := HJ0.out
  go_wp2_with fail
  go_loopw [5, 6] (fun s i wr => ∃ (A' : Option Addr) (n' c' j : Nat) (z : Int), j ≤ t.length ∧ z = (j : Int) - 1 ∧ s = .slice A' n' c' ∧ i = .int .i64 z ∧ OwnT wr (w.heap.size + 1) A' n' c' (tOwned os (t.drop j)) ∧ n' ≤ t.length - j ∧ Below (w.heap.size + 1) W1 wr) (fun _ i _ => (intOf i + 1).toNat)
  case atStart => exact ⟨_, 0, 0, t.length, _, Nat.le_refl _, rfl, rfl, rfl, by rw [List.drop_length]; exact HE.out, by omega, (Below.refl _ _).alloc (by rw [HS1.out]; exact Nat.le_refl _) _⟩
  case round =>
    obtain ⟨A', n', c', j, z, hj, hz, rfl, rfl, ho, hnk, hb⟩ := hrel
    rename World => wz
    have HBwr := Lib.hid hb
    have HBwn := Lib.hid (show Below w.heap.size w wz from HB1.out.trans (hb.mono (by omega)))
    have HO := Lib.hid ho
    clear j0
    have j0 : wz.cell? ⟨w.heap.size, 0, none⟩ = some (.slice A t.length c) := (HK.out.below hb (by omega)).at_ rfl
    have hszr : w.heap.size + 1 ≤ wz.heap.size := by have h1 := hb.size; have h2 := HS1.out; omega
    clear ho hb
    cases j with
    | zero =>
      obtain rfl : z = -1 := by omega
      clear hz
      have HX := Lib.hid (show OwnT wz w.heap.size A' n' c' (tOwned os t) by have := HO.out; rw [List.drop_zero] at this; exact this.more (by omega))
      go_wp2_with fail
      go_ret
      exact ⟨A', n', c', rfl, HX.out, HBwn.out⟩
    | succ k =>
      obtain rfl : z = (k : Int) := by omega
      clear hz
      obtain ⟨x, hx⟩ : ∃ x, t[k]? = some x := ⟨_, List.getElem?_eq_getElem hj⟩
      have HV := Lib.hid (show tOwned os (t.drop k) = tOwned os (t.drop (k + 1)) ++ (if x.own ∈ os then [x.path] else []) by
        obtain ⟨hh, rfl⟩ := List.getElem?_eq_some_iff.1 hx
        rw [List.drop_eq_getElem_cons hh]; exact tOwned_cons os _ _)
      obtain ⟨y, XA, XC, rfl, hyb, u0, _, _, u3, _⟩ := HR.out.lf6 hx
      have c0 := cell_kept u0 HBwn.out
      have c3 := cell_kept u3 HBwn.out
      have HOR := Lib.hid (HRO.out.below HBwn.out)
      have y1 : (0 : Int) ≤ (k : Int) := by omega
      have y2 : (k : Int) < (t.length : Int) := by omega
      clear hx hyb u0 u3
      go_wp2_with fail
      go_loopw [7, 8] (fun b s wy => ∃ i : Nat, i ≤ os.length ∧ s = .int .i64 i ∧ b = .bool (decide (x.own ∈ os.take i)) ∧ Below wz.heap.size wz wy) (fun _ s _ => os.length - (intOf s).toNat)
      case atStart => exact ⟨0, by omega, rfl, by simp, Below.refl _ _⟩
      case round =>
        obtain ⟨i, hi1, rfl, rfl, hbx⟩ := hrel
        have HBX := Lib.hid hbx
        have HO2 := Lib.hid (HO.out.below hbx)
        have HB2 := Lib.hid (below_next HBwr.out hbx (by omega))
        have HOR2 := Lib.hid (HOR.out.below hbx)
        replace c0 := cell_kept c0 hbx
        replace c3 := cell_kept c3 hbx
        replace j0 := cell_kept j0 hbx
        have hszx : w.heap.size + 1 ≤ wr.heap.size := by have := hbx.size; omega
        clear hbx
        by_cases hil : i < os.length
        · obtain ⟨a, rfl, hab, hac⟩ := HOR2.out.at_ hil
          have hoi : (os.map (Value.int .i64 ·)).getD i undef = .int .i64 os[i] := by simp [List.getD, hil]
          rw [hoi] at hac
          have HT := Lib.hid (show os.take (i + 1) = os.take i ++ [os[i]] from List.take_succ_eq_append_getElem hil)
          have y3 : (0 : Int) ≤ (i : Int) := by omega
          have y4 : (i : Int) < (os.length : Int) := by omega
          generalize os[i] = o at hac HT
          clear hoi hab
          by_cases hin : x.own ∈ os.take i
          · have HV2 := Lib.hid (show decide (x.own ∈ os.take (i + 1)) = true by rw [HT.out]; simp [hin])
            rw [show decide (x.own ∈ os.take i) = true by simpa using hin]
            clear hin
            go_upto_region 9 with fail
            go_quiet (fail)
            go_wp2_with fail
            go_roundw
            case rel => exact ⟨i + 1, by omega, by go_num, by rw [HV2.out], below_drewN HBX.out nq⟩
            case measure => simp [intOf]; omega
          · rw [show decide (x.own ∈ os.take i) = false by simpa using hin]
            by_cases hoe : o = x.own
            · have b1 : (o == x.own) = true := by simpa using hoe
              have HV2 := Lib.hid (show decide (x.own ∈ os.take (i + 1)) = true by rw [HT.out, hoe]; simp)
              clear hin hoe
              go_upto_region 9 with fail
              go_quiet (fail)
              go_wp2_with fail
              go_roundw
              case rel => exact ⟨i + 1, by omega, by go_num, by rw [HV2.out], below_drewN HBX.out nq⟩
              case measure => simp [intOf]; omega
            · have b1 : (o == x.own) = false := by simpa using hoe
              have HV2 := Lib.hid (show decide (x.own ∈ os.take (i + 1)) = false by rw [HT.out]; simp only [List.mem_append, List.mem_singleton, hin, false_or, decide_eq_false_iff_not]; exact fun e => hoe e.symm)
              clear hin hoe
              go_upto_region 9 with fail
              go_quiet (fail)
              go_wp2_with fail
              go_roundw
              case rel => exact ⟨i + 1, by omega, by go_num, by rw [HV2.out], below_drewN HBX.out nq⟩
              case measure => simp [intOf]; omega
        · obtain rfl : i = os.length := by omega
          by_cases hin : x.own ∈ os
          · have HV2 := Lib.hid (show tOwned os (t.drop k) = tOwned os (t.drop (k + 1)) ++ [x.path] by rw [HV.out, if_pos hin])
            rw [show decide (x.own ∈ os.take os.length) = true by rw [List.take_length]; simpa using hin]
            clear hin
            have wk : IntKind.i64.wrap ((k : Int) - 1) = (k : Int) - 1 := by simp only [IntKind.wrap, IntKind.bits, IntKind.signed]; simp; omega
            go_wp2_with (first
              | (at_builtin
                 refine wpList_append_rd _ rfl (.tmp 39) (.tmp 46) 53 rfl (w.heap.size + 1) 9 i0 _ 16 Tryz.underlying53 hi hz0 hz1 hz2 rfl A' n' c' ((tOwned os (t.drop (k + 1))).map sv) rfl (World.ownsRow.alloc HO2.out _) (some ⟨wr.heap.size, 0, none⟩) 1 1 [sv x.path] rfl
                   (Rd.new wr [sv x.path] _) (by intro u hu; rw [List.mem_singleton.1 hu]; rfl) (by simp only [maxLen]; omega) (by omega) (by simp; omega) ?_
                 intro A3 c3' w3 hown3 hg3 hrow3))
            go_roundw
            case rel =>
              refine ⟨A3, n' + 1, c3', k, _, by omega, rfl, rfl, rfl, ?_, by omega, ?_⟩
              · unfold OwnT
                rw [HV2.out, List.map_append]
                exact hown3
              · exact (HB2.out.alloc (by have := HS1.out; have := HB2.out.size; omega) _).grown hg3 (by simp; omega) (fun g e => (World.ownsRow.lt HO2.out g e).1)
            case measure => simp [intOf]
          · have HV2 := Lib.hid (show tOwned os (t.drop k) = tOwned os (t.drop (k + 1)) by rw [HV.out, if_neg hin, List.append_nil])
            rw [show decide (x.own ∈ os.take os.length) = false by rw [List.take_length]; simpa using hin]
            clear hin
            have wk : IntKind.i64.wrap ((k : Int) - 1) = (k : Int) - 1 := by simp only [IntKind.wrap, IntKind.bits, IntKind.signed]; simp; omega
            go_wp2_with fail
            go_roundw
            case rel => exact ⟨A', n', c', k, _, by omega, rfl, rfl, rfl, by rw [HV2.out]; exact HO2.out, by omega, HB2.out⟩
            case measure => simp [intOf]
end Go.Proofs.YtgppclmofphlfaaGreatDoor
