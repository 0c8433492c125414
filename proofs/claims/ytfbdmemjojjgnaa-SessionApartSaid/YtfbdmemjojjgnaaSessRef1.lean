/-
  The reference's sessions: right, live. Walks; no statement.
-/
import Derived.Test.YtfbdmemjojjgnaaSessCopy
import Derived.BigQuiet
namespace Go.Proofs.Ytfbdmemjojjgnaa
set_option maxRecDepth 100000
open Go.RowKit
set_option linter.unusedVariables false

set_option maxHeartbeats 1600000 in
theorem refRightE_any (x : Se) (w : World) : Calls Try.prog 27 #[.agg #[.int .i64 x.client, .int .i64 x.span, .int .i64 x.seen]] w (Ans (.bool (seRight x)) w) := by
  have HB := Lib.hid ((Below.refl w.heap.size w).alloc (Nat.le_refl _) (.cells #[.int .i64 x.client, .int .i64 x.span, .int .i64 x.seen] 36))
  by_cases h0 : 0 ≤ x.client
  · have d0 : decide (x.client ≥ 0) = true := decide_eq_true h0
    by_cases h1 : x.client < 8
    · have d1 : decide (x.client < 8) = true := decide_eq_true h1
      by_cases h2 : 1 ≤ x.span
      · have d2 : decide (x.span ≥ 1) = true := decide_eq_true h2
        by_cases h3 : x.span ≤ 1000000
        · have d3 : decide (x.span ≤ 1000000) = true := decide_eq_true h3
          by_cases h4 : 0 ≤ x.seen
          · have d4 : decide (x.seen ≥ 0) = true := decide_eq_true h4
            by_cases h5 : x.seen < 1099511627776
            · have d5 : decide (x.seen < 1099511627776) = true := decide_eq_true h5
              have HV := Lib.hid (show seRight x = true from decide_eq_true ⟨h0, h1, h2, h3, h4, h5⟩)
              rw [HV.out]
              clear h0 h1 h2 h3 h4 h5
              go_enter Try.func27, Try.ntmps27
              go_wp2_with fail
              go_ret
              exact ⟨rfl, HB.out⟩
            · have d5 : decide (x.seen < 1099511627776) = false := decide_eq_false h5
              have HV := Lib.hid (show seRight x = false from decide_eq_false fun h => h5 h.2.2.2.2.2)
              rw [HV.out]
              clear h0 h1 h2 h3 h4 h5
              go_enter Try.func27, Try.ntmps27
              go_wp2_with fail
              go_ret
              exact ⟨rfl, HB.out⟩
          · have d4 : decide (x.seen ≥ 0) = false := decide_eq_false h4
            have HV := Lib.hid (show seRight x = false from decide_eq_false fun h => h4 h.2.2.2.2.1)
            rw [HV.out]
            clear h0 h1 h2 h3 h4
            go_enter Try.func27, Try.ntmps27
            go_wp2_with fail
            go_ret
            exact ⟨rfl, HB.out⟩
        · have d3 : decide (x.span ≤ 1000000) = false := decide_eq_false h3
          have HV := Lib.hid (show seRight x = false from decide_eq_false fun h => h3 h.2.2.2.1)
          rw [HV.out]
          clear h0 h1 h2 h3
          go_enter Try.func27, Try.ntmps27
          go_wp2_with fail
          go_ret
          exact ⟨rfl, HB.out⟩
      · have d2 : decide (x.span ≥ 1) = false := decide_eq_false h2
        have HV := Lib.hid (show seRight x = false from decide_eq_false fun h => h2 h.2.2.1)
        rw [HV.out]
        clear h0 h1 h2
        go_enter Try.func27, Try.ntmps27
        go_wp2_with fail
        go_ret
        exact ⟨rfl, HB.out⟩
    · have d1 : decide (x.client < 8) = false := decide_eq_false h1
      have HV := Lib.hid (show seRight x = false from decide_eq_false fun h => h1 h.2.1)
      rw [HV.out]
      clear h0 h1
      go_enter Try.func27, Try.ntmps27
      go_wp2_with fail
      go_ret
      exact ⟨rfl, HB.out⟩
  · have d0 : decide (x.client ≥ 0) = false := decide_eq_false h0
    have HV := Lib.hid (show seRight x = false from decide_eq_false fun h => h0 h.1)
    rw [HV.out]
    clear h0
    go_enter Try.func27, Try.ntmps27
    go_wp2_with fail
    go_ret
    exact ⟨rfl, HB.out⟩
theorem live_next (cl : Int) (t : List Se) (k : Nat) (x : Se) (h : t[k]? = some x) : seLive cl (t.take (k + 1)) = (seLive cl (t.take k) || x.client == cl) := by
  obtain ⟨hk, e⟩ := List.getElem?_eq_some_iff.1 h
  unfold seLive
  rw [take_snoc t k hk, e, List.any_append]
  simp
theorem live_in {cl : Int} {t : List Se} {k : Nat} {x : Se} (h : t[k]? = some x) (hx : x.client = cl) : seLive cl t = true := by
  unfold seLive
  rw [List.any_eq_true]
  exact ⟨x, List.mem_of_getElem? h, by simpa using hx⟩
set_option maxHeartbeats 1600000 in
theorem refLive_any (A : Option Addr) (c : Nat) (t : List Se) (F : Nat → Prop) (cl : Int) (w : World) (h : RdS RSe F w A c t) (hn : t.length ≤ 1000) :
    Calls Try.prog 26 #[.agg #[.slice A t.length c], .int .i64 cl] w (Ans (.bool (seLive cl t)) w) := by
  obtain ⟨W1, hW1⟩ : ∃ W1, W1 = w.alloc (.cells #[.slice A t.length c] 29) := ⟨_, rfl⟩
  have hb1 : Below w.heap.size w W1 := by rw [hW1]; exact (Below.refl w.heap.size w).alloc (Nat.le_refl _) _
  have K0 : Bk W1 w.heap.size 29 [.slice A t.length c] := by rw [hW1]; exact Bk.new w 29 [.slice A t.length c]
  have HKW := Lib.hid (fun X (hX : Below W1.heap.size W1 X) => (⟨(K0.kept hX).at_ rfl, hb1.trans (hX.mono hb1.size)⟩ : X.cell? ⟨w.heap.size, 0, none⟩ = some (.slice A t.length c) ∧ Below w.heap.size w X))
  have HX := Lib.hid h
  have HWE := Lib.hid hW1
  obtain ⟨n, hnl⟩ : ∃ n, n = t.length := ⟨_, rfl⟩
  have HL := Lib.hid hnl.symm
  have hn1 : n ≤ 1000 := by omega
  rw [← hnl] at HKW HWE
  rw [← hnl]
  clear h hW1 hb1 K0 hnl hn
  go_enter Try.func26, Try.ntmps26
  go_wp2_with fail
  rw [← HWE.out]
  go_wp2_with fail
  go_loopw [5] (fun si wr => ∃ i : Nat, i ≤ n ∧ si = .int .i64 i ∧ seLive cl (t.take i) = false ∧ Below W1.heap.size W1 wr) (fun si _ => n - (intOf si).toNat)
  case atStart => exact ⟨0, by omega, rfl, rfl, Below.refl _ _⟩
  case round =>
    obtain ⟨i, hi, rfl, hlv, hb⟩ := hrel
    obtain ⟨j0, hbw⟩ := HKW.out wr hb
    by_cases hlt : i < n
    · have hix : i < t.length := by have := HL.out; omega
      have hy : t[i]? = some t[i] := List.getElem?_eq_getElem hix
      obtain ⟨a, rfl, _, d0, d1, d2⟩ := (HX.out.below hbw).se3 hy
      have HN := Lib.hid (live_next cl t i _ hy)
      have HIN := Lib.hid (fun hx => live_in (cl := cl) hy hx)
      generalize t[i] = x at *
      have HLV := Lib.hid hlv
      have HB := Lib.hid hb
      have HBW := Lib.hid hbw
      have HLT := Lib.hid hlt
      have y1 : (0 : Int) ≤ (i : Int) := by omega
      have y2 : (i : Int) < (n : Int) := by omega
      clear hlv hb hbw hlt hy hix hi
      by_cases hxc : x.client = cl
      · have q1 : (x.client == cl) = true := by simpa using hxc
        have HT := Lib.hid (HIN.out hxc)
        clear hxc
        go_wp2_with fail
        go_ret
        rw [HT.out]
        exact ⟨rfl, HBW.out⟩
      · have q1 : (x.client == cl) = false := by simpa using hxc
        have HT := Lib.hid (show seLive cl (t.take (i + 1)) = false by rw [HN.out, HLV.out, q1]; rfl)
        clear hxc
        go_wp2_with fail
        go_roundw
        case rel => exact ⟨i + 1, HLT.out, by go_num, HT.out, HB.out⟩
        case measure => have := HLT.out; simp [intOf]; omega
    · have HT := Lib.hid (show seLive cl t = false by rwa [List.take_of_length_le (by have := HL.out; omega)] at hlv)
      have HBW := Lib.hid hbw
      clear hlv hb hbw hi
      go_wp2_with fail
      go_ret
      rw [HT.out]
      exact ⟨rfl, HBW.out⟩
end Go.Proofs.Ytfbdmemjojjgnaa
