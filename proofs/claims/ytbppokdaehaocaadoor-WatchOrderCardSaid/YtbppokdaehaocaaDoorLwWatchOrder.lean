/-
  WatchOrder: a walk; no statement.
-/
import Derived.Test.YtbppokdaehaocaaDoorWatchTwo
namespace Go.Proofs.YtbppokdaehaocaaDoor
set_option maxRecDepth 100000
open Go.RowKit
set_option linter.unusedVariables false
set_option maxRecDepth 100000

set_option maxHeartbeats 6400000 in
theorem watchOrder_walk (w : World) (hE : Env w) (v : Value) (xs : List Wt) (h : InWts w v xs) : Calls Tryd.prog 7 #[v] w (Tr w) := by
  obtain ⟨LA, lc, rfl, hx, _, _⟩ := h
  have HAL := Lib.hid (alive_ok w hE)
  have HX := Lib.hid hx
  have HE := Lib.hid hE
  obtain ⟨n, hn⟩ : ∃ n, n = xs.length := ⟨_, rfl⟩
  have HNX := Lib.hid hn
  have hn63 : n ≤ 9223372036854775807 := by have := hx.1; have := hx.2.1; simp only [maxLen] at *; omega
  rw [← hn]
  clear hx hE hn
  go_enter Tryd.func7, Tryd.ntmps7
  go_wp2_with fail
  refine (HAL.out).mono ?_
  rintro e w1 ⟨rfl, hb1⟩
  have HB1 := Lib.hid hb1
  clear hb1 HAL
  by_cases h8 : 8 < n
  · have y8 : (8 : Int) < (n : Int) := by omega
    go_wp2_with fail
    go_ret
    exact ⟨rfl, HB1.out⟩
  · have y8 : ¬ (8 : Int) < (n : Int) := by omega
    have HN8 := Lib.hid (show n ≤ 8 by omega)
    have HNW := Lib.hid (newW_any w1)
    clear h8
    go_wp2_with fail
    refine (HNW.out).mono ?_
    intro e w2 h2
    obtain ⟨g1, F1, rfl, t1, f1, b2⟩ := WOn.of_new HB1.out h2
    have T1 := Lib.hid t1
    have HNW2 := Lib.hid (newW_any w2)
    clear h2 t1 f1 b2 HNW
    go_wp2_with fail
    refine (HNW2.out).mono ?_
    intro e w3 h3
    obtain ⟨g2, F2, rfl, t2, f2, b3⟩ := WOn.of_new T1.out.be h3
    have TT := Lib.hid (show Two F1 F2 w g1 g2 [] [] w3 from ⟨T1.out.kept b3, t2, fun k hk hf => by have h1 := (T1.out.low k hk).2; have h2 := f2 k hf; omega⟩)
    clear h3 t2 f2 b3 HNW2
    go_wp2_with fail
    go_loopw [5] (fun i wr => ∃ (k : Nat) (G1 G2 : Nat → Prop), k ≤ n ∧ i = .int .i64 k ∧ Two G1 G2 w g1 g2 (wFold [] (xs.take k)) (wFold [] (xs.reverse.take k)) wr) (fun i _ => n - (intOf i).toNat)
    case atStart => exact ⟨0, F1, F2, by omega, rfl, TT.out⟩
    case round =>
      obtain ⟨k, G1, G2, hk, rfl, htt⟩ := hrel
      by_cases hlt : k < n
      · have hkx : k < xs.length := by have := HNX.out; omega
        have hx : xs[k]? = some xs[k] := List.getElem?_eq_getElem hkx
        obtain ⟨j, hj⟩ : ∃ j, j + k + 1 = n := ⟨n - 1 - k, by omega⟩
        have hjx : j < xs.length := by have := HNX.out; omega
        have hy : xs[j]? = some xs[j] := List.getElem?_eq_getElem hjx
        have hry : xs.reverse[k]? = some xs[j] := by
          rw [List.getElem?_reverse hkx, show xs.length - 1 - k = j by have := HNX.out; omega]
          exact hy
        have hbw := htt.one.be
        obtain ⟨a, rfl, hal, d0, d1, d2⟩ := (HX.out.below hbw).wt3 hx
        obtain ⟨a', ea, _, f0, f1, f2⟩ := (HX.out.below hbw).wt3 hy
        obtain rfl := Option.some.inj ea
        have hal0 : a.block < w.heap.size := by obtain ⟨a', e, hb, _⟩ := HX.out.wt3 hx; obtain rfl := Option.some.inj e; exact hb
        have HN1 := Lib.hid (wFold_next [] hx)
        have HN2 := Lib.hid (wFold_next [] hry)
        generalize xs[k] = x at *
        generalize xs[j] = y at *
        have HTT := Lib.hid htt
        have HLT := Lib.hid hlt
        have HR3 := Lib.hid (fun W (hW : Below w.heap.size w W) => show Row3 a j y W by
          obtain ⟨a', e, _, q0, q1, q2⟩ := (HX.out.below hW).wt3 hy
          obtain rfl := Option.some.inj e
          exact ⟨q0, q1, q2⟩)
        obtain ⟨p, hp⟩ : ∃ p, p = x.path.length := ⟨_, rfl⟩
        have hsz : (⟨x.path.toArray⟩ : ByteArray).size = p := by rw [hp]; simp [ByteArray.size]
        have y1 : (0 : Int) ≤ (k : Int) := by omega
        have y2 : (k : Int) < (n : Int) := by omega
        have y3 : (0 : Int) ≤ (j : Int) := by omega
        have y4 : (j : Int) < (n : Int) := by omega
        have w1 : IntKind.i64.wrap ((n : Int) - 1) = (n : Int) - 1 := by rw [IntKind.wrap_i64]; omega
        have w2 : IntKind.i64.wrap ((n : Int) - 1 - (k : Int)) = (j : Int) := by rw [IntKind.wrap_i64]; omega
        by_cases hp1 : 1000 < p
        · have y5 : (1000 : Int) < (p : Int) := by omega
          clear htt hx hkx hlt hk hj hjx hy hry hbw hal hal0 hp hp1 f0 f1 f2
          go_wp2_with fail
          go_ret
          exact ⟨rfl, HTT.out.one.be⟩
        · have y5 : ¬ (1000 : Int) < (p : Int) := by omega
          clear htt hx hkx hlt hk hj hjx hy hry hbw hal hal0 hp hp1 f0 f1 f2
          go_wp2_with fail
          refine (HTT.out.one.add HE.out x).mono ?_
          intro e w5 h5
          obtain ⟨G3, t5⟩ := HTT.out.did1 h5
          obtain ⟨rfl, -⟩ := h5
          have T5 := Lib.hid t5
          obtain ⟨f0, f1, f2⟩ := HR3.out w5 t5.one.be
          clear t5
          go_wp2_with fail
          refine (T5.out.two.add HE.out y).mono ?_
          intro e w6 h6
          obtain ⟨G4, t6⟩ := T5.out.did2 h6
          obtain ⟨rfl, -⟩ := h6
          have T6 := Lib.hid t6
          clear t6 f0 f1 f2
          go_wp2_with fail
          go_roundw
          case rel => exact ⟨k + 1, G3, G4, HLT.out, by go_num, by rw [HN1.out, HN2.out]; exact T6.out⟩
          case measure => have := HLT.out; simp [intOf]; omega
      · have HKN := Lib.hid (show xs.take k = xs ∧ xs.reverse.take k = xs.reverse from ⟨List.take_of_length_le (by have := HNX.out; omega), List.take_of_length_le (by have := HNX.out; simp; omega)⟩)
        rw [HKN.out.1, HKN.out.2, ← fold_rev xs (by have := HNX.out; have := HN8.out; omega)] at htt
        have HTT := Lib.hid htt
        clear htt
        go_wp2_with fail
        refine HTT.out.one.all.mono ?_
        rintro e w5 ⟨A5, c5, rfl, ho5, hb5⟩
        have T5 := Lib.hid (HTT.out.kept hb5)
        have HO5 := Lib.hid ho5
        clear ho5 hb5
        go_wp2_with fail
        refine T5.out.two.all.mono ?_
        rintro e w6 ⟨A6, c6, rfl, ho6, hb6⟩
        have T6 := Lib.hid (T5.out.kept hb6)
        have HSM := Lib.hid (show Calls Tryd.prog 17 #[.slice A5 (wFold [] xs).length c5, .slice A6 (wFold [] xs).length c6] w6 (Ans (.bool true) w6) from by
          have := sameW_any A5 A6 c5 c6 w6 AllB AllB (wFold [] xs) (wFold [] xs) ((HO5.out.below hb6).rds fun _ _ => trivial) (ho6.rds fun _ _ => trivial) (by have := T5.out.one.ok.len; omega)
          rwa [decide_eq_true rfl] at this)
        clear ho6 hb6
        go_wp2_with fail
        refine HSM.out.mono ?_
        rintro e w7 ⟨rfl, hb7⟩
        have T7 := Lib.hid (T6.out.kept hb7)
        clear hb7
        go_wp2_with fail
        go_ret
        exact ⟨rfl, T7.out.one.be⟩
end Go.Proofs.YtbppokdaehaocaaDoor
