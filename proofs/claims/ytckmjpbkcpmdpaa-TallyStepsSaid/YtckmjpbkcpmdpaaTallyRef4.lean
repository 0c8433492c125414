/-
  The document's own tally: Reach. A walk; no statement.
-/
import Derived.Test.YtckmjpbkcpmdpaaTallyRef2
import Derived.Test.YtckmjpbkcpmdpaaTallyRefPlain2
import Derived.Deep.CutRange
import Derived.BigQuiet
namespace Go.Proofs.Ytckmjpbkcpmdpaa
open Go.RowKit Go.Sort
set_option linter.unusedVariables false
set_option maxRecDepth 100000

theorem RefAt.at2 {w : World} {G : Nat → Prop} {g n c : Nat} {xs : List Vr} (h : RefAt w G (some ⟨g, 0, none⟩) n c xs) {k : Nat} {x : Vr} (hx : xs[k]? = some x) :
    w.cell? ⟨g, k * 4, none⟩ = some (.bool x.has) ∧ w.cell? ⟨g, k * 4 + 1, none⟩ = some (.int .i64 x.rank) := by
  obtain ⟨g', e, _, c0, c1, _, _⟩ := h.row.at_ hx
  obtain rfl : g = g' := by injection e with e; injection e
  exact ⟨c0, c1⟩
set_option maxHeartbeats 6400000 in
theorem refReach_any (z : Int) (G : Nat → Prop) (A : Option Addr) (n c : Nat) (N : Int) (vs : List Vo) (w : World) (h : RefM w G A n c N vs) (hn64 : n ≤ 64) (hz : -9223372036854775808 ≤ z ∧ z ≤ 9223372036854775807) :
    Calls Try.prog 21 #[.agg #[.slice A n c], .int .i64 z] w (fun e w' => e = .returned (.tuple #[.int .i64 ((tyReach vs z).getD 0), .bool (tyReach vs z).isSome]) ∧ Below w.heap.size w w') := by
  obtain ⟨hg, xs, h, ho⟩ := h
  have hl := h.row.len
  have HL := Lib.hid hl
  have HT := Lib.hid h
  have HEND := Lib.hid (fun b => RBest.end_ (k := z) (b := b) ho hg.srt)
  have hb1 := (Below.refl w.heap.size w).alloc (Nat.le_refl _) (.cells #[.slice A n c] 29)
  have HB := Lib.hid hb1
  have HK := Lib.hid (Bk.new w 29 [.slice A n c])
  have hkk : 1 ≤ max z 1 ∧ max z 1 ≤ 9223372036854775807 := by omega
  have hcase : (z < 1 ∧ max z 1 = 1) ∨ (¬ z < 1 ∧ max z 1 = z) := by omega
  clear h ho hg hb1 hl
  rcases hcase with ⟨h1, he⟩ | ⟨h1, he⟩
  all_goals
    have HE := Lib.hid he
    clear he hkk
    go_enter Try.func21, Try.ntmps21
    go_wp2_with fail
    go_loopw [6, 7] (fun b i wr => ∃ (k : Nat) (bi : Int), k ≤ n ∧ b = .int .i64 bi ∧ i = .int .i64 k ∧ RBest xs (max z 1) k bi ∧ Below w.heap.size w wr ∧ Bk wr w.heap.size 29 [.slice A n c]) (fun _ i _ => n - (intOf i).toNat)
    case atStart => exact ⟨0, -1, by omega, rfl, rfl, RBest.zero _ _, HB.out, HK.out⟩
    case round =>
      obtain ⟨k, bi, hk, rfl, rfl, hbest, hb, kt⟩ := hrel
      have t0 := kt.at_ (i := 0) rfl
      by_cases hlt : k < n
      · have hkx : k < xs.length := by have := HL.out; omega
        have hx : xs[k]? = some xs[k] := List.getElem?_eq_getElem hkx
        obtain ⟨g', rfl, hb', c0, c1, _, _⟩ := (HT.out.kept hb).row.at_ hx
        have HX := Lib.hid hx
        have HBE := Lib.hid hbest
        have HB2 := Lib.hid hb
        have HK2 := Lib.hid kt
        have HLT := Lib.hid hlt
        generalize xs[k] = x at *
        have y1 : (0 : Int) ≤ (k : Int) := by omega
        have y2 : (k : Int) < (n : Int) := by omega
        have w1 : IntKind.i64.wrap ((k : Int) + 1) = (k : Int) + 1 := by simp only [IntKind.wrap, IntKind.bits, IntKind.signed]; simp; omega
        clear hb kt hbest hx hkx c0 c1
        go_wp2_with fail
        go_loopw [8, 9] (fun cn j wx => ∃ (jj : Nat), jj ≤ n ∧ cn = .int .i64 (rcnt (xs.take jj) x) ∧ j = .int .i64 jj ∧ Below w.heap.size w wx ∧ Bk wx w.heap.size 29 [.slice (some ⟨g', 0, none⟩) n c]) (fun _ j _ => n - (intOf j).toNat)
        case atStart => exact ⟨0, by omega, by simp [rcnt], rfl, HB2.out, HK2.out⟩
        case round =>
          obtain ⟨jj, hj, rfl, rfl, hb3, kt3⟩ := hrel
          have t3 := kt3.at_ (i := 0) rfl
          by_cases hlt3 : jj < n
          · have hjx : jj < xs.length := by have := HL.out; omega
            have hy : xs[jj]? = some xs[jj] := List.getElem?_eq_getElem hjx
            obtain ⟨d0, d1⟩ := (HT.out.kept hb3).at2 hy
            obtain ⟨c0, c1⟩ := (HT.out.kept hb3).at2 HX.out
            have HN := Lib.hid (rcnt_next xs jj _ x hy)
            generalize xs[jj] = y at *
            have hcn : rcnt (xs.take jj) x ≤ 64 := Nat.le_trans (rcnt_le _ _) (by rw [List.length_take]; omega)
            generalize rcnt (xs.take jj) x = cn at *
            have z1 : (0 : Int) ≤ (jj : Int) := by omega
            have z2 : (jj : Int) < (n : Int) := by omega
            have w2 : IntKind.i64.wrap ((jj : Int) + 1) = (jj : Int) + 1 := by simp only [IntKind.wrap, IntKind.bits, IntKind.signed]; simp; omega
            have w3 : IntKind.i64.wrap ((cn : Int) + 1) = (cn : Int) + 1 := by simp only [IntKind.wrap, IntKind.bits, IntKind.signed]; simp; omega
            have HB4 := Lib.hid hb3
            have HK4 := Lib.hid kt3
            have HJ := Lib.hid hlt3
            clear hb3 kt3 hy hjx
            have hc : (y.has = true ∧ x.has = true ∧ x.rank ≤ y.rank) ∨ (y.has = true ∧ x.has = true ∧ ¬ x.rank ≤ y.rank) ∨ (y.has = true ∧ x.has = false) ∨ y.has = false := by
              cases y.has <;> cases x.has <;> (simp; try omega)
            rcases hc with ⟨q1, q2, q3⟩ | ⟨q1, q2, q3⟩ | ⟨q1, q2⟩ | q1
            · rw [if_pos ⟨q1, q2, q3⟩] at HN
              rw [q1] at d0; rw [q2] at c0
              go_wp2_with fail
              go_quiet (fail)
              go_wp2_with fail
              go_roundw
              case rel => exact ⟨jj + 1, HJ.out, by rw [HN.out]; go_num, by go_num, below_drewN HB4.out _, HK4.out.drewN _⟩
              case measure => have := HJ.out; simp [intOf]; omega
            · rw [if_neg (fun q => q3 q.2.2)] at HN
              rw [q1] at d0; rw [q2] at c0
              go_wp2_with fail
              go_quiet (fail)
              go_wp2_with fail
              go_roundw
              case rel => exact ⟨jj + 1, HJ.out, by rw [HN.out]; go_num, by go_num, below_drewN HB4.out _, HK4.out.drewN _⟩
              case measure => have := HJ.out; simp [intOf]; omega
            · rw [if_neg (fun q => by rw [q2] at q; exact absurd q.2.1 (by decide))] at HN
              rw [q1] at d0; rw [q2] at c0
              go_wp2_with fail
              go_quiet (fail)
              go_wp2_with fail
              go_roundw
              case rel => exact ⟨jj + 1, HJ.out, by rw [HN.out]; go_num, by go_num, below_drewN HB4.out _, HK4.out.drewN _⟩
              case measure => have := HJ.out; simp [intOf]; omega
            · rw [if_neg (fun q => by rw [q1] at q; exact absurd q.1 (by decide))] at HN
              rw [q1] at d0
              go_wp2_with fail
              go_quiet (fail)
              go_wp2_with fail
              go_roundw
              case rel => exact ⟨jj + 1, HJ.out, by rw [HN.out]; go_num, by go_num, below_drewN HB4.out _, HK4.out.drewN _⟩
              case measure => have := HJ.out; simp [intOf]; omega
          · have e : xs.take jj = xs := List.take_of_length_le (by have := HL.out; omega)
            rw [e]
            have HB4 := Lib.hid hb3
            have HK4 := Lib.hid kt3
            have z2 : ¬ (jj : Int) < (n : Int) := by omega
            obtain ⟨_, c1⟩ := (HT.out.kept hb3).at2 HX.out
            have HA := Lib.hid (fun (m : Nat) (y : Vr) (hy : xs[m]? = some y) => ((HT.out.kept hb3).at2 hy).2)
            clear hb3 kt3
            have HS := Lib.hid (fun q => HBE.out.skip HX.out q)
            have hd : (max z 1 ≤ (rcnt xs x : Int) ∧ bi = -1) ∨ (max z 1 ≤ (rcnt xs x : Int) ∧ ∃ (m : Nat) (y : Vr), bi = (m : Int) ∧ m < k ∧ xs[m]? = some y) ∨ ¬ max z 1 ≤ (rcnt xs x : Int) := by
              by_cases q : max z 1 ≤ (rcnt xs x : Int)
              · rcases HBE.out with ⟨q2, _⟩ | ⟨m, y, q2, q3, q4, _⟩
                · exact .inl ⟨q, q2⟩
                · exact .inr (.inl ⟨q, m, y, q2, q3, q4⟩)
              · exact .inr (.inr q)
            have HTK := Lib.hid (fun q hb => HBE.out.take HX.out q hb)
            generalize (rcnt xs x : Int) = rr at *
            rcases hd with ⟨q, rfl⟩ | ⟨q, m, y, rfl, hm, hy⟩ | q
            · have a1 : (1 : Int) ≤ rr := by omega
              have a2 : z ≤ rr := by omega
              have HN := Lib.hid (HTK.out q (.inl rfl))
              clear q
              go_wp2_with fail
              go_quiet (fail)
              go_wp2_with fail
              go_roundw
              case rel => exact ⟨k + 1, _, HLT.out, rfl, by go_num, HN.out, below_drewN HB4.out _, HK4.out.drewN _⟩
              case measure => have := HLT.out; simp [intOf]; omega
            · have a1 : (1 : Int) ≤ rr := by omega
              have a2 : z ≤ rr := by omega
              have m1 := HA.out m y hy
              have m2 : (0 : Int) ≤ (m : Int) := by omega
              have m3 : (m : Int) < (n : Int) := by omega
              have m4 : ¬ (m : Int) < 0 := by omega
              by_cases q5 : y.rank < x.rank
              · have HN := Lib.hid (HTK.out q (.inr ⟨m, y, rfl, hy, q5⟩))
                clear q hy hm
                go_wp2_with fail
                go_quiet (fail)
                go_wp2_with fail
                go_roundw
                case rel => exact ⟨k + 1, _, HLT.out, rfl, by go_num, HN.out, below_drewN HB4.out _, HK4.out.drewN _⟩
                case measure => have := HLT.out; simp [intOf]; omega
              · have HN := Lib.hid (HBE.out.stay HX.out hy (by omega))
                clear q hy hm
                go_wp2_with fail
                go_quiet (fail)
                go_wp2_with fail
                go_roundw
                case rel => exact ⟨k + 1, _, HLT.out, rfl, by go_num, HN.out, below_drewN HB4.out _, HK4.out.drewN _⟩
                case measure => have := HLT.out; simp [intOf]; omega
            · have HN := Lib.hid (HS.out q)
              have ee := HE.out
              have a3 : (rr < 1 ∧ ¬ (1 : Int) ≤ rr ∧ z < 1) ∨ (rr < z ∧ ¬ z ≤ rr ∧ ¬ z < 1) := by omega
              rcases a3 with ⟨a1, a2, a4⟩ | ⟨a1, a2, a4⟩ <;> first | (exfalso; omega) | skip
              all_goals have a5 := decide_eq_false a2
              clear q ee
              go_wp2_with fail
              go_quiet (fail)
              go_wp2_with fail
              go_roundw
              case rel => exact ⟨k + 1, _, HLT.out, rfl, by go_num, HN.out, below_drewN HB4.out _, HK4.out.drewN _⟩
              case measure => have := HLT.out; simp [intOf]; omega
      · have e : k = xs.length := by have := HL.out; omega
        have z2 : ¬ (k : Int) < (n : Int) := by omega
        have HB4 := Lib.hid hb
        rcases HEND.out bi (by rw [← e]; exact hbest) with ⟨rfl, he⟩ | ⟨m, y, rfl, hy, he⟩
        · have HE2 := Lib.hid he
          clear hb kt hbest he
          go_wp2_with fail
          go_ret2
          exact ⟨by rw [HE2.out]; rfl, HB4.out⟩
        · have HE2 := Lib.hid he
          obtain ⟨g', rfl, hb', c0, c1, _, _⟩ := (HT.out.kept hb).row.at_ hy
          have hmx := (List.getElem?_eq_some_iff.1 hy).1
          have m2 : (0 : Int) ≤ (m : Int) := by omega
          have m3 : (m : Int) < (n : Int) := by omega
          have m4 : ¬ (m : Int) < 0 := by omega
          clear hb kt hbest he hy
          go_wp2_with fail
          go_ret2
          exact ⟨by rw [HE2.out]; rfl, HB4.out⟩
end Go.Proofs.Ytckmjpbkcpmdpaa
