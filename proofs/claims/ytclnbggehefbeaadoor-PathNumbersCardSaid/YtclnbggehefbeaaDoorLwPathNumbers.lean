/-
  The law PathNumbers, walked. No statement.
-/
import Derived.Test.YtclnbggehefbeaaDoorPathLaw
namespace Go.Proofs.YtclnbggehefbeaaDoor
set_option maxRecDepth 100000
open Go.RowKit
set_option linter.unusedVariables false

theorem numbered_some {l x : List UInt8} {z : Int} (h : numberedP l z = some x) : x = l ++ digits5 z.toNat ∧ 0 ≤ z ∧ z ≤ 99999 ∧ l.length ≤ 64 := by
  unfold numberedP at h
  split at h
  · rename_i hc
    obtain ⟨h1, h2, h3, h4⟩ := hc
    obtain ⟨ls, hls⟩ := Option.isSome_iff_exists.1 h4
    have := (whole_parts hls).2.2
    simp only [List.length_append] at this
    exact ⟨(Option.some.inj h).symm, h2, h3, by omega⟩
  · cases h
theorem less_app (l x y : List UInt8) : Op.bytesLess (l ++ x) (l ++ y) = Op.bytesLess x y := by
  induction l with
  | nil => rfl
  | cons a l ih =>
    show (decide (a < a) || (a == a && Op.bytesLess (l ++ x) (l ++ y))) = _
    rw [ih]
    simp
theorem dig_nat (k : Nat) : (UInt8.ofNat (48 + k % 10)).toNat = 48 + k % 10 := by
  rw [UInt8.toNat_ofNat']
  omega
theorem dig_lt (j k : Nat) : (UInt8.ofNat (48 + j % 10) < UInt8.ofNat (48 + k % 10)) ↔ j % 10 < k % 10 := by
  rw [UInt8.lt_iff_toNat_lt, dig_nat, dig_nat]
  omega
theorem dig_eq (j k : Nat) : (UInt8.ofNat (48 + j % 10) = UInt8.ofNat (48 + k % 10)) ↔ j % 10 = k % 10 := by
  rw [← UInt8.toNat_inj, dig_nat, dig_nat]
  omega
theorem digits_lt (u v : Nat) (hu : u < 100000) (hv : v < 100000) : Op.bytesLess (digits5 u) (digits5 v) = decide (u < v) := by
  rw [Bool.eq_iff_iff, decide_eq_true_iff]
  unfold digits5
  simp only [Op.bytesLess, Bool.or_eq_true, Bool.and_eq_true, decide_eq_true_iff, beq_iff_eq, dig_lt, dig_eq, Bool.false_eq_true, and_false, or_false]
  have s1 : (u / 10 % 10 < v / 10 % 10 ∨ u / 10 % 10 = v / 10 % 10 ∧ u % 10 < v % 10) ↔ u % 100 < v % 100 := by omega
  have s2 : (u / 100 % 10 < v / 100 % 10 ∨ u / 100 % 10 = v / 100 % 10 ∧ u % 100 < v % 100) ↔ u % 1000 < v % 1000 := by omega
  have s3 : (u / 1000 % 10 < v / 1000 % 10 ∨ u / 1000 % 10 = v / 1000 % 10 ∧ u % 1000 < v % 1000) ↔ u % 10000 < v % 10000 := by omega
  have s4 : (u / 10000 % 10 < v / 10000 % 10 ∨ u / 10000 % 10 = v / 10000 % 10 ∧ u % 10000 < v % 10000) ↔ u % 100000 < v % 100000 := by omega
  rw [s1, s2, s3, s4, Nat.mod_eq_of_lt hu, Nat.mod_eq_of_lt hv]
theorem digits_eq (u v : Nat) (hu : u < 100000) (hv : v < 100000) : (digits5 u = digits5 v) ↔ u = v := by
  constructor
  · intro h
    unfold digits5 at h
    simp only [List.cons.injEq, dig_eq, and_true] at h
    omega
  · rintro rfl; rfl
set_option maxHeartbeats 3200000 in
theorem pathNumbers_walk (w : World) (hE : Env w) (p : ByteArray) (hp : p.size ≤ maxLen) (n : Int) (hn : (Lit.int .i64 n).wf = true) (m : Int) (hm : (Lit.int .i64 m).wf = true) :
    Calls Tryd.prog 6 #[.string p, .int .i64 n, .int .i64 m] w (Tr w) := by
  obtain ⟨l, rfl⟩ : ∃ l : List UInt8, p = ⟨l.toArray⟩ := ⟨p.data.toList, (sv_of p).symm⟩
  have HL := Lib.hid (alive_ok w hE)
  have HE := Lib.hid hE
  have HN := Lib.hid (fun W (h : Env W) => show Calls _ _ _ W (Ans (optV (numberedP l n)) W) from numbered_any ⟨l.toArray⟩ n W h hn)
  have HM := Lib.hid (fun W (h : Env W) => show Calls _ _ _ W (Ans (optV (numberedP l m)) W) from numbered_any ⟨l.toArray⟩ m W h hm)
  clear hE hn hm
  by_cases h5 : 5000 < l.length
  · have h6 : (5000 : Int) < (l.length : Int) := by omega
    go_enter Tryd.func6, Tryd.ntmps6
    go_wp2_with fail
    refine (HL.out).mono ?_
    rintro e w1 ⟨rfl, hb1⟩
    go_wp2_with fail
    go_ret
    exact ⟨rfl, hb1⟩
  · have h6 : ¬ (5000 : Int) < (l.length : Int) := by omega
    clear h5
    rcases opt_cases (numberedP l n) with ⟨o1, v1⟩ | ⟨x, o1, v1⟩ <;> rcases opt_cases (numberedP l m) with ⟨o2, v2⟩ | ⟨y, o2, v2⟩ <;> rw [v1] at HN <;> rw [v2] at HM <;> clear v1 v2
    case inr.inr =>
      obtain ⟨hx, hx0, hx1, hx2⟩ := numbered_some o1
      obtain ⟨hy, hy0, hy1, hy2⟩ := numbered_some o2
      have hxl : (x.length : Int) = (l.length : Int) + 5 := by rw [hx]; simp [digits5]
      have t1 : Op.bytesLess x y = decide (n < m) := by
        rw [hx, hy, less_app, digits_lt _ _ (by omega) (by omega)]
        congr 1; apply propext; omega
      have t2 : (x == y) = (n == m) := by
        rw [Bool.eq_iff_iff, beq_iff_eq, beq_iff_eq, hx, hy, List.append_cancel_left_eq, digits_eq _ _ (by omega) (by omega)]
        omega
      clear o1 o2 hx hy hx0 hx1 hy0 hy1
      go_enter Tryd.func6, Tryd.ntmps6
      go_wp2_with fail
      refine (HL.out).mono ?_
      rintro e w1 ⟨rfl, hb1⟩
      go_wp2_with fail
      refine (HN.out _ (HE.out.below hb1)).mono ?_
      rintro e w2 h2
      obtain ⟨rfl, hb2⟩ := ans_next hb1 h2
      clear h2
      go_wp2_with fail
      refine (HM.out _ (HE.out.below hb2)).mono ?_
      rintro e w3 h3
      obtain ⟨rfl, hb3⟩ := ans_next hb2 h3
      clear h3
      go_wp2_with fail
      go_ret
      exact ⟨rfl, hb3⟩
    all_goals
      clear o1 o2
      go_enter Tryd.func6, Tryd.ntmps6
      go_wp2_with fail
      refine (HL.out).mono ?_
      rintro e w1 ⟨rfl, hb1⟩
      go_wp2_with fail
      refine (HN.out _ (HE.out.below hb1)).mono ?_
      rintro e w2 h2
      obtain ⟨rfl, hb2⟩ := ans_next hb1 h2
      clear h2
      go_wp2_with fail
      refine (HM.out _ (HE.out.below hb2)).mono ?_
      rintro e w3 h3
      obtain ⟨rfl, hb3⟩ := ans_next hb2 h3
      clear h3
      go_wp2_with fail
      go_ret
      exact ⟨rfl, hb3⟩
end Go.Proofs.YtclnbggehefbeaaDoor
