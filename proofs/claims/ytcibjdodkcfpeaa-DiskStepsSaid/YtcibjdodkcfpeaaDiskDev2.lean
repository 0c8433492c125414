/-
  The disk's small calls, more: Contains, Clone, Read. Walks; no statement.
-/
import Derived.Test.YtcibjdodkcfpeaaDiskDev1
namespace Go.Proofs.Ytcibjdodkcfpeaa
open Go.RowKit
set_option linter.unusedVariables false

def HasS (l : List Int) (v : Int) (w : World) (e : Ending) (w' : World) : Prop := ∃ k : Int, e = .returned (.int .i64 k) ∧ decide (0 ≤ k) = l.contains v ∧ w = w'
theorem has_next (l : List Int) (v : Int) (k : Nat) (h : k < l.length) : (l.take (k + 1)).contains v = ((l.take k).contains v || (v == l[k])) := by
  rw [take_snoc l k h, List.contains_eq_any_beq, List.contains_eq_any_beq, List.any_append]
  simp
theorem index_any (A : Option Addr) (n c : Nat) (l : List Int) (v : Int) (w : World) (h : Rd w A n (l.map iv)) (hm : n ≤ maxLen) :
    Calls Try.prog 38 #[.slice A n c, .int .i64 v] w (HasS l v w) := by
  unfold maxLen at hm
  have hx : l.length = n := by simpa using h.1
  have HL := Lib.hid hx
  have HR := Lib.hid h
  clear hx h
  go_enter Try.func38, Try.ntmps38
  go_wp2_with fail
  go_loop [8] (fun i => ∃ k : Nat, k ≤ n ∧ i = .int .i64 k ∧ Hid ((l.take k).contains v = false)) (fun i => n - (intOf i).toNat)
  case atStart => exact ⟨0, Nat.zero_le _, rfl, Lib.hid (by simp)⟩
  case round =>
    obtain ⟨k, hk, rfl, HT⟩ := hrel
    by_cases hlt : k < n
    · obtain ⟨a, rfl, hb, hc⟩ := HR.out.at_ hlt
      have hkl : k < l.length := by rw [HL.out]; exact hlt
      have gx : (l.map iv).getD k undef = .int .i64 (l[k]'hkl) := by simp [iv, hkl]
      rw [gx] at hc
      have HN := Lib.hid (has_next l v k hkl)
      have HA := Lib.hid (show v = l[k] → l.contains v = true from fun hf => by
        rw [hf]
        simp)
      generalize l[k] = x at *
      have e1 : (0 : Int) ≤ (k : Int) := by omega
      have e2 : (k : Int) < (n : Int) := by omega
      have HK := Lib.hid hlt
      clear gx hb hkl
      by_cases hkn : v = x
      · have HA := Lib.hid (HA.out hkn)
        have hd : (v == x) = true := by simp [hkn]
        have HX := Lib.hid hkn
        clear hkn
        go_wp2_with fail
        go_ret
        exact ⟨k, rfl, by rw [HA.out]; simp, rfl⟩
      · have hd : (v == x) = false := by simp [hkn]
        have HN2 := Lib.hid (show (l.take (k + 1)).contains v = false by rw [HN.out, HT.out, hd]; rfl)
        clear hkn
        go_wp2_with fail
        go_round
        case rel => exact ⟨k + 1, by have := HK.out; omega, by go_num, HN2⟩
        case measure => have := HK.out; simp [intOf]; omega
    · have HA := Lib.hid (show l.contains v = false by
        have := HT.out
        rwa [List.take_of_length_le (by rw [HL.out]; omega)] at this)
      go_wp2_with fail
      go_ret
      exact ⟨-1, rfl, by rw [HA.out]; rfl, rfl⟩
theorem contains_any (A : Option Addr) (n c : Nat) (l : List Int) (v : Int) (w : World) (h : Rd w A n (l.map iv)) (hm : n ≤ maxLen) :
    Calls Try.prog 33 #[.slice A n c, .int .i64 v] w (fun e w' => e = .returned (.bool (l.contains v)) ∧ w = w') := by
  have HF := Lib.hid (index_any A n c l v w h hm)
  clear h hm
  go_enter Try.func33, Try.ntmps33
  go_wp2_with fail
  refine HF.out.mono ?_
  rintro e w' ⟨k, rfl, hk, rfl⟩
  have HK := Lib.hid hk
  clear hk
  go_wp2_with fail
  go_ret
  exact ⟨ret_bool HK.out, rfl⟩
theorem known_cases {a : Int} (h : known a = true) : a = 0 ∨ a = 1 := by simpa [known] using h
theorem known_one (a : Int) : ([a].all known) = known a := by simp
theorem own_nil' {w : World} {base : Nat} {A : Option Addr} {n c : Nat} {l : List UInt8} (h : OwnB w base A n c l) : A = none → c = 0 := by
  rintro rfl
  exact own_none h
/-- an area's bytes, new ones, as a call hands them back -/
def ReadO (l : List UInt8) (er : Int) (w : World) (e : Ending) (w' : World) : Prop := ∃ A n c, e = .returned (.tuple #[.slice A n c, .int .i64 er]) ∧ OwnB w' w.heap.size A n c l ∧ Below w.heap.size w w'
theorem disk_read (g : Nat) (a : Int) (P : PD) (F : Nat → Prop) (w : World) (h : Dk w F g P) (b0 : P.d0.length ≤ 1099511627776) (b1 : P.d1.length ≤ 1099511627776) :
    Calls Try.prog 20 #[.pointer (some ⟨g, 0, none⟩), .int .i64 a] w (ReadO (P.read a).1 (P.read a).2 w) := by
  obtain ⟨A0, n0, c0, A1, n1, c1, h⟩ := h
  have hb := (Below.refl w.heap.size w).alloc (Nat.le_refl _) (.cells #[.int .i64 a] 3)
  have hk := h.kept hb
  have HB := Lib.hid hb
  have HM := Lib.hid (missing_in (some ⟨w.heap.size, 0, none⟩) 1 1 [a] (w.alloc (.cells #[.int .i64 a] 3)) (Rd.new w ([a].map iv) 3) (by simp [maxLen]))
  have HC0 := Lib.hid (clone_any A0 n0 c0 P.d0 _ hk.r0.rd (by rw [← h.r0.len]; exact b0))
  have HC1 := Lib.hid (clone_any A1 n1 c1 P.d1 _ hk.r1.rd (by rw [← h.r1.len]; exact b1))
  obtain ⟨q0, q1, q2, q3, q4⟩ := hk.bk.five
  clear hb hk h b0 b1
  cases hkn : known a
  · have HR := Lib.hid (show P.read a = ([], 41) by unfold PD.read; rw [hkn]; rfl)
    rw [known_one, hkn] at HM
    rw [HR.out]
    clear hkn
    go_enter Try.func20, Try.ntmps20
    go_wp2_with fail
    refine HM.out.mono ?_
    rintro e w' ⟨rfl, rfl⟩
    go_wp2_with fail
    go_ret2
    exact ⟨none, 0, 0, rfl, OwnB.nil_ _ _, HB.out⟩
  · rw [known_one, hkn] at HM
    rcases known_cases hkn with rfl | rfl
    · have HR := Lib.hid (show P.read 0 = (P.d0, 0) by unfold PD.read; rw [hkn]; rfl)
      rw [HR.out]
      clear hkn
      go_enter Try.func20, Try.ntmps20
      go_wp2_with fail
      refine HM.out.mono ?_
      rintro e w' ⟨rfl, rfl⟩
      go_wp2_with fail
      refine HC0.out.mono ?_
      rintro e w1 ⟨A, n, c, rfl, ho, hbb⟩
      have HO := Lib.hid ho
      have HBB := Lib.hid hbb
      clear ho hbb
      go_wp2_with fail
      go_ret2
      exact ⟨A, n, c, rfl, HO.out.more HB.out.size, below_next HB.out HBB.out HB.out.size⟩
    · have HR := Lib.hid (show P.read 1 = (P.d1, 0) by unfold PD.read; rw [hkn]; rfl)
      rw [HR.out]
      clear hkn
      go_enter Try.func20, Try.ntmps20
      go_wp2_with fail
      refine HM.out.mono ?_
      rintro e w' ⟨rfl, rfl⟩
      go_wp2_with fail
      refine HC1.out.mono ?_
      rintro e w1 ⟨A, n, c, rfl, ho, hbb⟩
      have HO := Lib.hid ho
      have HBB := Lib.hid hbb
      clear ho hbb
      go_wp2_with fail
      go_ret2
      exact ⟨A, n, c, rfl, HO.out.more HB.out.size, below_next HB.out HBB.out HB.out.size⟩
end Go.Proofs.Ytcibjdodkcfpeaa
