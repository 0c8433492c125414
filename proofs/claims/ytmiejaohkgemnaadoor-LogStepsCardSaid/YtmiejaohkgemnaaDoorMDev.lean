import Derived.Test.YtmiejaohkgemnaaDoorMDisk

/-
  The disk's small calls: New, spend, what isn't an area, Contains, Clone. Walks; no statement.
-/
namespace Go.Proofs.YtmiejaohkgemnaaDoor
open Go.RowKit
set_option linter.unusedVariables false

def PD.new (p : Int) : PD := ⟨p, [], [], 0, 0⟩
theorem PD.new_fine (p : Int) : (PD.new p).Fine := by simp [PD.new, PD.Fine]
theorem disk_new (p : Int) (w : World) (hp : -9223372036854775808 ≤ p ∧ p ≤ 9223372036854775807) :
    Calls Tryd.prog 13 #[.int .i64 p] w (Made (PD.new p) w) := by
  have HB := Lib.hid (Bk.new w 73 [.slice none 0 0, .int .i64 0, .slice none 0 0, .int .i64 0, .int .i64 p])
  have HP := Lib.hid hp
  clear hp
  go_enter Tryd.func13, Tryd.ntmps13
  go_wp2_with fail
  go_ret
  refine ⟨w.heap.size, fun i => i = w.heap.size, rfl, ⟨none, 0, 0, none, 0, 0, HB.out, OwnB.nil_ _ _, OwnB.nil_ _ _, rfl, by simp [Value.ownBlock], by simp [Value.ownBlock], by simp [Value.ownBlock], by simp, PD.new_fine p, HP.out⟩, by simp, (Below.refl _ _).alloc (Nat.le_refl _) _⟩
/-- is there power? Its cell has turned -/
def SpendS (g : Nat) (v0 v1 v2 v3 : Value) (p : Int) (w : World) (e : Ending) (w' : World) : Prop :=
  e = .returned (.bool (decide (p ≠ 0))) ∧ Bk w' g 73 [v0, v1, v2, v3, .int .i64 (drawn p)] ∧ w.grownBy w' (some g) ∧ w'.heap.size = w.heap.size
theorem spend_any (g : Nat) (v0 v1 v2 v3 : Value) (p : Int) (w : World) (h : Bk w g 73 [v0, v1, v2, v3, .int .i64 p]) (hp : -9223372036854775808 ≤ p ∧ p ≤ 9223372036854775807) :
    Calls Tryd.prog 50 #[.pointer (some ⟨g, 0, none⟩)] w (SpendS g v0 v1 v2 v3 p w) := by
  have HB := Lib.hid h
  obtain ⟨_, _, _, _, q4⟩ := h.five
  have u4 := h.frozen 4
  clear h
  by_cases h1 : 0 < p
  · have hw : IntKind.i64.wrap (p - 1) = p - 1 := by simp only [IntKind.wrap, IntKind.bits, IntKind.signed]; simp; omega
    have HD := Lib.hid (show drawn p = p - 1 by simp [drawn, h1])
    have HE := Lib.hid (show true = decide (p ≠ 0) by simp; omega)
    go_enter Tryd.func50, Tryd.ntmps50
    go_wp2_with fail
    go_ret
    exact ⟨ret_bool HE.out, by rw [HD.out]; exact HB.out.set 4 (.int .i64 (p - 1)), grown_set (grown_refl _ _) 4 _, by simp⟩
  · have HD := Lib.hid (show drawn p = p by simp [drawn, h1])
    have HE := Lib.hid (show decide (p < 0) = decide (p ≠ 0) by
      by_cases h0 : p = 0
      · simp [h0]
      · have : p < 0 := by omega
        simp [h0, this])
    go_enter Tryd.func50, Tryd.ntmps50
    go_wp2_with fail
    go_ret
    exact ⟨ret_bool HE.out, by rw [HD.out]; exact HB.out, grown_refl _ _, rfl⟩
theorem missing_one (a : Int) (w : World) : Calls Tryd.prog 70 #[.int .i64 a] w (fun e w' => e = .returned (.bool (!known a)) ∧ w = w') := by
  have HK := Lib.hid (show known a = (decide (a = 0) || decide (a = 1)) from rfl)
  by_cases h0 : a < 0
  · have HE := Lib.hid (show true = !known a by rw [HK.out]; simp; omega)
    go_enter Tryd.func70, Tryd.ntmps70
    go_wp2_with fail
    go_ret
    exact ⟨ret_bool HE.out, rfl⟩
  · by_cases h1 : 2 ≤ a
    · have HE := Lib.hid (show true = !known a by rw [HK.out]; simp; omega)
      go_enter Tryd.func70, Tryd.ntmps70
      go_wp2_with fail
      go_ret
      exact ⟨ret_bool HE.out, rfl⟩
    · have HE := Lib.hid (show false = !known a by rw [HK.out]; simp; omega)
      go_enter Tryd.func70, Tryd.ntmps70
      go_wp2_with fail
      go_ret
      exact ⟨ret_bool HE.out, rfl⟩
/-- at or above 0 just where one isn't an area -/
def FindS (l : List Int) (w : World) (e : Ending) (w' : World) : Prop := ∃ k : Int, e = .returned (.int .i64 k) ∧ decide (0 ≤ k) = !l.all known ∧ w = w'
theorem all_next (l : List Int) (k : Nat) (h : k < l.length) : (l.take (k + 1)).all known = ((l.take k).all known && known l[k]) := by
  rw [take_snoc l k h, List.all_append]
  simp
theorem missing_find (A : Option Addr) (n c : Nat) (l : List Int) (w : World) (h : Rd w A n (l.map iv)) (hm : n ≤ maxLen) :
    Calls Tryd.prog 82 #[.slice A n c, .func (.func 70) #[] #[]] w (FindS l w) := by
  unfold maxLen at hm
  have hx : l.length = n := by simpa using h.1
  have HL := Lib.hid hx
  have HR := Lib.hid h
  clear hx h
  go_enter Tryd.func82, Tryd.ntmps82
  go_wp2_with fail
  go_loop [8] (fun i => ∃ k : Nat, k ≤ n ∧ i = .int .i64 k ∧ Hid ((l.take k).all known = true)) (fun i => n - (intOf i).toNat)
  case atStart => exact ⟨0, Nat.zero_le _, rfl, Lib.hid (by simp)⟩
  case round =>
    obtain ⟨k, hk, rfl, HT⟩ := hrel
    by_cases hlt : k < n
    · obtain ⟨a, rfl, hb, hc⟩ := HR.out.at_ hlt
      have hkl : k < l.length := by rw [HL.out]; exact hlt
      have gx : (l.map iv).getD k undef = .int .i64 (l[k]'hkl) := by simp [iv, hkl]
      rw [gx] at hc
      have HN := Lib.hid (all_next l k hkl)
      have HA := Lib.hid (show known l[k] = false → l.all known = false from fun hf => by
        rw [List.all_eq_false]
        exact ⟨l[k], List.getElem_mem hkl, by simp [hf]⟩)
      generalize l[k] = x at *
      have e1 : (0 : Int) ≤ (k : Int) := by omega
      have e2 : (k : Int) < (n : Int) := by omega
      have HK := Lib.hid hlt
      have HM := Lib.hid (missing_one x w)
      clear gx hb hkl
      cases hkn : known x
      · rw [hkn] at HM
        have HA := Lib.hid (HA.out hkn)
        clear hkn
        go_wp2_with fail
        refine HM.out.mono ?_
        rintro e w' ⟨rfl, rfl⟩
        go_wp2_with fail
        go_ret
        exact ⟨k, rfl, by rw [HA.out]; simp, rfl⟩
      · rw [hkn] at HM
        have HN2 := Lib.hid (show (l.take (k + 1)).all known = true by rw [HN.out, HT.out, hkn]; rfl)
        clear hkn
        go_wp2_with fail
        refine HM.out.mono ?_
        rintro e w' ⟨rfl, rfl⟩
        go_wp2_with fail
        go_round
        case rel => exact ⟨k + 1, by have := HK.out; omega, by go_num, HN2⟩
        case measure => have := HK.out; simp [intOf]; omega
    · have HA := Lib.hid (show l.all known = true by
        have := HT.out
        rwa [List.take_of_length_le (by rw [HL.out]; omega)] at this)
      go_wp2_with fail
      go_ret
      exact ⟨-1, rfl, by rw [HA.out]; rfl, rfl⟩
theorem missing_some (A : Option Addr) (n c : Nat) (l : List Int) (w : World) (h : Rd w A n (l.map iv)) (hm : n ≤ maxLen) :
    Calls Tryd.prog 69 #[.slice A n c, .func (.func 70) #[] #[]] w (fun e w' => e = .returned (.bool (!l.all known)) ∧ w = w') := by
  have HF := Lib.hid (missing_find A n c l w h hm)
  clear h hm
  go_enter Tryd.func69, Tryd.ntmps69
  go_wp2_with fail
  refine HF.out.mono ?_
  rintro e w' ⟨k, rfl, hk, rfl⟩
  have HK := Lib.hid hk
  clear hk
  go_wp2_with fail
  go_ret
  exact ⟨ret_bool HK.out, rfl⟩
theorem missing_in (A : Option Addr) (n c : Nat) (l : List Int) (w : World) (h : Rd w A n (l.map iv)) (hm : n ≤ maxLen) :
    Calls Tryd.prog 49 #[.slice A n c] w (fun e w' => e = .returned (.bool (!l.all known)) ∧ w = w') := by
  have HF := Lib.hid (missing_some A n c l w h hm)
  clear h hm
  go_enter Tryd.func49, Tryd.ntmps49
  go_wp2_with fail
  refine HF.out.mono ?_
  rintro e w' ⟨rfl, rfl⟩
  go_wp2_with fail
  go_ret
  exact ⟨rfl, rfl⟩
end Go.Proofs.YtmiejaohkgemnaaDoor

/-
  The disk's small calls, more: Contains, Clone, Read. Walks; no statement.
-/
namespace Go.Proofs.YtmiejaohkgemnaaDoor
open Go.RowKit
set_option linter.unusedVariables false

def HasS (l : List Int) (v : Int) (w : World) (e : Ending) (w' : World) : Prop := ∃ k : Int, e = .returned (.int .i64 k) ∧ decide (0 ≤ k) = l.contains v ∧ w = w'
theorem has_next (l : List Int) (v : Int) (k : Nat) (h : k < l.length) : (l.take (k + 1)).contains v = ((l.take k).contains v || (v == l[k])) := by
  rw [take_snoc l k h, List.contains_eq_any_beq, List.contains_eq_any_beq, List.any_append]
  simp
theorem index_any (A : Option Addr) (n c : Nat) (l : List Int) (v : Int) (w : World) (h : Rd w A n (l.map iv)) (hm : n ≤ maxLen) :
    Calls Tryd.prog 71 #[.slice A n c, .int .i64 v] w (HasS l v w) := by
  unfold maxLen at hm
  have hx : l.length = n := by simpa using h.1
  have HL := Lib.hid hx
  have HR := Lib.hid h
  clear hx h
  go_enter Tryd.func71, Tryd.ntmps71
  go_wp2_with fail
  go_loop [8] (fun i => ∃ k : Nat, k ≤ n ∧ i = .int .i64 k ∧ Hid ((l.take k).contains v = false)) (fun i => n - (intOf i).toNat)
  case atStart => exact ⟨0, Nat.zero_le _, rfl, Lib.hid (by simp)⟩
  case round =>
    obtain ⟨k, hk, rfl, HT⟩ := hrel
    by_cases hlt : k < n
    · obtain ⟨a, rfl, hb, hc⟩ := HR.out.at_ hlt
      have hkl : k < l.length := by rw [HL.out]; exact hlt
      have gx : (l.map iv).getD k undef = .int .i64 (l[k]'hkl) := by simp [iv, hkl]
      rw [gx] at hc
      have HN := Lib.hid (has_next l v k hkl)
      have HA := Lib.hid (show v = l[k] → l.contains v = true from fun hf => by
        rw [hf]
        simp)
      generalize l[k] = x at *
      have e1 : (0 : Int) ≤ (k : Int) := by omega
      have e2 : (k : Int) < (n : Int) := by omega
      have HK := Lib.hid hlt
      clear gx hb hkl
      by_cases hkn : v = x
      · have HA := Lib.hid (HA.out hkn)
        have hd : (v == x) = true := by simp [hkn]
        have HX := Lib.hid hkn
        clear hkn
        go_wp2_with fail
        go_ret
        exact ⟨k, rfl, by rw [HA.out]; simp, rfl⟩
      · have hd : (v == x) = false := by simp [hkn]
        have HN2 := Lib.hid (show (l.take (k + 1)).contains v = false by rw [HN.out, HT.out, hd]; rfl)
        clear hkn
        go_wp2_with fail
        go_round
        case rel => exact ⟨k + 1, by have := HK.out; omega, by go_num, HN2⟩
        case measure => have := HK.out; simp [intOf]; omega
    · have HA := Lib.hid (show l.contains v = false by
        have := HT.out
        rwa [List.take_of_length_le (by rw [HL.out]; omega)] at this)
      go_wp2_with fail
      go_ret
      exact ⟨-1, rfl, by rw [HA.out]; rfl, rfl⟩
theorem contains_any (A : Option Addr) (n c : Nat) (l : List Int) (v : Int) (w : World) (h : Rd w A n (l.map iv)) (hm : n ≤ maxLen) :
    Calls Tryd.prog 51 #[.slice A n c, .int .i64 v] w (fun e w' => e = .returned (.bool (l.contains v)) ∧ w = w') := by
  have HF := Lib.hid (index_any A n c l v w h hm)
  clear h hm
  go_enter Tryd.func51, Tryd.ntmps51
  go_wp2_with fail
  refine HF.out.mono ?_
  rintro e w' ⟨k, rfl, hk, rfl⟩
  have HK := Lib.hid hk
  clear hk
  go_wp2_with fail
  go_ret
  exact ⟨ret_bool HK.out, rfl⟩
theorem known_cases {a : Int} (h : known a = true) : a = 0 ∨ a = 1 := by simpa [known] using h
theorem known_one (a : Int) : ([a].all known) = known a := by simp
theorem own_nil' {w : World} {base : Nat} {A : Option Addr} {n c : Nat} {l : List UInt8} (h : OwnB w base A n c l) : A = none → c = 0 := by
  rintro rfl
  exact own_none h
/-- an area's bytes, new ones, as a call hands them back -/
def ReadO (l : List UInt8) (er : Int) (w : World) (e : Ending) (w' : World) : Prop := ∃ A n c, e = .returned (.tuple #[.slice A n c, .int .i64 er]) ∧ OwnB w' w.heap.size A n c l ∧ Below w.heap.size w w'
theorem disk_read (g : Nat) (a : Int) (P : PD) (F : Nat → Prop) (w : World) (h : Dk w F g P) (b0 : P.d0.length ≤ 1099511627776) (b1 : P.d1.length ≤ 1099511627776) :
    Calls Tryd.prog 33 #[.pointer (some ⟨g, 0, none⟩), .int .i64 a] w (ReadO (P.read a).1 (P.read a).2 w) := by
  obtain ⟨A0, n0, c0, A1, n1, c1, h⟩ := h
  have hb := (Below.refl w.heap.size w).alloc (Nat.le_refl _) (.cells #[.int .i64 a] 3)
  have hk := h.kept hb
  have HB := Lib.hid hb
  have HM := Lib.hid (missing_in (some ⟨w.heap.size, 0, none⟩) 1 1 [a] (w.alloc (.cells #[.int .i64 a] 3)) (Rd.new w ([a].map iv) 3) (by simp [maxLen]))
  have HC0 := Lib.hid (clone_any A0 n0 c0 P.d0 _ hk.r0.rd (by rw [← h.r0.len]; exact b0))
  have HC1 := Lib.hid (clone_any A1 n1 c1 P.d1 _ hk.r1.rd (by rw [← h.r1.len]; exact b1))
  obtain ⟨q0, q1, q2, q3, q4⟩ := hk.bk.five
  clear hb hk h b0 b1
  cases hkn : known a
  · have HR := Lib.hid (show P.read a = ([], 41) by unfold PD.read; rw [hkn]; rfl)
    rw [known_one, hkn] at HM
    rw [HR.out]
    clear hkn
    go_enter Tryd.func33, Tryd.ntmps33
    go_wp2_with fail
    refine HM.out.mono ?_
    rintro e w' ⟨rfl, rfl⟩
    go_wp2_with fail
    go_ret2
    exact ⟨none, 0, 0, rfl, OwnB.nil_ _ _, HB.out⟩
  · rw [known_one, hkn] at HM
    rcases known_cases hkn with rfl | rfl
    · have HR := Lib.hid (show P.read 0 = (P.d0, 0) by unfold PD.read; rw [hkn]; rfl)
      rw [HR.out]
      clear hkn
      go_enter Tryd.func33, Tryd.ntmps33
      go_wp2_with fail
      refine HM.out.mono ?_
      rintro e w' ⟨rfl, rfl⟩
      go_wp2_with fail
      refine HC0.out.mono ?_
      rintro e w1 ⟨A, n, c, rfl, ho, hbb⟩
      have HO := Lib.hid ho
      have HBB := Lib.hid hbb
      clear ho hbb
      go_wp2_with fail
      go_ret2
      exact ⟨A, n, c, rfl, HO.out.more HB.out.size, below_next HB.out HBB.out HB.out.size⟩
    · have HR := Lib.hid (show P.read 1 = (P.d1, 0) by unfold PD.read; rw [hkn]; rfl)
      rw [HR.out]
      clear hkn
      go_enter Tryd.func33, Tryd.ntmps33
      go_wp2_with fail
      refine HM.out.mono ?_
      rintro e w' ⟨rfl, rfl⟩
      go_wp2_with fail
      refine HC1.out.mono ?_
      rintro e w1 ⟨A, n, c, rfl, ho, hbb⟩
      have HO := Lib.hid ho
      have HBB := Lib.hid hbb
      clear ho hbb
      go_wp2_with fail
      go_ret2
      exact ⟨A, n, c, rfl, HO.out.more HB.out.size, below_next HB.out HBB.out HB.out.size⟩
end Go.Proofs.YtmiejaohkgemnaaDoor
