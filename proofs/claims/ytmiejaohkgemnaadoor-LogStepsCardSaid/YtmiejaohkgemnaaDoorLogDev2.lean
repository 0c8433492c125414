/-
  The program's stands and someLong. Walks; no statement.
-/
import Derived.Test.YtmiejaohkgemnaaDoorLogDev1
import Derived.Test.YtmiejaohkgemnaaDoorMRows
import Derived.Deep.RegionHeld3
import Derived.StillTailTactics
namespace Go.Proofs.YtmiejaohkgemnaaDoor
open Go.RowKit
open Pk Sh
set_option linter.unusedVariables false
set_option maxRecDepth 100000

set_option maxHeartbeats 1600000 in
theorem stands_any (g p : Nat) (A1 A2 : Option Addr) (n1 c1 n2 c2 : Nat) (s l : List UInt8) (w : World) (h1 : Sl w A1 n1 c1 s) (h2 : Sl w A2 n2 c2 l) (hT : Tab w) (hn : n2 ≤ 65536) (hg : g < 4611686018427387904) (hp : p < 4611686018427387904) :
    Calls Tryd.prog 73 #[.agg #[.slice A1 n1 c1, .slice A2 n2 c2], .int .i64 g, .int .i64 p] w (fun e w' => e = .returned (.bool (decide (s = Lg.dig g p l))) ∧ Below w.heap.size w w') := by
  obtain ⟨wb, hwb⟩ : ∃ wb, wb = w.alloc (.cells #[.slice A1 n1 c1, .slice A2 n2 c2] 89) := ⟨_, rfl⟩
  have hb : Below w.heap.size w wb := by rw [hwb]; exact (Below.refl _ _).alloc (Nat.le_refl _) _
  have kb : Bk wb w.heap.size 89 [.slice A1 n1 c1, .slice A2 n2 c2] := by rw [hwb]; exact Bk.new _ _ _
  have HB := Lib.hid hb
  have HKB := Lib.hid kb
  have H1 := Lib.hid h1
  have H2 := Lib.hid h2
  have HT := Lib.hid hT
  have HDG := Lib.hid (show ∀ W, Below wb.heap.size wb W → Calls Tryd.prog 64 #[.int .i64 g, .int .i64 p, .slice A2 n2 c2] W (fun e w' => ∃ A n c, e = .returned (.slice A n c) ∧ (Rd w' A n ((Lg.dig g p l).map bv) ∧ Below wb.heap.size wb w')) from fun W hW =>
    (digest_any g p A2 n2 c2 l W ((h2.below hb).below hW) ((hT.still hb).still hW) (by omega) hg hp).mono fun e w' ⟨A, n, c, he, ho, hbl⟩ => ⟨A, n, c, he, ho.rd, below_next hW hbl hW.size⟩)
  have HEQ := Lib.hid (show ∀ W A n c, Below wb.heap.size wb W → Rd W A n ((Lg.dig g p l).map bv) → Calls Tryd.prog 83 #[.slice A1 n1 c1, .slice A n c] W (fun e w' => e = .returned (.bool (decide (s = Lg.dig g p l))) ∧ Below wb.heap.size wb w') from fun W A n c hW hr =>
    (equal_any A1 A n1 c1 n c s _ W ((h1.below hb).below hW).rd hr).mono fun e w' ⟨he, hw⟩ => ⟨he, by rw [← hw]; exact hW⟩)
  obtain ⟨t0, t1⟩ := kb.two
  generalize decide (s = Lg.dig g p l) = res at *
  clear h1 h2 hT hb kb
  go_enter Tryd.func73, Tryd.ntmps73
  go_wp2_with fail
  rw [← hwb]
  clear hwb
  have hw := Below.refl wb.heap.size wb
  go_region_held3 (fun w' => w'.cell? ⟨w.heap.size, 0, none⟩ = some (.slice A1 n1 c1) ∧ w'.cell? ⟨w.heap.size, 1, none⟩ = some (.slice A2 n2 c2)) (first | go_keep | exact ⟨t0, t1⟩ | exact KB.out.two | exact KA.out.two)
    (first
      | (go_at_call 64; with_reducible refine (HDG.out _ ?_).mono ?_
         focus first | with_reducible exact hw | with_reducible exact below_drew hw
         rintro e w2 ⟨A, n, c, rfl, hr, hb2⟩
         have HR := Lib.hid hr
         have KB := Lib.hid (HKB.out.kept hb2)
         replace hw := hb2
         clear hr hb2)
      | (go_at_call 83; with_reducible refine (HEQ.out _ _ _ _ ?_ ?_).mono ?_
         focus first | with_reducible exact hw | with_reducible exact below_drew hw
         focus first | with_reducible exact HR.out | exact HR.out
         rintro e w3 ⟨rfl, hb3⟩
         have KA := Lib.hid (HKB.out.kept hb3)
         replace hw := hb3
         clear hb3))
  all_goals
    go_wp2_with fail
    go_ret
    exact ⟨rfl, below_next HB.out hw HB.out.size⟩

/-- has one of these too many bytes? -/
def long (ls : List (List UInt8)) : Bool := ls.any fun l => decide (65536 < l.length)
theorem long_false {ls : List (List UInt8)} (h : long ls = false) : ∀ l ∈ ls, l.length ≤ 65536 := by
  intro l hl
  unfold long at h
  rw [List.any_eq_false] at h
  have := h l hl
  simpa using this
theorem long_next (ls : List (List UInt8)) (k : Nat) (h : k < ls.length) : long (ls.take (k + 1)) = (long (ls.take k) || decide (65536 < (ls.getD k []).length)) := by
  rw [take_snocD ls [] k h]
  unfold long
  rw [List.any_append]
  simp
theorem long_one (B : Option Addr) (n c : Nat) (w : World) : Calls Tryd.prog 62 #[.slice B n c] w (fun e w' => e = .returned (.bool (decide (65536 < n))) ∧ w = w') := by
  by_cases h0 : 65536 < n
  · have HE := Lib.hid (show true = decide (65536 < n) by simp [h0])
    have g0 : (65536 : Int) < (n : Int) := by omega
    go_enter Tryd.func62, Tryd.ntmps62
    go_wp2_with fail
    go_ret
    first | exact ⟨ret_bool HE.out, rfl⟩ | exact ⟨rfl, rfl⟩
  · have HE := Lib.hid (show false = decide (65536 < n) by simp; omega)
    have g0 : ¬ (65536 : Int) < (n : Int) := by omega
    go_enter Tryd.func62, Tryd.ntmps62
    go_wp2_with fail
    go_ret
    first | exact ⟨ret_bool HE.out, rfl⟩ | exact ⟨rfl, rfl⟩
/-- at or above 0 just where one is too long -/
def FindL (ls : List (List UInt8)) (w : World) (e : Ending) (w' : World) : Prop := ∃ k : Int, e = .returned (.int .i64 k) ∧ decide (0 ≤ k) = long ls ∧ w = w'
theorem long_find (A : Option Addr) (n c : Nat) (ls : List (List UInt8)) (w : World) (h : RdRows w A n ls) (hm : n ≤ maxLen) :
    Calls Tryd.prog 77 #[.slice A n c, .func (.func 62) #[] #[]] w (FindL ls w) := by
  unfold maxLen at hm
  have HL := Lib.hid h.1
  have HR := Lib.hid h
  clear h
  go_enter Tryd.func77, Tryd.ntmps77
  go_wp2_with fail
  go_loop [8] (fun i => ∃ k : Nat, k ≤ n ∧ i = .int .i64 k ∧ Hid (long (ls.take k) = false)) (fun i => n - (intOf i).toNat)
  case atStart => exact ⟨0, Nat.zero_le _, rfl, Lib.hid rfl⟩
  case round =>
    obtain ⟨k, hk, rfl, HT⟩ := hrel
    by_cases hlt : k < n
    · obtain ⟨b, E, e, rfl, _, hc, _⟩ := HR.out.at_ hlt
      have hkl : k < ls.length := by rw [HL.out]; exact hlt
      have HN := Lib.hid (long_next ls k hkl)
      have HA := Lib.hid (show 65536 < (ls.getD k []).length → long ls = true from fun hf => List.any_eq_true.2 ⟨_, getD_mem hkl, by simpa using hf⟩)
      generalize ls.getD k [] = x at *
      have e1 : (0 : Int) ≤ (k : Int) := by omega
      have e2 : (k : Int) < (n : Int) := by omega
      have HK := Lib.hid hlt
      have HM := Lib.hid (fun c => long_one E x.length c w)
      clear hkl
      by_cases hx : 65536 < x.length
      · have HA := Lib.hid (HA.out hx)
        have he : decide (65536 < x.length) = true := by simp [hx]
        rw [he] at HM
        clear hx he
        go_wp2_with fail
        refine (HM.out _).mono ?_
        rintro e w' ⟨rfl, rfl⟩
        go_wp2_with fail
        go_ret
        exact ⟨k, rfl, by rw [HA.out]; simp, rfl⟩
      · have he : decide (65536 < x.length) = false := by simp; omega
        rw [he] at HM HN
        have HN2 := Lib.hid (show long (ls.take (k + 1)) = false by rw [HN.out, HT.out]; rfl)
        clear hx he
        go_wp2_with fail
        refine (HM.out _).mono ?_
        rintro e w' ⟨rfl, rfl⟩
        go_wp2_with fail
        go_round
        case rel => exact ⟨k + 1, by have := HK.out; omega, by go_num, HN2⟩
        case measure => have := HK.out; simp [intOf]; omega
    · have HA := Lib.hid (show long ls = false by
        have := HT.out
        rwa [List.take_of_length_le (by rw [HL.out]; omega)] at this)
      have e2 : ¬ (k : Int) < (n : Int) := by omega
      go_wp2_with fail
      go_ret
      exact ⟨-1, rfl, by rw [HA.out]; rfl, rfl⟩
theorem long_some (A : Option Addr) (n c : Nat) (ls : List (List UInt8)) (w : World) (h : RdRows w A n ls) (hm : n ≤ maxLen) :
    Calls Tryd.prog 61 #[.slice A n c, .func (.func 62) #[] #[]] w (fun e w' => e = .returned (.bool (long ls)) ∧ w = w') := by
  have HF := Lib.hid (long_find A n c ls w h hm)
  clear h hm
  go_enter Tryd.func61, Tryd.ntmps61
  go_wp2_with fail
  refine HF.out.mono ?_
  rintro e w' ⟨k, rfl, hk, rfl⟩
  have HK := Lib.hid hk
  clear hk
  go_wp2_with fail
  go_ret
  exact ⟨ret_bool HK.out, rfl⟩
theorem someLong_any (A : Option Addr) (n c : Nat) (ls : List (List UInt8)) (w : World) (h : RdRows w A n ls) (hm : n ≤ maxLen) :
    Calls Tryd.prog 40 #[.slice A n c] w (fun e w' => e = .returned (.bool (long ls)) ∧ w = w') := by
  have HF := Lib.hid (long_some A n c ls w h hm)
  clear h hm
  go_enter Tryd.func40, Tryd.ntmps40
  go_wp2_with fail
  refine HF.out.mono ?_
  rintro e w' ⟨rfl, rfl⟩
  go_wp2_with fail
  go_ret
  exact ⟨rfl, rfl⟩
end Go.Proofs.YtmiejaohkgemnaaDoor
