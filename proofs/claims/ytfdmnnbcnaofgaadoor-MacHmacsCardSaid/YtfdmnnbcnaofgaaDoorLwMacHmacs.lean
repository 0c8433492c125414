import Derived.Test.YtfdmnnbcnaofgaaDoorMacLaw
import Derived.Test.YtfdmnnbcnaofgaaDoorRefHmac
namespace Go.Proofs.YtfdmnnbcnaofgaaDoor
open Go.RowKit
open Pk Sh
set_option linter.unusedVariables false

theorem macHmacs_early (w : World) (hT : Tab w) (A B : Option Addr) (n c m d : Nat) (h : 10000 < n + m) (hn : n ≤ 140737488355328) (hm : m ≤ 140737488355328) :
    Calls Tryd.prog 3 #[.slice A n c, .slice B m d] w (Tr w) := by
  have HA := Lib.hid (alive_ok w hT)
  have h1 : (10000 : Int) < (n : Int) + (m : Int) := by omega
  clear hT
  go_enter Tryd.func3, Tryd.ntmps3
  go_wp2_with fail
  refine HA.out.mono ?_
  rintro e w1 ⟨rfl, hb1⟩
  go_wp2_with fail
  go_ret
  exact ⟨rfl, hb1⟩

set_option maxHeartbeats 1600000 in
set_option maxRecDepth 100000 in
theorem macHmacs_main (w : World) (hT : Tab w) (A B : Option Addr) (n c m d : Nat) (key b : List UInt8) (h : Sl w A n c key) (hb : Sl w B m d b) (hnm : n + m ≤ 10000) :
    Calls Tryd.prog 3 #[.slice A n c, .slice B m d] w (Tr w) := by
  have HA := Lib.hid (alive_ok w hT)
  have h1 : ¬ (10000 : Int) < (n : Int) + (m : Int) := by omega
  have HC := Lib.hid (show ∀ X, Below w.heap.size w X → Calls Tryd.prog 14 #[.slice B m d] X (fun e w' => ∃ A' c', e = .returned (.slice A' m c') ∧ Sl w' A' m c' b ∧ Below w.heap.size w w' ∧ Below X.heap.size X w') from fun X hw => copy_new hb (by omega) X hw)
  have HH := Lib.hid (show ∀ A2 c2 A' c' X, Below w.heap.size w X → Sl X A2 (n + 8) c2 (key ++ marks 8) → Sl X A' m c' b → Calls Tryd.prog 13 #[.slice A2 n c2, .slice A' m c'] X (fun e w' => ∃ A' c', e = .returned (.slice A' 32 c') ∧ Sl w' A' 32 c' (hmac key b) ∧ Below w.heap.size w w' ∧ Below X.heap.size X w') from
    fun A2 c2 A' c' X hw f1 f2 => (hmac_any A2 A' n c2 m c' key b X (f1.front h.len) f2 (hT.kept hw) (by omega) (by omega)).mono fun _ _ q => fresh_new hw (hmac_len _ _) q)
  have HR := Lib.hid (show ∀ X, Below w.heap.size w X → Calls Tryd.prog 15 #[.slice A n c, .slice B m d] X (fun e w' => ∃ A' c', e = .returned (.slice A' 32 c') ∧ Sl w' A' 32 c' (hmac key b) ∧ Below w.heap.size w w' ∧ Below X.heap.size X w') from
    fun X hw => (refHmac_any A B n c m d key b X (h.below hw).rd (hb.below hw).rd (by omega) (by omega)).mono fun _ _ q => fresh_new hw (hmac_len _ _) q)
  have HS := Lib.hid (show ∀ A' c' A'' c'' X, Below w.heap.size w X → Sl X A' 32 c' (hmac key b) → Sl X A'' 32 c'' (hmac key b) → Calls Tryd.prog 12 #[.slice A' 32 c', .slice A'' 32 c''] X (fun e w' => e = .returned (.bool true) ∧ Below w.heap.size w w' ∧ Below X.heap.size X w') from
    fun A' c' A'' c'' X hw f1 f2 => same_new (by simp [maxLen]) A' A'' 32 c' c'' X hw f1 f2)
  have HP0 := Lib.hid (show ∀ X, Below w.heap.size w X → Calls Tryd.prog 11 #[.slice A n c] X (fun e w' => ∃ g c', e = .returned (.slice (some ⟨g, 0, none⟩) (n + 8) c') ∧ Sl w' (some ⟨g, 0, none⟩) (n + 8) c' (key ++ marks 8) ∧ Below w.heap.size w w' ∧ Below X.heap.size X w') from
    fun X hw => (spare_any A n c key X (h.below hw).rd (by omega)).mono fun e w' q => by
      obtain ⟨A', n', c', he, ho, hb⟩ := q
      have hn' : n' = n + 8 := by rw [← ho.len, List.length_append, h.len, marks_len]
      subst hn'
      obtain ⟨g, rfl, _⟩ := own_at ho (by omega)
      exact ⟨g, c', he, Sl.own ho, below_next hw hb hw.size, hb⟩)
  have HS2 := Lib.hid (show ∀ A' c' A'' c'' X, Below w.heap.size w X → Sl X A' (n + 8) c' (key ++ marks 8) → Sl X A'' (n + 8) c'' (key ++ marks 8) → Calls Tryd.prog 12 #[.slice A' (n + 8) c', .slice A'' (n + 8) c''] X (fun e w' => e = .returned (.bool true) ∧ Below w.heap.size w w' ∧ Below X.heap.size X w') from
    fun A' c' A'' c'' X hw f1 f2 => same_new (by simp only [maxLen]; omega) A' A'' (n + 8) c' c'' X hw f1 f2)
  clear hT h hb
  go_enter Tryd.func3, Tryd.ntmps3
  go_wp2_with fail
  refine HA.out.mono ?_
  rintro e w1 ⟨rfl, hb1⟩
  go_wp2_with fail
  refine (HP0.out w1 hb1).mono ?_
  rintro e w2 ⟨g2, c2, rfl, fo, hw, _⟩
  have hc2 := fo.1
  have hsl : ∀ wx, (Instr.slice 22 (.slice (some ⟨g2, 0, none⟩) (n + 8) c2) none (some (.int .i64 (n : Int))) none).run Tryd.prog wx = .ok (.slice (if n = c2 then some ⟨g2, 0, none⟩ else some ⟨g2, 0, none⟩) n c2) wx := by
    intro wx
    rw [run_slice_h wx _ _ _ _ (by kernel_rfl) .i64 n (by omega) (by omega)]
    have e : Tryd.prog.elem 22 = 5 := by kernel_rfl
    rw [e, size_u8]
    have e0 : (⟨g2, 0, none⟩ : Addr).add 0 = ⟨g2, 0, none⟩ := at_add g2 0 0
    simp [Result.andThen, sliced, e0]
  simp only [ite_self] at hsl
  have hg1 : (0 : Int) ≤ (n : Int) := by omega
  have hg2 : (n : Int) ≤ (c2 : Int) := by omega
  clear hc2 hb1
  go_wp2_with fail
  go_region_held3 (fun _ => True) (trivial)
    (first
      | (go_at_call 14; with_reducible refine (HC.out _ ?_).mono ?_
         focus first | with_reducible exact hw | with_reducible exact below_drew hw
         rintro e w' ⟨A3, c3, rfl, fc, hw', hx⟩
         first | replace fo := fo.below hx | replace fo := fo.belowD hx | skip
         first | replace fc := fc.below hx | replace fc := fc.belowD hx | skip
         first | replace fh := fh.below hx | replace fh := fh.belowD hx | skip
         first | replace fr := fr.below hx | replace fr := fr.belowD hx | skip
         first | replace fp := fp.below hx | replace fp := fp.belowD hx | skip
         replace hw := hw'
         clear hw' hx)
      | (go_at_call 13; with_reducible refine (HH.out _ _ _ _ _ ?_ ?_ ?_).mono ?_
         focus first | with_reducible exact hw | with_reducible exact below_drew hw
         focus first | with_reducible exact fo | with_reducible exact fo.drew
         focus first | with_reducible exact fc | with_reducible exact fc.drew
         rintro e w' ⟨A4, c4, rfl, fh, hw', hx⟩
         first | replace fo := fo.below hx | replace fo := fo.belowD hx | skip
         first | replace fc := fc.below hx | replace fc := fc.belowD hx | skip
         first | replace fh := fh.below hx | replace fh := fh.belowD hx | skip
         first | replace fr := fr.below hx | replace fr := fr.belowD hx | skip
         first | replace fp := fp.below hx | replace fp := fp.belowD hx | skip
         replace hw := hw'
         clear hw' hx)
      | (go_at_call 15; with_reducible refine (HR.out _ ?_).mono ?_
         focus first | with_reducible exact hw | with_reducible exact below_drew hw
         rintro e w' ⟨A5, c5, rfl, fr, hw', hx⟩
         first | replace fo := fo.below hx | replace fo := fo.belowD hx | skip
         first | replace fc := fc.below hx | replace fc := fc.belowD hx | skip
         first | replace fh := fh.below hx | replace fh := fh.belowD hx | skip
         first | replace fr := fr.below hx | replace fr := fr.belowD hx | skip
         first | replace fp := fp.below hx | replace fp := fp.belowD hx | skip
         replace hw := hw'
         clear hw' hx)
      | (go_at_call 12; with_reducible refine (HS.out _ _ _ _ _ ?_ ?_ ?_).mono ?_
         focus first | with_reducible exact hw | with_reducible exact below_drew hw
         focus first | with_reducible exact fh | with_reducible exact fh.drew
         focus first | with_reducible exact fr | with_reducible exact fr.drew
         rintro e w' ⟨rfl, hw', hx⟩
         first | replace fo := fo.below hx | replace fo := fo.belowD hx | skip
         first | replace fc := fc.below hx | replace fc := fc.belowD hx | skip
         first | replace fh := fh.below hx | replace fh := fh.belowD hx | skip
         first | replace fr := fr.below hx | replace fr := fr.belowD hx | skip
         first | replace fp := fp.below hx | replace fp := fp.belowD hx | skip
         replace hw := hw'
         clear hw' hx)
      | (go_at_call 11; with_reducible refine (HP0.out _ ?_).mono ?_
         focus first | with_reducible exact hw | with_reducible exact below_drew hw
         rintro e w' ⟨g6, c6, rfl, fp, hw', hx⟩
         first | replace fo := fo.below hx | replace fo := fo.belowD hx | skip
         first | replace fc := fc.below hx | replace fc := fc.belowD hx | skip
         first | replace fh := fh.below hx | replace fh := fh.belowD hx | skip
         first | replace fr := fr.below hx | replace fr := fr.belowD hx | skip
         first | replace fp := fp.below hx | replace fp := fp.belowD hx | skip
         replace hw := hw'
         clear hw' hx)
      | (go_at_call 12; with_reducible refine (HS2.out _ _ _ _ _ ?_ ?_ ?_).mono ?_
         focus first | with_reducible exact hw | with_reducible exact below_drew hw
         focus first | with_reducible exact fo | with_reducible exact fo.drew
         focus first | with_reducible exact fp | with_reducible exact fp.drew
         rintro e w' ⟨rfl, hw', hx⟩
         first | replace fo := fo.below hx | replace fo := fo.belowD hx | skip
         first | replace fc := fc.below hx | replace fc := fc.belowD hx | skip
         first | replace fh := fh.below hx | replace fh := fh.belowD hx | skip
         first | replace fr := fr.below hx | replace fr := fr.belowD hx | skip
         first | replace fp := fp.below hx | replace fp := fp.belowD hx | skip
         replace hw := hw'
         clear hw' hx))
  all_goals
    go_wp2_with fail
    go_ret
    exact ⟨rfl, hw⟩

theorem macHmacs_walk (w : World) (hT : Tab w) (v0 : Value) (key : List UInt8) (h0 : InBs w v0 key) (v1 : Value) (b : List UInt8) (h1 : InBs w v1 b) :
    Calls Tryd.prog 3 #[v0, v1] w (Tr w) := by
  obtain ⟨⟨A, n, c, rfl, hs⟩, hz0⟩ := h0
  obtain ⟨⟨B, m, d, rfl, hs2⟩, hz1⟩ := h1
  rw [Sl.len (w := w) (A := A) (c := c) hs] at hz0
  rw [Sl.len (w := w) (A := B) (c := d) hs2] at hz1
  rcases Nat.lt_or_ge 10000 (n + m) with h | h
  · exact macHmacs_early w hT A B n c m d h hz0 hz1
  · exact macHmacs_main w hT A B n c m d key b hs hs2 h
end Go.Proofs.YtfdmnnbcnaofgaaDoor
