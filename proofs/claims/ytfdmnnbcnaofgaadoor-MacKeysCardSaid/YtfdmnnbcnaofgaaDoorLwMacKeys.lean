import Derived.Test.YtfdmnnbcnaofgaaDoorMacLaw
import Derived.Test.YtfdmnnbcnaofgaaDoorRefOpen
namespace Go.Proofs.YtfdmnnbcnaofgaaDoor
open Go.RowKit
open Pk Sh
set_option linter.unusedVariables false

theorem macKeys_early (w : World) (hT : Tab w) (A B : Option Addr) (n c m d : Nat) (a b : Int × Int) (h : 5000 < n + m) (hn : n ≤ 140737488355328) (hm : m ≤ 140737488355328) :
    Calls Tryd.prog 4 #[.slice A n c, .agg #[.int .i64 a.1, .int .i64 a.2], .agg #[.int .i64 b.1, .int .i64 b.2], .slice B m d] w (Tr w) := by
  obtain ⟨a1, a2⟩ := a
  obtain ⟨b1, b2⟩ := b
  have b0 := ((Below.refl w.heap.size w).alloc (Nat.le_refl _) (.cells #[.int .i64 a1, .int .i64 a2] 28)).alloc (by simp) (.cells #[.int .i64 b1, .int .i64 b2] 28)
  have HB0 := Lib.hid b0
  have HA := Lib.hid (alive_ok _ (hT.kept b0))
  have h1 : (5000 : Int) < (n : Int) + (m : Int) := by omega
  clear hT b0
  go_enter Tryd.func4, Tryd.ntmps4
  go_wp2_with fail
  refine HA.out.mono ?_
  rintro e w1 ⟨rfl, hb1⟩
  have HB1 := Lib.hid (below_next HB0.out hb1 HB0.out.size)
  clear hb1
  go_wp2_with fail
  go_ret
  exact ⟨rfl, HB1.out⟩

set_option maxHeartbeats 4000000 in
set_option maxRecDepth 100000 in
theorem macKeys_main (w : World) (hT : Tab w) (A B : Option Addr) (n c m d : Nat) (s body : List UInt8) (a b : Int × Int) (h : Sl w A n c s) (hb : Sl w B m d body) (hnm : n + m ≤ 5000) :
    Calls Tryd.prog 4 #[.slice A n c, .agg #[.int .i64 a.1, .int .i64 a.2], .agg #[.int .i64 b.1, .int .i64 b.2], .slice B m d] w (Tr w) := by
  obtain ⟨a1, a2⟩ := a
  obtain ⟨b1, b2⟩ := b
  have b0 := ((Below.refl w.heap.size w).alloc (Nat.le_refl _) (.cells #[.int .i64 a1, .int .i64 a2] 28)).alloc (by simp) (.cells #[.int .i64 b1, .int .i64 b2] 28)
  have HB0 := Lib.hid b0
  have HA := Lib.hid (alive_ok _ (hT.kept b0))
  have h1 : ¬ (5000 : Int) < (n : Int) + (m : Int) := by omega
  have HKA := Lib.hid ((Bk.new w 28 [.int .i64 a1, .int .i64 a2]).alloc (.cells #[.int .i64 b1, .int .i64 b2] 28))
  have hkb := Bk.new (w.alloc (.cells #[.int .i64 a1, .int .i64 a2] 28)) 28 [.int .i64 b1, .int .i64 b2]
  rw [show (w.alloc (.cells #[.int .i64 a1, .int .i64 a2] 28)).heap.size = w.heap.size + 1 by simp] at hkb
  have HKB := Lib.hid hkb
  have HC := Lib.hid (show ∀ X, Below w.heap.size w X → Calls Tryd.prog 14 #[.slice A n c] X (fun e w' => ∃ A' c', e = .returned (.slice A' n c') ∧ Sl w' A' n c' s ∧ Below w.heap.size w w' ∧ Below X.heap.size X w') from fun X hw => copy_new h (by omega) X hw)
  have HCB := Lib.hid (show ∀ X, Below w.heap.size w X → Calls Tryd.prog 14 #[.slice B m d] X (fun e w' => ∃ A' c', e = .returned (.slice A' m c') ∧ Sl w' A' m c' body ∧ Below w.heap.size w w' ∧ Below X.heap.size X w') from fun X hw => copy_new hb (by omega) X hw)
  have HK1 := Lib.hid (show ∀ A' c' X, Below w.heap.size w X → Sl X A' n c' s → Calls Tryd.prog 16 #[.slice A' n c', .agg #[.int .i64 a1, .int .i64 a2], .agg #[.int .i64 b1, .int .i64 b2]] X (fun e w' => ∃ A' c', e = .returned (.slice A' 32 c') ∧ Sl w' A' 32 c' (keyN s (a1, a2) (b1, b2)) ∧ Below w.heap.size w w' ∧ Below X.heap.size X w') from
    fun A' c' X hw f => (key_any A' n c' s (a1, a2) (b1, b2) X f (hT.kept hw) (by omega)).mono fun _ _ q => fresh_new hw (keyN_len _ _ _) q)
  have HK3 := Lib.hid (show ∀ X, Below w.heap.size w X → Calls Tryd.prog 16 #[.slice A n c, .agg #[.int .i64 a1, .int .i64 a2], .agg #[.int .i64 b1, .int .i64 b2]] X (fun e w' => ∃ A' c', e = .returned (.slice A' 32 c') ∧ Sl w' A' 32 c' (keyN s (a1, a2) (b1, b2)) ∧ Below w.heap.size w w' ∧ Below X.heap.size X w') from
    fun X hw => (key_any A n c s (a1, a2) (b1, b2) X (h.below hw) (hT.kept hw) (by omega)).mono fun _ _ q => fresh_new hw (keyN_len _ _ _) q)
  have HK4 := Lib.hid (show ∀ X, Below w.heap.size w X → Calls Tryd.prog 16 #[.slice A n c, .agg #[.int .i64 b1, .int .i64 b2], .agg #[.int .i64 a1, .int .i64 a2]] X (fun e w' => ∃ A' c', e = .returned (.slice A' 32 c') ∧ Sl w' A' 32 c' (keyN s (a1, a2) (b1, b2)) ∧ Below w.heap.size w w' ∧ Below X.heap.size X w') from
    fun X hw => (key_any A n c s (b1, b2) (a1, a2) X (h.below hw) (hT.kept hw) (by omega)).mono fun _ _ q => fresh_new hw (keyN_len _ _ _) (by rw [keyN_comm]; exact q))
  have HK2 := Lib.hid (show ∀ X, Below w.heap.size w X → Calls Tryd.prog 17 #[.slice A n c, .agg #[.int .i64 a1, .int .i64 a2], .agg #[.int .i64 b1, .int .i64 b2]] X (fun e w' => ∃ A' c', e = .returned (.slice A' 32 c') ∧ Sl w' A' 32 c' (keyN s (a1, a2) (b1, b2)) ∧ Below w.heap.size w w' ∧ Below X.heap.size X w') from
    fun X hw => (refKey_any A n c s (a1, a2) (b1, b2) X (h.below hw) (by omega)).mono fun _ _ q => fresh_new hw (keyN_len _ _ _) q)
  have HT1 := Lib.hid (show ∀ A' c' X, Below w.heap.size w X → Sl X A' m c' body → Calls Tryd.prog 18 #[.slice A n c, .agg #[.int .i64 a1, .int .i64 a2], .agg #[.int .i64 b1, .int .i64 b2], .slice A' m c'] X (fun e w' => ∃ A' c', e = .returned (.slice A' 16 c') ∧ Sl w' A' 16 c' (tagN s (a1, a2) (b1, b2) body) ∧ Below w.heap.size w w' ∧ Below X.heap.size X w') from
    fun A' c' X hw f => (tag_any A A' n c m c' s body (a1, a2) (b1, b2) X (h.below hw) f (hT.kept hw) (by omega) (by omega)).mono fun _ _ q => fresh_new hw (tagN_len _ _ _ _) q)
  have HT2 := Lib.hid (show ∀ X, Below w.heap.size w X → Calls Tryd.prog 19 #[.slice A n c, .agg #[.int .i64 a1, .int .i64 a2], .agg #[.int .i64 b1, .int .i64 b2], .slice B m d] X (fun e w' => ∃ A' c', e = .returned (.slice A' 16 c') ∧ Sl w' A' 16 c' (tagN s (a1, a2) (b1, b2) body) ∧ Below w.heap.size w w' ∧ Below X.heap.size X w') from
    fun X hw => (refTag_any A B n c m d s body (a1, a2) (b1, b2) X (h.below hw) (hb.below hw) (by omega) (by omega)).mono fun _ _ q => fresh_new hw (tagN_len _ _ _ _) q)
  have HS := Lib.hid (show ∀ A' c' A'' c'' X, Below w.heap.size w X → Sl X A' 32 c' (keyN s (a1, a2) (b1, b2)) → Sl X A'' 32 c'' (keyN s (a1, a2) (b1, b2)) → Calls Tryd.prog 12 #[.slice A' 32 c', .slice A'' 32 c''] X (fun e w' => e = .returned (.bool true) ∧ Below w.heap.size w w' ∧ Below X.heap.size X w') from
    fun A' c' A'' c'' X hw f1 f2 => same_new (by simp [maxLen]) A' A'' 32 c' c'' X hw f1 f2)
  have HS2 := Lib.hid (show ∀ A' c' A'' c'' X, Below w.heap.size w X → Sl X A' 16 c' (tagN s (a1, a2) (b1, b2) body) → Sl X A'' 16 c'' (tagN s (a1, a2) (b1, b2) body) → Calls Tryd.prog 12 #[.slice A' 16 c', .slice A'' 16 c''] X (fun e w' => e = .returned (.bool true) ∧ Below w.heap.size w w' ∧ Below X.heap.size X w') from
    fun A' c' A'' c'' X hw f1 f2 => same_new (by simp [maxLen]) A' A'' 16 c' c'' X hw f1 f2)
  clear hT h hb b0 hkb
  go_enter Tryd.func4, Tryd.ntmps4
  go_wp2_with fail
  refine HA.out.mono ?_
  rintro e w1 ⟨rfl, hb1⟩
  have hw : Below w.heap.size w w1 := below_next HB0.out hb1 HB0.out.size
  have ka : Bk w1 w.heap.size 28 [.int .i64 a1, .int .i64 a2] := HKA.out.kept hb1
  have kb : Bk w1 (w.heap.size + 1) 28 [.int .i64 b1, .int .i64 b2] := HKB.out.kept hb1
  obtain ⟨ca0, ca1⟩ := ka.two
  obtain ⟨cb0, cb1⟩ := kb.two
  clear hb1
  go_wp2_with fail
  go_region_held3 (fun w' => w'.cell? ⟨w.heap.size, 0, none⟩ = some (.int .i64 a1) ∧ w'.cell? ⟨w.heap.size, 1, none⟩ = some (.int .i64 a2) ∧ w'.cell? ⟨w.heap.size + 1, 0, none⟩ = some (.int .i64 b1) ∧ w'.cell? ⟨w.heap.size + 1, 1, none⟩ = some (.int .i64 b2))
    (first | exact ⟨ka.two.1, ka.two.2, kb.two.1, kb.two.2⟩ | go_keep)
    (first
      | (go_at_call 14; with_reducible refine (HC.out _ ?_).mono ?_
         focus first | with_reducible exact hw | with_reducible exact below_drew hw
         rintro e w' ⟨A3, c3, rfl, fc, hw', hx⟩
         first | replace fc := fc.below hx | replace fc := fc.belowD hx | skip
         first | replace f1 := f1.below hx | replace f1 := f1.belowD hx | skip
         first | replace f2 := f2.below hx | replace f2 := f2.belowD hx | skip
         first | replace f3 := f3.below hx | replace f3 := f3.belowD hx | skip
         first | replace f4 := f4.below hx | replace f4 := f4.belowD hx | skip
         first | replace gc := gc.below hx | replace gc := gc.belowD hx | skip
         first | replace g1 := g1.below hx | replace g1 := g1.belowD hx | skip
         first | replace g2 := g2.below hx | replace g2 := g2.belowD hx | skip
         first | replace ka := ka.kept hx | replace ka := bk_keptD ka hx | skip
         first | replace kb := kb.kept hx | replace kb := bk_keptD kb hx | skip
         replace hw := hw'
         clear hw' hx)
      | (go_at_call 14; with_reducible refine (HCB.out _ ?_).mono ?_
         focus first | with_reducible exact hw | with_reducible exact below_drew hw
         rintro e w' ⟨A3, c3, rfl, gc, hw', hx⟩
         first | replace fc := fc.below hx | replace fc := fc.belowD hx | skip
         first | replace f1 := f1.below hx | replace f1 := f1.belowD hx | skip
         first | replace f2 := f2.below hx | replace f2 := f2.belowD hx | skip
         first | replace f3 := f3.below hx | replace f3 := f3.belowD hx | skip
         first | replace f4 := f4.below hx | replace f4 := f4.belowD hx | skip
         first | replace gc := gc.below hx | replace gc := gc.belowD hx | skip
         first | replace g1 := g1.below hx | replace g1 := g1.belowD hx | skip
         first | replace g2 := g2.below hx | replace g2 := g2.belowD hx | skip
         first | replace ka := ka.kept hx | replace ka := bk_keptD ka hx | skip
         first | replace kb := kb.kept hx | replace kb := bk_keptD kb hx | skip
         replace hw := hw'
         clear hw' hx)
      | (go_at_call 16; with_reducible refine (HK3.out _ ?_).mono ?_
         focus first | with_reducible exact hw | with_reducible exact below_drew hw
         rintro e w' ⟨A4, c4, rfl, f3, hw', hx⟩
         first | replace fc := fc.below hx | replace fc := fc.belowD hx | skip
         first | replace f1 := f1.below hx | replace f1 := f1.belowD hx | skip
         first | replace f2 := f2.below hx | replace f2 := f2.belowD hx | skip
         first | replace f3 := f3.below hx | replace f3 := f3.belowD hx | skip
         first | replace f4 := f4.below hx | replace f4 := f4.belowD hx | skip
         first | replace gc := gc.below hx | replace gc := gc.belowD hx | skip
         first | replace g1 := g1.below hx | replace g1 := g1.belowD hx | skip
         first | replace g2 := g2.below hx | replace g2 := g2.belowD hx | skip
         first | replace ka := ka.kept hx | replace ka := bk_keptD ka hx | skip
         first | replace kb := kb.kept hx | replace kb := bk_keptD kb hx | skip
         replace hw := hw'
         clear hw' hx)
      | (go_at_call 16; with_reducible refine (HK4.out _ ?_).mono ?_
         focus first | with_reducible exact hw | with_reducible exact below_drew hw
         rintro e w' ⟨A4, c4, rfl, f4, hw', hx⟩
         first | replace fc := fc.below hx | replace fc := fc.belowD hx | skip
         first | replace f1 := f1.below hx | replace f1 := f1.belowD hx | skip
         first | replace f2 := f2.below hx | replace f2 := f2.belowD hx | skip
         first | replace f3 := f3.below hx | replace f3 := f3.belowD hx | skip
         first | replace f4 := f4.below hx | replace f4 := f4.belowD hx | skip
         first | replace gc := gc.below hx | replace gc := gc.belowD hx | skip
         first | replace g1 := g1.below hx | replace g1 := g1.belowD hx | skip
         first | replace g2 := g2.below hx | replace g2 := g2.belowD hx | skip
         first | replace ka := ka.kept hx | replace ka := bk_keptD ka hx | skip
         first | replace kb := kb.kept hx | replace kb := bk_keptD kb hx | skip
         replace hw := hw'
         clear hw' hx)
      | (go_at_call 16; with_reducible refine (HK1.out _ _ _ ?_ ?_).mono ?_
         focus first | with_reducible exact hw | with_reducible exact below_drew hw
         focus first | with_reducible exact fc | with_reducible exact fc.drew
         rintro e w' ⟨A4, c4, rfl, f1, hw', hx⟩
         first | replace fc := fc.below hx | replace fc := fc.belowD hx | skip
         first | replace f1 := f1.below hx | replace f1 := f1.belowD hx | skip
         first | replace f2 := f2.below hx | replace f2 := f2.belowD hx | skip
         first | replace f3 := f3.below hx | replace f3 := f3.belowD hx | skip
         first | replace f4 := f4.below hx | replace f4 := f4.belowD hx | skip
         first | replace gc := gc.below hx | replace gc := gc.belowD hx | skip
         first | replace g1 := g1.below hx | replace g1 := g1.belowD hx | skip
         first | replace g2 := g2.below hx | replace g2 := g2.belowD hx | skip
         first | replace ka := ka.kept hx | replace ka := bk_keptD ka hx | skip
         first | replace kb := kb.kept hx | replace kb := bk_keptD kb hx | skip
         replace hw := hw'
         clear hw' hx)
      | (go_at_call 17; with_reducible refine (HK2.out _ ?_).mono ?_
         focus first | with_reducible exact hw | with_reducible exact below_drew hw
         rintro e w' ⟨A5, c5, rfl, f2, hw', hx⟩
         first | replace fc := fc.below hx | replace fc := fc.belowD hx | skip
         first | replace f1 := f1.below hx | replace f1 := f1.belowD hx | skip
         first | replace f2 := f2.below hx | replace f2 := f2.belowD hx | skip
         first | replace f3 := f3.below hx | replace f3 := f3.belowD hx | skip
         first | replace f4 := f4.below hx | replace f4 := f4.belowD hx | skip
         first | replace gc := gc.below hx | replace gc := gc.belowD hx | skip
         first | replace g1 := g1.below hx | replace g1 := g1.belowD hx | skip
         first | replace g2 := g2.below hx | replace g2 := g2.belowD hx | skip
         first | replace ka := ka.kept hx | replace ka := bk_keptD ka hx | skip
         first | replace kb := kb.kept hx | replace kb := bk_keptD kb hx | skip
         replace hw := hw'
         clear hw' hx)
      | (go_at_call 18; with_reducible refine (HT1.out _ _ _ ?_ ?_).mono ?_
         focus first | with_reducible exact hw | with_reducible exact below_drew hw
         focus first | with_reducible exact gc | with_reducible exact gc.drew
         rintro e w' ⟨A5, c5, rfl, g1, hw', hx⟩
         first | replace fc := fc.below hx | replace fc := fc.belowD hx | skip
         first | replace f1 := f1.below hx | replace f1 := f1.belowD hx | skip
         first | replace f2 := f2.below hx | replace f2 := f2.belowD hx | skip
         first | replace f3 := f3.below hx | replace f3 := f3.belowD hx | skip
         first | replace f4 := f4.below hx | replace f4 := f4.belowD hx | skip
         first | replace gc := gc.below hx | replace gc := gc.belowD hx | skip
         first | replace g1 := g1.below hx | replace g1 := g1.belowD hx | skip
         first | replace g2 := g2.below hx | replace g2 := g2.belowD hx | skip
         first | replace ka := ka.kept hx | replace ka := bk_keptD ka hx | skip
         first | replace kb := kb.kept hx | replace kb := bk_keptD kb hx | skip
         replace hw := hw'
         clear hw' hx)
      | (go_at_call 19; with_reducible refine (HT2.out _ ?_).mono ?_
         focus first | with_reducible exact hw | with_reducible exact below_drew hw
         rintro e w' ⟨A5, c5, rfl, g2, hw', hx⟩
         first | replace fc := fc.below hx | replace fc := fc.belowD hx | skip
         first | replace f1 := f1.below hx | replace f1 := f1.belowD hx | skip
         first | replace f2 := f2.below hx | replace f2 := f2.belowD hx | skip
         first | replace f3 := f3.below hx | replace f3 := f3.belowD hx | skip
         first | replace f4 := f4.below hx | replace f4 := f4.belowD hx | skip
         first | replace gc := gc.below hx | replace gc := gc.belowD hx | skip
         first | replace g1 := g1.below hx | replace g1 := g1.belowD hx | skip
         first | replace g2 := g2.below hx | replace g2 := g2.belowD hx | skip
         first | replace ka := ka.kept hx | replace ka := bk_keptD ka hx | skip
         first | replace kb := kb.kept hx | replace kb := bk_keptD kb hx | skip
         replace hw := hw'
         clear hw' hx)
      | (go_at_call 12; with_reducible refine (HS.out _ _ _ _ _ ?_ ?_ ?_).mono ?_
         focus first | with_reducible exact hw | with_reducible exact below_drew hw
         focus first | with_reducible exact f1 | with_reducible exact f1.drew
         focus first | with_reducible exact f2 | with_reducible exact f2.drew
         rintro e w' ⟨rfl, hw', hx⟩
         first | replace fc := fc.below hx | replace fc := fc.belowD hx | skip
         first | replace f1 := f1.below hx | replace f1 := f1.belowD hx | skip
         first | replace f2 := f2.below hx | replace f2 := f2.belowD hx | skip
         first | replace f3 := f3.below hx | replace f3 := f3.belowD hx | skip
         first | replace f4 := f4.below hx | replace f4 := f4.belowD hx | skip
         first | replace gc := gc.below hx | replace gc := gc.belowD hx | skip
         first | replace g1 := g1.below hx | replace g1 := g1.belowD hx | skip
         first | replace g2 := g2.below hx | replace g2 := g2.belowD hx | skip
         first | replace ka := ka.kept hx | replace ka := bk_keptD ka hx | skip
         first | replace kb := kb.kept hx | replace kb := bk_keptD kb hx | skip
         replace hw := hw'
         clear hw' hx)
      | (go_at_call 12; with_reducible refine (HS.out _ _ _ _ _ ?_ ?_ ?_).mono ?_
         focus first | with_reducible exact hw | with_reducible exact below_drew hw
         focus first | with_reducible exact f3 | with_reducible exact f3.drew
         focus first | with_reducible exact f4 | with_reducible exact f4.drew
         rintro e w' ⟨rfl, hw', hx⟩
         first | replace fc := fc.below hx | replace fc := fc.belowD hx | skip
         first | replace f1 := f1.below hx | replace f1 := f1.belowD hx | skip
         first | replace f2 := f2.below hx | replace f2 := f2.belowD hx | skip
         first | replace f3 := f3.below hx | replace f3 := f3.belowD hx | skip
         first | replace f4 := f4.below hx | replace f4 := f4.belowD hx | skip
         first | replace gc := gc.below hx | replace gc := gc.belowD hx | skip
         first | replace g1 := g1.below hx | replace g1 := g1.belowD hx | skip
         first | replace g2 := g2.below hx | replace g2 := g2.belowD hx | skip
         first | replace ka := ka.kept hx | replace ka := bk_keptD ka hx | skip
         first | replace kb := kb.kept hx | replace kb := bk_keptD kb hx | skip
         replace hw := hw'
         clear hw' hx)
      | (go_at_call 12; with_reducible refine (HS2.out _ _ _ _ _ ?_ ?_ ?_).mono ?_
         focus first | with_reducible exact hw | with_reducible exact below_drew hw
         focus first | with_reducible exact g1 | with_reducible exact g1.drew
         focus first | with_reducible exact g2 | with_reducible exact g2.drew
         rintro e w' ⟨rfl, hw', hx⟩
         first | replace fc := fc.below hx | replace fc := fc.belowD hx | skip
         first | replace f1 := f1.below hx | replace f1 := f1.belowD hx | skip
         first | replace f2 := f2.below hx | replace f2 := f2.belowD hx | skip
         first | replace f3 := f3.below hx | replace f3 := f3.belowD hx | skip
         first | replace f4 := f4.below hx | replace f4 := f4.belowD hx | skip
         first | replace gc := gc.below hx | replace gc := gc.belowD hx | skip
         first | replace g1 := g1.below hx | replace g1 := g1.belowD hx | skip
         first | replace g2 := g2.below hx | replace g2 := g2.belowD hx | skip
         first | replace ka := ka.kept hx | replace ka := bk_keptD ka hx | skip
         first | replace kb := kb.kept hx | replace kb := bk_keptD kb hx | skip
         replace hw := hw'
         clear hw' hx))
  all_goals
    go_wp2_with fail
    go_ret
    exact ⟨rfl, hw⟩

theorem macKeys_walk (w : World) (hT : Tab w) (v0 : Value) (s : List UInt8) (h0 : InBs w v0 s) (v1 : Value) (a : Int × Int) (h1 : InId w v1 a) (v2 : Value) (b : Int × Int) (h2 : InId w v2 b) (v3 : Value) (body : List UInt8) (h3 : InBs w v3 body) :
    Calls Tryd.prog 4 #[v0, v1, v2, v3] w (Tr w) := by
  obtain ⟨⟨A, n, c, rfl, hs⟩, hz0⟩ := h0
  rw [Sl.len (w := w) (A := A) (c := c) hs] at hz0
  obtain ⟨rfl, _, _⟩ := h1
  obtain ⟨rfl, _, _⟩ := h2
  obtain ⟨⟨B, m, d, rfl, hs2⟩, hz1⟩ := h3
  rw [Sl.len (w := w) (A := B) (c := d) hs2] at hz1
  rcases Nat.lt_or_ge 5000 (n + m) with h | h
  · exact macKeys_early w hT A B n c m d a b h hz0 hz1
  · exact macKeys_main w hT A B n c m d s body a b hs hs2 h
end Go.Proofs.YtfdmnnbcnaofgaaDoor
