import Derived.Test.YtfdmnnbcnaofgaaDoorMacLaw
import Derived.Test.YtfdmnnbcnaofgaaDoorRefOpen
namespace Go.Proofs.YtfdmnnbcnaofgaaDoor
open Go.RowKit
open Pk Sh
set_option linter.unusedVariables false

theorem sameLetter_both {w : World} {m N : Nat} {x : List UInt8} {L : List (List UInt8)} (hm : m ≤ maxLen) (hN : N ≤ maxLen) (f1 f2 r : Int) (A E A' E' : Option Addr) (c d c' d' : Nat) (X : World) (hw : Below w.heap.size w X) (h : Sl X A m c x) (hr : RdRows X E N L) (h' : Sl X A' m c' x) (hr' : RdRows X E' N L) :
    Calls Tryd.prog 21 #[.agg #[.int .i64 f1, .int .i64 f2, .int .i64 r, .slice A m c, .slice E N d], .agg #[.int .i64 f1, .int .i64 f2, .int .i64 r, .slice A' m c', .slice E' N d']] X (BoolS true w X) :=
  (sameLetter_self f1 f2 r A A' E E' m c m c' N d N d' x L X h.rd h'.rd hr hr' hm hN).mono fun _ _ q => tells_bool hw q

theorem macOpens_early (w : World) (hT : Tab w) (A B D : Option Addr) (n c m d p q : Nat) (me f : Int × Int) (r : Int) (body : List UInt8) (tags : List (List UInt8)) (hb : body.length = m) (ht : RdRows w D p tags) (hsz : ∀ l ∈ tags, l.length ≤ 140737488355328) (h : 1000 < n ∨ (5000 < body.length ∨ 5000 < total tags)) (hn : n ≤ maxLen) (hp : p ≤ maxLen) :
    Calls Tryd.prog 6 #[.slice A n c, .agg #[.int .i64 me.1, .int .i64 me.2], .agg #[.int .i64 f.1, .int .i64 f.2, .int .i64 r, .slice B m d, .slice D p q]] w (Tr w) := by
  unfold maxLen at hn
  obtain ⟨m1, m2⟩ := me
  obtain ⟨f1, f2⟩ := f
  have b0 := ((Below.refl w.heap.size w).alloc (Nat.le_refl _) (.cells #[.int .i64 m1, .int .i64 m2] 28)).alloc (by simp) (.cells #[.int .i64 f1, .int .i64 f2, .int .i64 r, .slice B m d, .slice D p q] 37)
  have HB0 := Lib.hid b0
  have HA := Lib.hid (alive_ok _ (hT.kept b0))
  have hkl := Bk.new (w.alloc (.cells #[.int .i64 m1, .int .i64 m2] 28)) 37 [.int .i64 f1, .int .i64 f2, .int .i64 r, .slice B m d, .slice D p q]
  rw [show (w.alloc (.cells #[.int .i64 m1, .int .i64 m2] 28)).heap.size = w.heap.size + 1 by simp] at hkl
  have HKL := Lib.hid hkl
  have HG := Lib.hid (fun X (hw : Below w.heap.size w X) => great_any f1 f2 r B D m d p q body tags X hb (ht.below hw) hp hsz)
  clear hT b0 hkl ht hsz
  by_cases h1 : (1000 : Int) < (n : Int)
  · clear h
    go_enter Tryd.func6, Tryd.ntmps6
    go_wp2_with fail
    refine HA.out.mono ?_
    rintro e w1 ⟨rfl, hb1⟩
    have HB1 := Lib.hid (below_next HB0.out hb1 HB0.out.size)
    clear hb1
    go_wp2_with fail
    go_ret
    exact ⟨rfl, HB1.out⟩
  · have hd : decide (5000 < body.length ∨ 5000 < total tags) = true := decide_eq_true (by rcases h with h | h; (omega); (exact h))
    have HD := Lib.hid hd
    clear h hd
    go_enter Tryd.func6, Tryd.ntmps6
    go_wp2_with fail
    refine HA.out.mono ?_
    rintro e w1 ⟨rfl, hb1⟩
    have HB1 := Lib.hid (below_next HB0.out hb1 HB0.out.size)
    obtain ⟨c0, c1, c2, c3, c4⟩ := (HKL.out.kept hb1).five
    clear hb1
    go_wp2_with fail
    refine (HG.out w1 HB1.out).mono ?_
    rintro e w2 ⟨rfl, hb2⟩
    rw [HD.out]
    have HB2 := Lib.hid (below_next HB1.out hb2 HB1.out.size)
    clear hb2
    go_wp2_with fail
    go_ret
    exact ⟨rfl, HB2.out⟩

set_option maxHeartbeats 4000000 in
set_option maxRecDepth 100000 in
theorem macOpens_main (w : World) (hT : Tab w) (A B D : Option Addr) (n c m d p q : Nat) (s body : List UInt8) (me f : Int × Int) (r : Int) (tags : List (List UInt8)) (h : Sl w A n c s) (hb : Sl w B m d body) (ht : RdRows w D p tags) (hsz : ∀ l ∈ tags, l.length ≤ 140737488355328) (hn : n ≤ 1000) (hm : body.length ≤ 5000) (htt : total tags ≤ 5000) (hp : p ≤ maxLen) :
    Calls Tryd.prog 6 #[.slice A n c, .agg #[.int .i64 me.1, .int .i64 me.2], .agg #[.int .i64 f.1, .int .i64 f.2, .int .i64 r, .slice B m d, .slice D p q]] w (Tr w) := by
  obtain ⟨m1, m2⟩ := me
  obtain ⟨f1, f2⟩ := f
  have hml : body.length = m := hb.len
  have b0 := ((Below.refl w.heap.size w).alloc (Nat.le_refl _) (.cells #[.int .i64 m1, .int .i64 m2] 28)).alloc (by simp) (.cells #[.int .i64 f1, .int .i64 f2, .int .i64 r, .slice B m d, .slice D p q] 37)
  have HB0 := Lib.hid b0
  have HA := Lib.hid (alive_ok _ (hT.kept b0))
  have HKM := Lib.hid ((Bk.new w 28 [.int .i64 m1, .int .i64 m2]).alloc (.cells #[.int .i64 f1, .int .i64 f2, .int .i64 r, .slice B m d, .slice D p q] 37))
  have hkl := Bk.new (w.alloc (.cells #[.int .i64 m1, .int .i64 m2] 28)) 37 [.int .i64 f1, .int .i64 f2, .int .i64 r, .slice B m d, .slice D p q]
  rw [show (w.alloc (.cells #[.int .i64 m1, .int .i64 m2] 28)).heap.size = w.heap.size + 1 by simp] at hkl
  have HKL := Lib.hid hkl
  have h1 : ¬ (1000 : Int) < (n : Int) := by omega
  have HG := Lib.hid (fun X (hw : Below w.heap.size w X) => great_any f1 f2 r B D m d p q body tags X hb.len (ht.below hw) hp hsz)
  have HD := Lib.hid (show decide (5000 < body.length ∨ 5000 < total tags) = false from decide_eq_false (by omega))
  have HCL := Lib.hid (fun X (hw : Below w.heap.size w X) => copyLetter_any f1 f2 r B D m d p q body tags X (hb.below hw).rd (ht.below hw) (by omega) (by omega))
  have HPL := Lib.hid ht.1
  have HML := Lib.hid hml
  have HC := Lib.hid (show ∀ X, Below w.heap.size w X → Calls Tryd.prog 14 #[.slice A n c] X (fun e w' => ∃ A' c', e = .returned (.slice A' n c') ∧ Sl w' A' n c' s ∧ Below w.heap.size w w' ∧ Below X.heap.size X w') from fun X hw => copy_new h (by omega) X hw)
  have HO := Lib.hid (show ∀ A' c' A2 c2 E2 d2 X, Below w.heap.size w X → Sl X A' n c' s → Sl X A2 m c2 body → RdRows X E2 p tags → Calls Tryd.prog 27 #[.slice A' n c', .agg #[.int .i64 m1, .int .i64 m2], .agg #[.int .i64 f1, .int .i64 f2, .int .i64 r, .slice A2 m c2, .slice E2 p d2]] X (fun e w' => e = .returned (.bool (openN s (m1, m2) (f1, f2) r body tags)) ∧ Below w.heap.size w w' ∧ Below X.heap.size X w') from
    fun A' c' A2 c2 E2 d2 X hw g1 g2 g3 => (open_any A' A2 E2 n c' m c2 p d2 s body (m1, m2) (f1, f2) r tags X g1 g2 g3 (hT.kept hw) (by omega) (by omega) hp).mono fun _ _ k => tells_bool hw k)
  have HRO := Lib.hid (show ∀ X, Below w.heap.size w X → Calls Tryd.prog 28 #[.slice A n c, .agg #[.int .i64 m1, .int .i64 m2], .agg #[.int .i64 f1, .int .i64 f2, .int .i64 r, .slice B m d, .slice D p q]] X (fun e w' => e = .returned (.bool (openN s (m1, m2) (f1, f2) r body tags)) ∧ Below w.heap.size w w' ∧ Below X.heap.size X w') from
    fun X hw => (refOpen_any A B D n c m d p q s body (m1, m2) (f1, f2) r tags X (h.below hw) (hb.below hw) (ht.below hw) (by omega) (by omega) hp).mono fun _ _ k => tells_bool hw k)
  have HSL := Lib.hid (show ∀ A2 E2 c2 d2 X, Below w.heap.size w X → Sl X A2 m c2 body → RdRows X E2 p tags → Calls Tryd.prog 21 #[.agg #[.int .i64 f1, .int .i64 f2, .int .i64 r, .slice A2 m c2, .slice E2 p d2], .agg #[.int .i64 f1, .int .i64 f2, .int .i64 r, .slice B m d, .slice D p q]] X (fun e w' => e = .returned (.bool true) ∧ Below w.heap.size w w' ∧ Below X.heap.size X w') from
    fun A2 E2 c2 d2 X hw g1 g2 => sameLetter_both (by simp only [maxLen]; omega) hp f1 f2 r A2 E2 B D c2 d2 d q X hw g1 g2 (hb.below hw) (ht.below hw))
  clear hT h hb ht hsz b0 hkl hml
  go_enter Tryd.func6, Tryd.ntmps6
  go_wp2_with fail
  refine HA.out.mono ?_
  rintro e w1 ⟨rfl, hb1⟩
  have hw1 : Below w.heap.size w w1 := below_next HB0.out hb1 HB0.out.size
  have HKM1 := Lib.hid (HKM.out.kept hb1)
  have HKL1 := Lib.hid (HKL.out.kept hb1)
  obtain ⟨c0, c1, c2, c3, c4⟩ := HKL1.out.five
  clear hb1
  go_wp2_with fail
  refine (HG.out w1 hw1).mono ?_
  rintro e w2 ⟨rfl, hb2⟩
  rw [HD.out]
  have hw2 := below_next hw1 hb2 hw1.size
  have HKM2 := Lib.hid (HKM1.out.kept hb2)
  have HKL2 := Lib.hid (HKL1.out.kept hb2)
  clear c0 c1 c2 c3 c4
  obtain ⟨c0, c1, c2, c3, c4⟩ := HKL2.out.five
  clear hb2 hw1
  go_wp2_with fail
  refine (HCL.out w2 hw2).mono ?_
  rintro e w3 ⟨A2, n2, c2', E2, p2, d2, rfl, ho2, hr2, hb3⟩
  have hn2 : n2 = m := by rw [← ho2.len]; exact HML.out
  subst hn2
  have hp2 : p2 = p := by rw [← hr2.1]; exact HPL.out
  subst hp2
  have hw3 := below_next hw2 hb3 hw2.size
  have HKM3 := Lib.hid (HKM2.out.kept hb3)
  have HKL3 := Lib.hid (HKL2.out.kept hb3)
  clear c0 c1 c2 c3 c4 hw2
  have HNW := Lib.hid (Bk.new w3 37 [.int .i64 f1, .int .i64 f2, .int .i64 r, .slice A2 n2 c2', .slice E2 p2 d2])
  have hw : Below w.heap.size w (w3.alloc (.cells #[.int .i64 f1, .int .i64 f2, .int .i64 r, .slice A2 n2 c2', .slice E2 p2 d2] 37)) := hw3.alloc hw3.size _
  have fo : Sl (w3.alloc (.cells #[.int .i64 f1, .int .i64 f2, .int .i64 r, .slice A2 n2 c2', .slice E2 p2 d2] 37)) A2 n2 c2' body := (Sl.own ho2).alloc _
  have fr : RdRows (w3.alloc (.cells #[.int .i64 f1, .int .i64 f2, .int .i64 r, .slice A2 n2 c2', .slice E2 p2 d2] 37)) E2 p2 tags := hr2.rd.below ((Below.refl _ _).alloc (Nat.le_refl _) _)
  have km := HKM3.out.alloc (.cells #[.int .i64 f1, .int .i64 f2, .int .i64 r, .slice A2 n2 c2', .slice E2 p2 d2] 37)
  have kl := HKL3.out.alloc (.cells #[.int .i64 f1, .int .i64 f2, .int .i64 r, .slice A2 n2 c2', .slice E2 p2 d2] 37)
  have ko := HNW.out
  obtain ⟨cm0, cm1⟩ := km.two
  obtain ⟨cl0, cl1, cl2, cl3, cl4⟩ := kl.five
  obtain ⟨co0, co1, co2, co3, co4⟩ := ko.five
  clear hb3 ho2 hr2 hw3
  go_wp2_with fail
  go_region_held3 (fun w' => w'.cell? ⟨w.heap.size, 0, none⟩ = some (.int .i64 m1) ∧ w'.cell? ⟨w.heap.size, 1, none⟩ = some (.int .i64 m2) ∧
      w'.cell? ⟨w.heap.size + 1, 0, none⟩ = some (.int .i64 f1) ∧ w'.cell? ⟨w.heap.size + 1, 1, none⟩ = some (.int .i64 f2) ∧ w'.cell? ⟨w.heap.size + 1, 2, none⟩ = some (.int .i64 r) ∧ w'.cell? ⟨w.heap.size + 1, 3, none⟩ = some (.slice B n2 d) ∧ w'.cell? ⟨w.heap.size + 1, 4, none⟩ = some (.slice D p2 q) ∧
      w'.cell? ⟨w3.heap.size, 0, none⟩ = some (.int .i64 f1) ∧ w'.cell? ⟨w3.heap.size, 1, none⟩ = some (.int .i64 f2) ∧ w'.cell? ⟨w3.heap.size, 2, none⟩ = some (.int .i64 r) ∧ w'.cell? ⟨w3.heap.size, 3, none⟩ = some (.slice A2 n2 c2') ∧ w'.cell? ⟨w3.heap.size, 4, none⟩ = some (.slice E2 p2 d2))
    (first | exact ⟨km.two.1, km.two.2, kl.five.1, kl.five.2.1, kl.five.2.2.1, kl.five.2.2.2.1, kl.five.2.2.2.2, ko.five.1, ko.five.2.1, ko.five.2.2.1, ko.five.2.2.2.1, ko.five.2.2.2.2⟩ | go_keep)
    (first
      | (go_at_call 14; with_reducible refine (HC.out _ ?_).mono ?_
         focus first | with_reducible exact hw | with_reducible exact below_drew hw
         rintro e w' ⟨A4, c4, rfl, fc, hw', hx⟩
         first | replace fc := fc.below hx | replace fc := fc.belowD hx | skip
         first | replace fo := fo.below hx | replace fo := fo.belowD hx | skip
         first | replace fr := fr.below hx | replace fr := rows_belowD fr hx | skip
         first | replace km := km.kept hx | replace km := bk_keptD km hx | skip
         first | replace kl := kl.kept hx | replace kl := bk_keptD kl hx | skip
         first | replace ko := ko.kept hx | replace ko := bk_keptD ko hx | skip
         replace hw := hw'
         clear hw' hx)
      | (go_at_call 27; with_reducible refine (HO.out _ _ _ _ _ _ _ ?_ ?_ ?_ ?_).mono ?_
         focus first | with_reducible exact hw | with_reducible exact below_drew hw
         focus first | with_reducible exact fc | with_reducible exact fc.drew
         focus first | with_reducible exact fo | with_reducible exact fo.drew
         focus first | with_reducible exact fr | with_reducible exact rows_drew fr
         rintro e w' ⟨rfl, hw', hx⟩
         first | replace fc := fc.below hx | replace fc := fc.belowD hx | skip
         first | replace fo := fo.below hx | replace fo := fo.belowD hx | skip
         first | replace fr := fr.below hx | replace fr := rows_belowD fr hx | skip
         first | replace km := km.kept hx | replace km := bk_keptD km hx | skip
         first | replace kl := kl.kept hx | replace kl := bk_keptD kl hx | skip
         first | replace ko := ko.kept hx | replace ko := bk_keptD ko hx | skip
         replace hw := hw'
         clear hw' hx)
      | (go_at_call 28; with_reducible refine (HRO.out _ ?_).mono ?_
         focus first | with_reducible exact hw | with_reducible exact below_drew hw
         rintro e w' ⟨rfl, hw', hx⟩
         first | replace fc := fc.below hx | replace fc := fc.belowD hx | skip
         first | replace fo := fo.below hx | replace fo := fo.belowD hx | skip
         first | replace fr := fr.below hx | replace fr := rows_belowD fr hx | skip
         first | replace km := km.kept hx | replace km := bk_keptD km hx | skip
         first | replace kl := kl.kept hx | replace kl := bk_keptD kl hx | skip
         first | replace ko := ko.kept hx | replace ko := bk_keptD ko hx | skip
         replace hw := hw'
         clear hw' hx)
      | (go_at_call 21; with_reducible refine (HSL.out _ _ _ _ _ ?_ ?_ ?_).mono ?_
         focus first | with_reducible exact hw | with_reducible exact below_drew hw
         focus first | with_reducible exact fo | with_reducible exact fo.drew
         focus first | with_reducible exact fr | with_reducible exact rows_drew fr
         rintro e w' ⟨rfl, hw', hx⟩
         first | replace fc := fc.below hx | replace fc := fc.belowD hx | skip
         first | replace fo := fo.below hx | replace fo := fo.belowD hx | skip
         first | replace fr := fr.below hx | replace fr := rows_belowD fr hx | skip
         first | replace km := km.kept hx | replace km := bk_keptD km hx | skip
         first | replace kl := kl.kept hx | replace kl := bk_keptD kl hx | skip
         first | replace ko := ko.kept hx | replace ko := bk_keptD ko hx | skip
         replace hw := hw'
         clear hw' hx))
  all_goals
    go_wp2_with fail
    go_ret
    exact ⟨rfl, hw⟩

theorem macOpens_walk (w : World) (hT : Tab w) (v0 : Value) (s : List UInt8) (h0 : InB w v0 s) (v1 : Value) (me : Int × Int) (h1 : InId w v1 me) (v2 : Value) (x : (Int × Int) × Int × List UInt8 × List (List UInt8)) (h2 : InL w v2 x) :
    Calls Tryd.prog 6 #[v0, v1, v2] w (Tr w) := by
  obtain ⟨A, n, c, rfl, hs⟩ := h0
  obtain ⟨rfl, _, _⟩ := h1
  obtain ⟨f, r, body, tags⟩ := x
  obtain ⟨B, m, d, D, p, q, rfl, _, _, _, hbo, hta⟩ := h2
  have hb : Sl w B m d body := Sl.of_in hbo
  obtain ⟨D', p', q', e, hpq, hqm, hrd, _, hsz⟩ := hta
  injection e with e1 e2 e3
  subst e1 e2 e3
  by_cases h : 1000 < n ∨ (5000 < body.length ∨ 5000 < total tags)
  · exact macOpens_early w hT A B D n c m d p q me f r body tags hb.len hrd hsz h (Nat.le_trans hs.1 hs.2.1) (Nat.le_trans hpq hqm)
  · exact macOpens_main w hT A B D n c m d p q s body me f r tags hs hb hrd hsz (by omega) (by omega) (by omega) (Nat.le_trans hpq hqm)
end Go.Proofs.YtfdmnnbcnaofgaaDoor
