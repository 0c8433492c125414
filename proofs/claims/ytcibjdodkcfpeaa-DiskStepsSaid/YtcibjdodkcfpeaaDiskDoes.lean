/-
  The laws' own 'does' and 'same': a call of a script on the document's disk; a disk and the document's one. Walks; no statement.
-/
import Derived.Test.YtcibjdodkcfpeaaRefDisk6
import Derived.Test.YtcibjdodkcfpeaaDiskScript
namespace Go.Proofs.Ytcibjdodkcfpeaa
open Go.RowKit
set_option linter.unusedVariables false

theorem five_chg {F : Nat → Prop} {X : World} {g : Nat} (hg : F g) (a b c d e : Value) : Chg F X (((((X.setCell ⟨g, 0, none⟩ a).setCell ⟨g, 1, none⟩ b).setCell ⟨g, 2, none⟩ c).setCell ⟨g, 3, none⟩ d).setCell ⟨g, 4, none⟩ e) :=
  (((((Chg.refl F X).set (.inl hg) 0 a).set (.inl hg) 1 b).set (.inl hg) 2 c).set (.inl hg) 3 d).set (.inl hg) 4 e
theorem DiskS.behind {A0 A1 : Option Addr} {r : PD × Int} {W w w' : World} {e : Ending} (hW : Below W.heap.size W w) (h : DiskS A0 A1 r w e w') : DiskS A0 A1 r W e w' := by
  obtain ⟨B0, n0, c0, B1, n1, c1, he, h0, h1, hb, f0, f1⟩ := h
  exact ⟨B0, n0, c0, B1, n1, c1, he, h0, h1, below_next hW hb hW.size, f0.imp id (fun f a e => ⟨Nat.le_trans hW.size (f a e).1, (f a e).2⟩), f1.imp id (fun f a e => ⟨Nat.le_trans hW.size (f a e).1, (f a e).2⟩)⟩
set_option maxHeartbeats 3200000 in
theorem does_any (P : PD) (A0 A1 : Option Addr) (n0 c0 n1 c1 : Nat) (o : Call) (B C : Option Addr) (p pc q qc : Nat) (w : World) (h0 : Sl w A0 n0 c0 P.d0) (h1 : Sl w A1 n1 c1 P.d1) (hR : RdRows w B p o.parts) (hI : Rd w C q (o.areas.map iv))
    (hp : -9223372036854775808 ≤ P.power ∧ P.power ≤ 9223372036854775807) (hA0 : ∀ a, A0 = some a → a.block < w.heap.size) (hA1 : ∀ a, A1 = some a → a.block < w.heap.size) (bp : p ≤ 1099511627776) (bi : q ≤ 1099511627776) (b0 : P.d0.length + o.parts.flatten.length ≤ 1099511627776) (b1 : P.d1.length + o.parts.flatten.length ≤ 1099511627776) :
    Calls Try.prog 16 #[.agg #[.int .i64 P.power, .slice A0 n0 c0, .slice A1 n1 c1, .int .i64 P.s0, .int .i64 P.s1], .agg #[.int .i64 o.what, .int .i64 o.area, .int .i64 o.n, .slice B p pc, .slice C q qc]] w (DiskS A0 A1 (P.act o) w) := by
  have hl0 := h0.len
  have hl1 := h1.len
  have hb := (((Below.refl w.heap.size w).alloc (Nat.le_refl _) (.cells #[.int .i64 P.power, .slice A0 n0 c0, .slice A1 n1 c1, .int .i64 P.s0, .int .i64 P.s1] 32)).alloc (by simp) (.cells #[.int .i64 o.what, .int .i64 o.area, .int .i64 o.n, .slice B p pc, .slice C q qc] 36)).alloc (by simp; omega) (.cells #[.int .i64 0, .slice none 0 0, .slice none 0 0, .int .i64 0, .int .i64 0] 32)
  obtain ⟨wb, hwb⟩ : ∃ wb, wb = (((w.alloc (.cells #[.int .i64 P.power, .slice A0 n0 c0, .slice A1 n1 c1, .int .i64 P.s0, .int .i64 P.s1] 32)).alloc (.cells #[.int .i64 o.what, .int .i64 o.area, .int .i64 o.n, .slice B p pc, .slice C q qc] 36)).alloc (.cells #[.int .i64 0, .slice none 0 0, .slice none 0 0, .int .i64 0, .int .i64 0] 32)) := ⟨_, rfl⟩
  rw [← hwb] at hb
  have kz : Bk wb (w.heap.size + 1 + 1) 32 [.int .i64 0, .slice none 0 0, .slice none 0 0, .int .i64 0, .int .i64 0] := by
    rw [hwb]
    have := Bk.new ((w.alloc (.cells #[.int .i64 P.power, .slice A0 n0 c0, .slice A1 n1 c1, .int .i64 P.s0, .int .i64 P.s1] 32)).alloc (.cells #[.int .i64 o.what, .int .i64 o.area, .int .i64 o.n, .slice B p pc, .slice C q qc] 36)) 32 [.int .i64 0, .slice none 0 0, .slice none 0 0, .int .i64 0, .int .i64 0]
    simpa using this
  have HB := Lib.hid hb
  have HKZ := Lib.hid kz
  have HSZ := Lib.hid (show w.heap.size + 1 + 1 < wb.heap.size from kz.lt)
  have HS0 := Lib.hid h0
  have HS1 := Lib.hid h1
  have HAP := Lib.hid ((refAppend P.power P.s0 P.s1 o.area A0 A1 n0 c0 n1 c1 P.d0 P.d1 B p pc o.parts wb (h0.below hb) (h1.below hb) (hR.below hb) (by omega) (by omega) bp hp))
  have HTR := Lib.hid ((refTrim P.power P.s0 P.s1 o.area o.n A0 A1 n0 c0 n1 c1 P.d0 P.d1 wb (h0.below hb) (h1.below hb) (by omega) (by omega) hp))
  have HSY := Lib.hid ((refSync P.power P.s0 P.s1 A0 A1 n0 c0 n1 c1 P.d0 P.d1 C q qc o.areas wb (h0.below hb) (h1.below hb) (hI.below hb) (by simp only [maxLen]; omega) hp))
  have HWB := Lib.hid hwb
  have HBKF := Lib.hid (show Bk (((w.alloc (.cells #[.int .i64 P.power, .slice A0 n0 c0, .slice A1 n1 c1, .int .i64 P.s0, .int .i64 P.s1] 32)).alloc (.cells #[.int .i64 o.what, .int .i64 o.area, .int .i64 o.n, .slice B p pc, .slice C q qc] 36)).alloc (.cells #[.int .i64 P.power, .slice A0 n0 c0, .slice A1 n1 c1, .int .i64 P.s0, .int .i64 P.s1] 32)) (w.heap.size + 1 + 1) 32 [.int .i64 P.power, .slice A0 n0 c0, .slice A1 n1 c1, .int .i64 P.s0, .int .i64 P.s1] by
    have := Bk.new ((w.alloc (.cells #[.int .i64 P.power, .slice A0 n0 c0, .slice A1 n1 c1, .int .i64 P.s0, .int .i64 P.s1] 32)).alloc (.cells #[.int .i64 o.what, .int .i64 o.area, .int .i64 o.n, .slice B p pc, .slice C q qc] 36)) 32 [.int .i64 P.power, .slice A0 n0 c0, .slice A1 n1 c1, .int .i64 P.s0, .int .i64 P.s1]
    simpa using this)
  have HBF := Lib.hid ((((Below.refl w.heap.size w).alloc (Nat.le_refl _) (.cells #[.int .i64 P.power, .slice A0 n0 c0, .slice A1 n1 c1, .int .i64 P.s0, .int .i64 P.s1] 32)).alloc (by simp) (.cells #[.int .i64 o.what, .int .i64 o.area, .int .i64 o.n, .slice B p pc, .slice C q qc] 36)).alloc (by simp; omega) (.cells #[.int .i64 P.power, .slice A0 n0 c0, .slice A1 n1 c1, .int .i64 P.s0, .int .i64 P.s1] 32))
  clear hb kz hwb hR hI b0 b1 bp bi hl0 hl1 h0 h1
  by_cases h1 : o.what = 1
  · have y1 : (o.what == 1) = true := by simp [h1]
    have HR := Lib.hid (show P.act o = P.append o.area o.parts by unfold PD.act; rw [if_pos h1])
    have HX := HAP
    rw [HR.out]
    obtain ⟨r, hr⟩ : ∃ r, r = P.append o.area o.parts := ⟨_, rfl⟩
    replace HX : Hid (Calls Try.prog 26 #[.agg #[.int .i64 P.power, .slice A0 n0 c0, .slice A1 n1 c1, .int .i64 P.s0, .int .i64 P.s1], .int .i64 o.area, .slice B p pc] wb (DiskS A0 A1 r wb)) := by rw [hr]; exact HX
    rw [← hr]
    clear h1 hr HTR HSY HAP
    go_enter Try.func16, Try.ntmps16
    go_wp2_with fail
    rw [← HWB.out]
    refine HX.out.mono ?_
    rintro e w3 ⟨D0, m0, e0, D1, m1, e1, rfl, hs0, hs1, hb3, f0, f1⟩
    have kz := HKZ.out.kept hb3
    obtain ⟨z0, z1, z2, z3, z4⟩ := kz.five
    have u0 := kz.frozen 0
    have u1 := kz.frozen 1
    have u2 := kz.frozen 2
    have u3 := kz.frozen 3
    have u4 := kz.frozen 4
    have HK3 := Lib.hid kz
    have HF0 := Lib.hid (show ∀ a, D0 = some a → a.block ≠ w.heap.size + 1 + 1 from fun a e => by
      rcases f0 with q | q
      · rw [q] at e; have := hA0 a e; omega
      · have := (q a e).1; have := HSZ.out; omega)
    have HF1 := Lib.hid (show ∀ a, D1 = some a → a.block ≠ w.heap.size + 1 + 1 from fun a e => by
      rcases f1 with q | q
      · rw [q] at e; have := hA1 a e; omega
      · have := (q a e).1; have := HSZ.out; omega)
    have HFF := Lib.hid (And.intro f0 f1)
    have HD0 := Lib.hid hs0
    have HD1 := Lib.hid hs1
    have HB3 := Lib.hid hb3
    clear hs0 hs1 hb3 f0 f1 kz
    go_wp2_with fail
    have hbF := five_below (g := w.heap.size + 1 + 1) (below_next HB.out HB3.out HB.out.size) (by omega) (.int .i64 r.1.power) (.slice D0 m0 e0) (.slice D1 m1 e1) (.int .i64 r.1.s0) (.int .i64 r.1.s1)
    have hc : Chg (fun i => i = w.heap.size + 1 + 1) w3 (((((w3.setCell ⟨w.heap.size + 1 + 1, 0, none⟩ (.int .i64 r.1.power)).setCell ⟨w.heap.size + 1 + 1, 1, none⟩ (.slice D0 m0 e0)).setCell ⟨w.heap.size + 1 + 1, 2, none⟩ (.slice D1 m1 e1)).setCell ⟨w.heap.size + 1 + 1, 3, none⟩ (.int .i64 r.1.s0)).setCell ⟨w.heap.size + 1 + 1, 4, none⟩ (.int .i64 r.1.s1)) :=
      five_chg (F := fun i => i = w.heap.size + 1 + 1) rfl _ _ _ _ _
    refine bodyPost_ret_by (results_row_tmp rfl _ _ (w.heap.size + 1 + 1) 32 _ _ rfl (five_set HK3.out _ _ _ _ _) Try.underlying32 rfl info_disk) rfl ?_
    exact ⟨D0, m0, e0, D1, m1, e1, rfl, hc.sl HD0.out HF0.out, hc.sl HD1.out HF1.out, hbF, HFF.out.1.imp id (fun f a e => ⟨Nat.le_trans HB.out.size (f a e).1, Nat.lt_of_lt_of_le (f a e).2 hc.size⟩), HFF.out.2.imp id (fun f a e => ⟨Nat.le_trans HB.out.size (f a e).1, Nat.lt_of_lt_of_le (f a e).2 hc.size⟩)⟩
  · have y1 : (o.what == 1) = false := by simp [h1]
    by_cases h2 : o.what = 2
    · have y2 : (o.what == 2) = true := by simp [h2]
      have HR := Lib.hid (show P.act o = P.trim o.area o.n by unfold PD.act; rw [if_neg h1, if_pos h2])
      have HX := HTR
      rw [HR.out]
      obtain ⟨r, hr⟩ : ∃ r, r = P.trim o.area o.n := ⟨_, rfl⟩
      replace HX : Hid (Calls Try.prog 27 #[.agg #[.int .i64 P.power, .slice A0 n0 c0, .slice A1 n1 c1, .int .i64 P.s0, .int .i64 P.s1], .int .i64 o.area, .int .i64 o.n] wb (DiskS A0 A1 r wb)) := by rw [hr]; exact HX
      rw [← hr]
      clear h1 h2 hr HTR HSY HAP
      go_enter Try.func16, Try.ntmps16
      go_wp2_with fail
      rw [← HWB.out]
      refine HX.out.mono ?_
      rintro e w3 ⟨D0, m0, e0, D1, m1, e1, rfl, hs0, hs1, hb3, f0, f1⟩
      have kz := HKZ.out.kept hb3
      obtain ⟨z0, z1, z2, z3, z4⟩ := kz.five
      have u0 := kz.frozen 0
      have u1 := kz.frozen 1
      have u2 := kz.frozen 2
      have u3 := kz.frozen 3
      have u4 := kz.frozen 4
      have HK3 := Lib.hid kz
      have HF0 := Lib.hid (show ∀ a, D0 = some a → a.block ≠ w.heap.size + 1 + 1 from fun a e => by
        rcases f0 with q | q
        · rw [q] at e; have := hA0 a e; omega
        · have := (q a e).1; have := HSZ.out; omega)
      have HF1 := Lib.hid (show ∀ a, D1 = some a → a.block ≠ w.heap.size + 1 + 1 from fun a e => by
        rcases f1 with q | q
        · rw [q] at e; have := hA1 a e; omega
        · have := (q a e).1; have := HSZ.out; omega)
      have HFF := Lib.hid (And.intro f0 f1)
      have HD0 := Lib.hid hs0
      have HD1 := Lib.hid hs1
      have HB3 := Lib.hid hb3
      clear hs0 hs1 hb3 f0 f1 kz
      go_wp2_with fail
      have hbF := five_below (g := w.heap.size + 1 + 1) (below_next HB.out HB3.out HB.out.size) (by omega) (.int .i64 r.1.power) (.slice D0 m0 e0) (.slice D1 m1 e1) (.int .i64 r.1.s0) (.int .i64 r.1.s1)
      have hc : Chg (fun i => i = w.heap.size + 1 + 1) w3 (((((w3.setCell ⟨w.heap.size + 1 + 1, 0, none⟩ (.int .i64 r.1.power)).setCell ⟨w.heap.size + 1 + 1, 1, none⟩ (.slice D0 m0 e0)).setCell ⟨w.heap.size + 1 + 1, 2, none⟩ (.slice D1 m1 e1)).setCell ⟨w.heap.size + 1 + 1, 3, none⟩ (.int .i64 r.1.s0)).setCell ⟨w.heap.size + 1 + 1, 4, none⟩ (.int .i64 r.1.s1)) :=
        five_chg (F := fun i => i = w.heap.size + 1 + 1) rfl _ _ _ _ _
      refine bodyPost_ret_by (results_row_tmp rfl _ _ (w.heap.size + 1 + 1) 32 _ _ rfl (five_set HK3.out _ _ _ _ _) Try.underlying32 rfl info_disk) rfl ?_
      exact ⟨D0, m0, e0, D1, m1, e1, rfl, hc.sl HD0.out HF0.out, hc.sl HD1.out HF1.out, hbF, HFF.out.1.imp id (fun f a e => ⟨Nat.le_trans HB.out.size (f a e).1, Nat.lt_of_lt_of_le (f a e).2 hc.size⟩), HFF.out.2.imp id (fun f a e => ⟨Nat.le_trans HB.out.size (f a e).1, Nat.lt_of_lt_of_le (f a e).2 hc.size⟩)⟩
    · have y2 : (o.what == 2) = false := by simp [h2]
      by_cases h3 : o.what = 3
      · have y3 : (o.what == 3) = true := by simp [h3]
        have HR := Lib.hid (show P.act o = P.sync o.areas by unfold PD.act; rw [if_neg h1, if_neg h2, if_pos h3])
        have HX := HSY
        rw [HR.out]
        obtain ⟨r, hr⟩ : ∃ r, r = P.sync o.areas := ⟨_, rfl⟩
        replace HX : Hid (Calls Try.prog 28 #[.agg #[.int .i64 P.power, .slice A0 n0 c0, .slice A1 n1 c1, .int .i64 P.s0, .int .i64 P.s1], .slice C q qc] wb (DiskS A0 A1 r wb)) := by rw [hr]; exact HX
        rw [← hr]
        clear h1 h2 h3 hr HTR HSY HAP
        go_enter Try.func16, Try.ntmps16
        go_wp2_with fail
        rw [← HWB.out]
        refine HX.out.mono ?_
        rintro e w3 ⟨D0, m0, e0, D1, m1, e1, rfl, hs0, hs1, hb3, f0, f1⟩
        have kz := HKZ.out.kept hb3
        obtain ⟨z0, z1, z2, z3, z4⟩ := kz.five
        have u0 := kz.frozen 0
        have u1 := kz.frozen 1
        have u2 := kz.frozen 2
        have u3 := kz.frozen 3
        have u4 := kz.frozen 4
        have HK3 := Lib.hid kz
        have HF0 := Lib.hid (show ∀ a, D0 = some a → a.block ≠ w.heap.size + 1 + 1 from fun a e => by
          rcases f0 with q | q
          · rw [q] at e; have := hA0 a e; omega
          · have := (q a e).1; have := HSZ.out; omega)
        have HF1 := Lib.hid (show ∀ a, D1 = some a → a.block ≠ w.heap.size + 1 + 1 from fun a e => by
          rcases f1 with q | q
          · rw [q] at e; have := hA1 a e; omega
          · have := (q a e).1; have := HSZ.out; omega)
        have HFF := Lib.hid (And.intro f0 f1)
        have HD0 := Lib.hid hs0
        have HD1 := Lib.hid hs1
        have HB3 := Lib.hid hb3
        clear hs0 hs1 hb3 f0 f1 kz
        go_wp2_with fail
        have hbF := five_below (g := w.heap.size + 1 + 1) (below_next HB.out HB3.out HB.out.size) (by omega) (.int .i64 r.1.power) (.slice D0 m0 e0) (.slice D1 m1 e1) (.int .i64 r.1.s0) (.int .i64 r.1.s1)
        have hc : Chg (fun i => i = w.heap.size + 1 + 1) w3 (((((w3.setCell ⟨w.heap.size + 1 + 1, 0, none⟩ (.int .i64 r.1.power)).setCell ⟨w.heap.size + 1 + 1, 1, none⟩ (.slice D0 m0 e0)).setCell ⟨w.heap.size + 1 + 1, 2, none⟩ (.slice D1 m1 e1)).setCell ⟨w.heap.size + 1 + 1, 3, none⟩ (.int .i64 r.1.s0)).setCell ⟨w.heap.size + 1 + 1, 4, none⟩ (.int .i64 r.1.s1)) :=
          five_chg (F := fun i => i = w.heap.size + 1 + 1) rfl _ _ _ _ _
        refine bodyPost_ret_by (results_row_tmp rfl _ _ (w.heap.size + 1 + 1) 32 _ _ rfl (five_set HK3.out _ _ _ _ _) Try.underlying32 rfl info_disk) rfl ?_
        exact ⟨D0, m0, e0, D1, m1, e1, rfl, hc.sl HD0.out HF0.out, hc.sl HD1.out HF1.out, hbF, HFF.out.1.imp id (fun f a e => ⟨Nat.le_trans HB.out.size (f a e).1, Nat.lt_of_lt_of_le (f a e).2 hc.size⟩), HFF.out.2.imp id (fun f a e => ⟨Nat.le_trans HB.out.size (f a e).1, Nat.lt_of_lt_of_le (f a e).2 hc.size⟩)⟩
      · have y3 : (o.what == 3) = false := by simp [h3]
        have HR := Lib.hid (show P.act o = (P, 0) by unfold PD.act; rw [if_neg h1, if_neg h2, if_neg h3])
        rw [HR.out]
        clear h1 h2 h3 HTR HSY HAP
        go_enter Try.func16, Try.ntmps16
        go_wp2_with fail
        refine bodyPost_ret_by (results_row_tmp rfl _ _ (w.heap.size + 1 + 1) 32 _ _ rfl HBKF.out Try.underlying32 rfl info_disk) rfl ?_
        exact ⟨A0, n0, c0, A1, n1, c1, rfl, HS0.out.below HBF.out, HS1.out.below HBF.out, HBF.out, .inl rfl, .inl rfl⟩
set_option maxHeartbeats 1600000 in
theorem same_any (g : Nat) (P : PD) (F : Nat → Prop) (A0 A1 : Option Addr) (n0 c0 n1 c1 : Nat) (w : World) (h : Dk w F g P) (h0 : Sl w A0 n0 c0 P.d0) (h1 : Sl w A1 n1 c1 P.d1) (b0 : P.d0.length ≤ 1099511627776) (b1 : P.d1.length ≤ 1099511627776) :
    Calls Try.prog 18 #[.pointer (some ⟨g, 0, none⟩), .agg #[.int .i64 P.power, .slice A0 n0 c0, .slice A1 n1 c1, .int .i64 P.s0, .int .i64 P.s1]] w (Tr w) := by
  have hb := (Below.refl w.heap.size w).alloc (Nat.le_refl _) (.cells #[.int .i64 P.power, .slice A0 n0 c0, .slice A1 n1 c1, .int .i64 P.s0, .int .i64 P.s1] 32)
  have HAT := Lib.hid (show Below w.heap.size w (w.alloc (.cells #[.int .i64 P.power, .slice A0 n0 c0, .slice A1 n1 c1, .int .i64 P.s0, .int .i64 P.s1] 32)) ∧ Bk (w.alloc (.cells #[.int .i64 P.power, .slice A0 n0 c0, .slice A1 n1 c1, .int .i64 P.s0, .int .i64 P.s1] 32)) w.heap.size 32 [.int .i64 P.power, .slice A0 n0 c0, .slice A1 n1 c1, .int .i64 P.s0, .int .i64 P.s1] from ⟨hb, Bk.new _ _ _⟩)
  have HH := Lib.hid h
  have HS0 := Lib.hid h0
  have HS1 := Lib.hid h1
  have HL := Lib.hid (And.intro b0 b1)
  clear h h0 h1 hb b0 b1
  go_enter Try.func18, Try.ntmps18
  go_wp2_with fail
  go_loopw [5] (fun i wr => ∃ a : Int, -1 ≤ a ∧ a ≤ 3 ∧ i = .int .i64 a ∧ Below w.heap.size w wr ∧ Bk wr w.heap.size 32 [.int .i64 P.power, .slice A0 n0 c0, .slice A1 n1 c1, .int .i64 P.s0, .int .i64 P.s1]) (fun i _ => (3 - intOf i).toNat)
  case atStart => exact ⟨-1, by omega, by omega, rfl, HAT.out⟩
  case round =>
    clear HAT
    obtain ⟨a, ha1, ha2, rfl, hbr, kb⟩ := hrel
    by_cases ha : a < 3
    · have HRD := Lib.hid (disk_read g a P F wr (HH.out.kept hbr) HL.out.1 HL.out.2)
      obtain ⟨q0, q1, q2, q3, q4⟩ := kb.five
      have HBR := Lib.hid hbr
      have HKB := Lib.hid kb
      have HA := Lib.hid (And.intro ha1 ha)
      have w1' : IntKind.i64.wrap (a + 1) = a + 1 := by simp only [IntKind.wrap, IntKind.bits, IntKind.signed]; simp; omega
      obtain ⟨rd, hrd⟩ : ∃ rd, rd = P.read a := ⟨_, rfl⟩
      have HRDE := Lib.hid hrd
      rw [← hrd] at HRD
      clear kb hbr hrd
      go_wp2_with fail
      refine HRD.out.mono ?_
      rintro e w3 ⟨A3, n3, c3, rfl, ho3, hb3⟩
      have hb := below_next HBR.out hb3 HBR.out.size
      have kb := HKB.out.kept hb3
      have HRR := Lib.hid (refRead P.power P.s0 P.s1 a A0 A1 n0 c0 n1 c1 P.d0 P.d1 w3 (HS0.out.below hb) (HS1.out.below hb) (by rw [← HS0.out.len]; exact HL.out.1) (by rw [← HS1.out.len]; exact HL.out.2))
      rw [show PD.read ⟨P.power, P.d0, P.d1, P.s0, P.s1⟩ a = rd from HRDE.out.symm] at HRR
      clear q0 q1 q2 q3 q4
      obtain ⟨q0, q1, q2, q3, q4⟩ := kb.five
      have HO3 := Lib.hid ho3
      have HB3 := Lib.hid hb
      have HK3 := Lib.hid kb
      clear ho3 hb3 hb kb HRD
      go_wp2_with fail
      refine HRR.out.mono ?_
      rintro e w4 ⟨A4, n4, c4, rfl, hs4, hb4⟩
      have ho3 := HO3.out.below hb4
      have HSB := Lib.hid (sameBytes_self A3 A4 n3 n4 c3 c4 w4 rd.1 ho3.rd hs4.rd (Nat.le_trans (own_cap ho3).1 (own_cap ho3).2))
      have HB4 := Lib.hid (below_next HB3.out hb4 HB3.out.size)
      have HK4 := Lib.hid (HK3.out.kept hb4)
      have hne : (rd.2 != rd.2) = false := by simp
      clear ho3 hs4 hb4 HRR q0 q1 q2 q3 q4
      go_wp2_with fail
      refine HSB.out.mono ?_
      rintro e w5 ⟨rfl, kq, rfl⟩
      go_wp2_with fail
      go_roundw
      case rel => exact ⟨a + 1, by have := HA.out; omega, by have := HA.out; omega, by go_num, below_drewN HB4.out kq, HK4.out.drewN kq⟩
      case measure => have := HA.out; simp [intOf]; omega
    · have y : ¬ a < 3 := ha
      have HBR := Lib.hid hbr
      clear kb hbr ha
      go_wp2_with fail
      go_ret
      exact ⟨rfl, HBR.out⟩
/-- the document's Crash, of a disk whose marks lie within -/
theorem refCrash_any (P : PD) (pw : Int) (A0 A1 : Option Addr) (n0 c0 n1 c1 : Nat) (C : Option Addr) (q qc : Nat) (ks : List Int) (w : World) (hf : P.Fine) (h0 : Sl w A0 n0 c0 P.d0) (h1 : Sl w A1 n1 c1 P.d1) (hC : Rd w C q (ks.map iv)) (hq : q ≤ maxLen)
    (hks : ∀ x ∈ ks, -9223372036854775808 ≤ x ∧ x ≤ 9223372036854775807) (b0 : P.d0.length ≤ 1099511627776) (b1 : P.d1.length ≤ 1099511627776) :
    Calls Try.prog 15 #[.agg #[.int .i64 P.power, .slice A0 n0 c0, .slice A1 n1 c1, .int .i64 P.s0, .int .i64 P.s1], .slice C q qc, .int .i64 pw] w (DiskN (P.crash ks pw) w) := by
  obtain ⟨p, l0, l1, s0, s1⟩ := P
  obtain ⟨f1, f2, f3, f4⟩ := hf
  dsimp only at *
  obtain ⟨a0, rfl⟩ : ∃ a : Nat, s0 = a := ⟨s0.toNat, by omega⟩
  obtain ⟨a1, rfl⟩ : ∃ a : Nat, s1 = a := ⟨s1.toNat, by omega⟩
  have e0 := h0.len
  have e1 := h1.len
  exact refCrash p pw a0 a1 A0 A1 n0 c0 n1 c1 l0 l1 C q qc ks w h0 h1 hC hq hks (by omega) (by omega) (by omega) (by omega)
end Go.Proofs.Ytcibjdodkcfpeaa
