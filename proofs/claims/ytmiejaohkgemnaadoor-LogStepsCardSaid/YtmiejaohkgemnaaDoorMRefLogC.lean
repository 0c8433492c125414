import Derived.Test.YtmiejaohkgemnaaDoorMRefLogA
import Derived.Test.YtmiejaohkgemnaaDoorMRefDisk
import Derived.Test.YtmiejaohkgemnaaDoorLogKeep
import Derived.Test.YtmiejaohkgemnaaDoorMDisks
import Derived.Deep.CutRange
import Derived.Deep.RegionWith
import Derived.Test.YtmiejaohkgemnaaDoorRefLog5

/-
  The reference's log: laid, an area of a disk that is laid anew. A walk; no statement.
-/
namespace Go.Proofs.YtmiejaohkgemnaaDoor
open Go.RowKit
open Pk Sh
set_option linter.unusedVariables false
set_option maxRecDepth 100000

namespace PD
/-- the power is a number of the machine -/
def Pw (P : PD) : Prop := -9223372036854775808 ≤ P.power ∧ P.power ≤ 9223372036854775807
theorem Pw.drawn {p : Int} (h : -9223372036854775808 ≤ p ∧ p ≤ 9223372036854775807) : -9223372036854775808 ≤ drawn p ∧ drawn p ≤ 9223372036854775807 := by
  unfold Proofs.YtmiejaohkgemnaaDoor.drawn
  split <;> omega
theorem Pw.append {P : PD} (h : P.Pw) (a : Int) (parts) : (P.append a parts).1.Pw := by
  unfold PD.append
  split
  · split
    · exact h
    · unfold setData; split <;> exact Pw.drawn h
  · exact h
theorem Pw.trim {P : PD} (h : P.Pw) (a n : Int) : (P.trim a n).1.Pw := by
  unfold PD.trim
  split
  · split
    · exact h
    · unfold setSafe setData; (split <;> split <;> exact Pw.drawn h)
  · exact h
theorem Pw.sync {P : PD} (h : P.Pw) (l : List Int) : (P.sync l).1.Pw := by
  cases hl : l.all known
  · unfold PD.sync; rw [hl]; exact h
  · by_cases hp : P.power = 0
    · unfold PD.sync; rw [hl, if_pos rfl, if_pos hp]; exact h
    · rw [sync_eq P l hl hp]; exact Pw.drawn h
end PD
/-- how the call's own disk lies in its box -/
def Ld (w X : World) (A0 A1 : Option Addr) (P : PD) (D0 : Option Addr) (m0 e0 : Nat) (D1 : Option Addr) (m1 e1 : Nat) : Prop :=
  Bk X w.heap.size 36 [.int .i64 P.power, .slice D0 m0 e0, .slice D1 m1 e1, .int .i64 P.s0, .int .i64 P.s1] ∧ Bk X (w.heap.size + 1) 36 [.int .i64 0, .slice none 0 0, .slice none 0 0, .int .i64 0, .int .i64 0] ∧
    Sl X D0 m0 e0 P.d0 ∧ Sl X D1 m1 e1 P.d1 ∧ Below w.heap.size w X ∧ (D0 = A0 ∨ ∀ a, D0 = some a → w.heap.size + 2 ≤ a.block ∧ a.block < X.heap.size) ∧ (D1 = A1 ∨ ∀ a, D1 = some a → w.heap.size + 2 ≤ a.block ∧ a.block < X.heap.size)
section
variable {w X Y : World} {A0 A1 D0 D1 E0 E1 : Option Addr} {P Q : PD} {m0 e0 m1 e1 n0 c0 n1 c1 : Nat}
theorem Ld.size (L : Ld w X A0 A1 P D0 m0 e0 D1 m1 e1) : w.heap.size + 2 ≤ X.heap.size := by
  have := L.2.1.lt
  omega
theorem Ld.step (L : Ld w X A0 A1 P D0 m0 e0 D1 m1 e1) (hA0 : ∀ a, A0 = some a → a.block < w.heap.size) (hA1 : ∀ a, A1 = some a → a.block < w.heap.size) (hb : Below X.heap.size X Y) (s0 : Sl Y E0 n0 c0 Q.d0) (s1 : Sl Y E1 n1 c1 Q.d1)
    (f0 : E0 = D0 ∨ ∀ a, E0 = some a → X.heap.size ≤ a.block ∧ a.block < Y.heap.size) (f1 : E1 = D1 ∨ ∀ a, E1 = some a → X.heap.size ≤ a.block ∧ a.block < Y.heap.size) :
    Ld w (((((Y.setCell ⟨w.heap.size, 0, none⟩ (.int .i64 Q.power)).setCell ⟨w.heap.size, 1, none⟩ (.slice E0 n0 c0)).setCell ⟨w.heap.size, 2, none⟩ (.slice E1 n1 c1)).setCell ⟨w.heap.size, 3, none⟩ (.int .i64 Q.s0)).setCell ⟨w.heap.size, 4, none⟩ (.int .i64 Q.s1)) A0 A1 Q E0 n0 c0 E1 n1 c1 := by
  have hX := L.size
  obtain ⟨hk, hz, -, -, hw, g0, g1⟩ := L
  have hc : Chg (fun i => i = w.heap.size) Y (((((Y.setCell ⟨w.heap.size, 0, none⟩ (.int .i64 Q.power)).setCell ⟨w.heap.size, 1, none⟩ (.slice E0 n0 c0)).setCell ⟨w.heap.size, 2, none⟩ (.slice E1 n1 c1)).setCell ⟨w.heap.size, 3, none⟩ (.int .i64 Q.s0)).setCell ⟨w.heap.size, 4, none⟩ (.int .i64 Q.s1)) := five_chg (F := fun i => i = w.heap.size) rfl _ _ _ _ _
  have k0 : E0 = A0 ∨ ∀ a, E0 = some a → w.heap.size + 2 ≤ a.block ∧ a.block < Y.heap.size := by
    rcases f0 with rfl | f0
    · exact g0.imp id (fun f a e => ⟨(f a e).1, Nat.lt_of_lt_of_le (f a e).2 hb.size⟩)
    · exact .inr fun a e => ⟨Nat.le_trans hX (f0 a e).1, (f0 a e).2⟩
  have k1 : E1 = A1 ∨ ∀ a, E1 = some a → w.heap.size + 2 ≤ a.block ∧ a.block < Y.heap.size := by
    rcases f1 with rfl | f1
    · exact g1.imp id (fun f a e => ⟨(f a e).1, Nat.lt_of_lt_of_le (f a e).2 hb.size⟩)
    · exact .inr fun a e => ⟨Nat.le_trans hX (f1 a e).1, (f1 a e).2⟩
  refine ⟨five_set (hk.kept hb) _ _ _ _ _, (hz.kept hb).five_far (by omega) _ _ _ _ _, hc.sl s0 ?_, hc.sl s1 ?_, five_below (below_next hw hb hw.size) (Nat.le_refl _) _ _ _ _ _, k0.imp id (fun f a e => ⟨(f a e).1, Nat.lt_of_lt_of_le (f a e).2 hc.size⟩), k1.imp id (fun f a e => ⟨(f a e).1, Nat.lt_of_lt_of_le (f a e).2 hc.size⟩)⟩
  · intro a e
    rcases k0 with k | k
    · rw [k] at e; have := hA0 a e; omega
    · have := (k a e).1; omega
  · intro a e
    rcases k1 with k | k
    · rw [k] at e; have := hA1 a e; omega
    · have := (k a e).1; omega
theorem Ld.out (L : Ld w X A0 A1 P D0 m0 e0 D1 m1 e1) (hA0 : ∀ a, A0 = some a → a.block < w.heap.size) (hA1 : ∀ a, A1 = some a → a.block < w.heap.size) (er : Int) :
    DiskS A0 A1 (P, er) w (.returned (.tuple #[.agg #[.int .i64 P.power, .slice D0 m0 e0, .slice D1 m1 e1, .int .i64 P.s0, .int .i64 P.s1], .int .i64 er])) (((((X.setCell ⟨w.heap.size + 1, 0, none⟩ (.int .i64 P.power)).setCell ⟨w.heap.size + 1, 1, none⟩ (.slice D0 m0 e0)).setCell ⟨w.heap.size + 1, 2, none⟩ (.slice D1 m1 e1)).setCell ⟨w.heap.size + 1, 3, none⟩ (.int .i64 P.s0)).setCell ⟨w.heap.size + 1, 4, none⟩ (.int .i64 P.s1)) := by
  obtain ⟨hk, hz, s0, s1, hw, g0, g1⟩ := L
  have hc : Chg (fun i => i = w.heap.size + 1) X (((((X.setCell ⟨w.heap.size + 1, 0, none⟩ (.int .i64 P.power)).setCell ⟨w.heap.size + 1, 1, none⟩ (.slice D0 m0 e0)).setCell ⟨w.heap.size + 1, 2, none⟩ (.slice D1 m1 e1)).setCell ⟨w.heap.size + 1, 3, none⟩ (.int .i64 P.s0)).setCell ⟨w.heap.size + 1, 4, none⟩ (.int .i64 P.s1)) := five_chg (F := fun i => i = w.heap.size + 1) rfl _ _ _ _ _
  refine ⟨D0, m0, e0, D1, m1, e1, rfl, hc.sl s0 ?_, hc.sl s1 ?_, five_below hw (by omega) _ _ _ _ _, g0.imp id (fun f a e => ⟨Nat.le_trans (by omega) (f a e).1, Nat.lt_of_lt_of_le (f a e).2 hc.size⟩), g1.imp id (fun f a e => ⟨Nat.le_trans (by omega) (f a e).1, Nat.lt_of_lt_of_le (f a e).2 hc.size⟩)⟩
  · intro a e
    rcases g0 with k | k
    · rw [k] at e; have := hA0 a e; omega
    · have := (k a e).1; omega
  · intro a e
    rcases g1 with k | k
    · rw [k] at e; have := hA1 a e; omega
    · have := (k a e).1; omega
end
/-- the second of laid's calls, done -/
def LdMid (w : World) (A0 A1 : Option Addr) (r : PD × Int) (e : Value) (X : World) : Prop := e = .int .i64 r.2 ∧ ∃ D0 m0 e0 D1 m1 e1, Ld w X A0 A1 r.1 D0 m0 e0 D1 m1 e1
set_option maxHeartbeats 3200000 in
theorem refLaid_1 (P : PD) (a : Int) (g : Nat) (A0 A1 : Option Addr) (n0 c0 n1 c1 : Nat) (B : Option Addr) (q qc : Nat) (ls : List (List UInt8)) (w : World) (h0 : Sl w A0 n0 c0 P.d0) (h1 : Sl w A1 n1 c1 P.d1) (hR : RdRows w B q ls) (hp : P.Pw)
    (hA0 : ∀ a, A0 = some a → a.block < w.heap.size) (hA1 : ∀ a, A1 = some a → a.block < w.heap.size) (hq : q ≤ 4294967296) (hg : g < 4611686018427387904) (ht : ∀ l ∈ ls, l.length ≤ 65536)
    (b0 : P.d0.length + (Lg.whole g ls.length ls).length ≤ 1099511627776) (b1 : P.d1.length + (Lg.whole g ls.length ls).length ≤ 1099511627776) (r1 r2 : PD × Int) (hr1 : r1 = P.trim a 0) (hr2 : r2 = r1.1.append a [Lg.whole g ls.length ls]) (hr : r1.2 ≠ 0) :
    Calls Tryd.prog 38 #[.agg #[.int .i64 P.power, .slice A0 n0 c0, .slice A1 n1 c1, .int .i64 P.s0, .int .i64 P.s1], .int .i64 a, .int .i64 g, .slice B q qc] w (DiskS A0 A1 r1 w) := by
  have HNE := Lib.hid hr
  have y1 : (r1.2 == 0) = false := by simp [hr]
  clear hr
  have hl0 := h0.len
  have hl1 := h1.len
  have hq2 := hR.1
  have hpw1 : r1.1.Pw := by rw [hr1]; exact hp.trim _ _
  have hpw2 : r2.1.Pw := by rw [hr2]; exact hpw1.append _ _
  have ht1 := PD.len_trim P a 0
  have hw := (((Below.refl w.heap.size w).alloc (Nat.le_refl _) (.cells #[.int .i64 P.power, .slice A0 n0 c0, .slice A1 n1 c1, .int .i64 P.s0, .int .i64 P.s1] 36)).alloc (by simp) (.cells #[.int .i64 0, .slice none 0 0, .slice none 0 0, .int .i64 0, .int .i64 0] 36))
  obtain ⟨wb, hwb⟩ : ∃ wb, wb = ((w.alloc (.cells #[.int .i64 P.power, .slice A0 n0 c0, .slice A1 n1 c1, .int .i64 P.s0, .int .i64 P.s1] 36)).alloc (.cells #[.int .i64 0, .slice none 0 0, .slice none 0 0, .int .i64 0, .int .i64 0] 36)) := ⟨_, rfl⟩
  have LD := Lib.hid (show Ld w wb A0 A1 P A0 n0 c0 A1 n1 c1 from ⟨by rw [hwb]; exact (Bk.new w 36 [.int .i64 P.power, .slice A0 n0 c0, .slice A1 n1 c1, .int .i64 P.s0, .int .i64 P.s1]).alloc _, by rw [hwb]; exact bk_new2 w _ [.int .i64 0, .slice none 0 0, .slice none 0 0, .int .i64 0, .int .i64 0] _, by rw [hwb]; exact h0.below hw, by rw [hwb]; exact h1.below hw, by rw [hwb]; exact hw, .inl rfl, .inl rfl⟩)
  have HT := Lib.hid (show Calls Tryd.prog 39 #[.agg #[.int .i64 P.power, .slice A0 n0 c0, .slice A1 n1 c1, .int .i64 P.s0, .int .i64 P.s1], .int .i64 a, .int .i64 0] wb (DiskS A0 A1 r1 wb) by
    rw [hr1]
    exact refTrim P.power P.s0 P.s1 a 0 A0 A1 n0 c0 n1 c1 P.d0 P.d1 wb LD.out.2.2.1 LD.out.2.2.2.1 (by omega) (by omega) hp)
  have HR := Lib.hid hR
  have HWB := Lib.hid hwb
  have HQ := Lib.hid (And.intro hq2 hq)
  have HG := Lib.hid hg
  have HALL := Lib.hid ht
  have HPW := Lib.hid (And.intro hpw1 hpw2)
  have HA := Lib.hid (And.intro hA0 hA1)
  have HB := Lib.hid (show (r1.1.d0.length + (Lg.whole g ls.length ls).length ≤ 1099511627776) ∧ (r1.1.d1.length + (Lg.whole g ls.length ls).length ≤ 1099511627776) by rw [hr1]; omega)
  have H2 := Lib.hid hr2
  clear hl0 hl1 hq2 hr1 hr2 hpw1 hpw2 ht1 hw hwb h0 h1 hR hp hA0 hA1 hq hg ht b0 b1
  go_enter Tryd.func38, Tryd.ntmps38
  go_wp2_with fail
  rw [← HWB.out]
  refine HT.out.mono ?_
  rintro e w3 ⟨D0, m0, e0, D1, m1, e1, rfl, hs0, hs1, hb3, f0, f1⟩
  have L3 := Lib.hid (LD.out.step HA.out.1 HA.out.2 hb3 hs0 hs1 f0 f1)
  have hk := LD.out.1.kept hb3
  have HB3 := Lib.hid hb3
  obtain ⟨z0, z1, z2, z3, z4⟩ := hk.five
  have u0 := hk.frozen 0
  have u1 := hk.frozen 1
  have u2 := hk.frozen 2
  have u3 := hk.frozen 3
  have u4 := hk.frozen 4
  have hz := (LD.out.2.1.kept hb3).five_far (show w.heap.size + 1 ≠ w.heap.size by omega) (.int .i64 r1.1.power) (.slice D0 m0 e0) (.slice D1 m1 e1) (.int .i64 r1.1.s0) (.int .i64 r1.1.s1)
  clear hs0 hs1 hb3 f0 f1 hk HT
  have HZ := Lib.hid hz
  obtain ⟨q0, q1, q2, q3, q4⟩ := HZ.out.five
  have v0 := HZ.out.frozen 0
  have v1 := HZ.out.frozen 1
  have v2 := HZ.out.frozen 2
  have v3 := HZ.out.frozen 3
  have v4 := HZ.out.frozen 4
  clear hz
  go_wp2_with fail
  refine bodyPost_ret_by (results_row_tmp rfl _ _ (w.heap.size + 1) 36 _ _ rfl (five_set HZ.out _ _ _ _ _) Tryd.underlying36 rfl info_disk) rfl ?_
  exact L3.out.out HA.out.1 HA.out.2 r1.2
set_option maxHeartbeats 3200000 in
theorem refLaid_2 (P : PD) (a : Int) (g : Nat) (A0 A1 : Option Addr) (n0 c0 n1 c1 : Nat) (B : Option Addr) (q qc : Nat) (ls : List (List UInt8)) (w : World) (h0 : Sl w A0 n0 c0 P.d0) (h1 : Sl w A1 n1 c1 P.d1) (hR : RdRows w B q ls) (hp : P.Pw)
    (hA0 : ∀ a, A0 = some a → a.block < w.heap.size) (hA1 : ∀ a, A1 = some a → a.block < w.heap.size) (hq : q ≤ 4294967296) (hg : g < 4611686018427387904) (ht : ∀ l ∈ ls, l.length ≤ 65536)
    (b0 : P.d0.length + (Lg.whole g ls.length ls).length ≤ 1099511627776) (b1 : P.d1.length + (Lg.whole g ls.length ls).length ≤ 1099511627776) (r1 r2 : PD × Int) (hr1 : r1 = P.trim a 0) (hr2 : r2 = r1.1.append a [Lg.whole g ls.length ls]) (hr : r1.2 = 0) :
    Calls Tryd.prog 38 #[.agg #[.int .i64 P.power, .slice A0 n0 c0, .slice A1 n1 c1, .int .i64 P.s0, .int .i64 P.s1], .int .i64 a, .int .i64 g, .slice B q qc] w (DiskS A0 A1 (if r2.2 ≠ 0 then r2 else r2.1.sync [a]) w) := by
  obtain ⟨R, hRR⟩ : ∃ R, R = (if r2.2 ≠ 0 then r2 else r2.1.sync [a]) := ⟨_, rfl⟩
  rw [← hRR]
  have HRR := Lib.hid hRR
  have y1 : (r1.2 == 0) = true := by simp [hr]
  clear hr hRR
  have hl0 := h0.len
  have hl1 := h1.len
  have hq2 := hR.1
  have hpw1 : r1.1.Pw := by rw [hr1]; exact hp.trim _ _
  have hpw2 : r2.1.Pw := by rw [hr2]; exact hpw1.append _ _
  have ht1 := PD.len_trim P a 0
  have hw := (((Below.refl w.heap.size w).alloc (Nat.le_refl _) (.cells #[.int .i64 P.power, .slice A0 n0 c0, .slice A1 n1 c1, .int .i64 P.s0, .int .i64 P.s1] 36)).alloc (by simp) (.cells #[.int .i64 0, .slice none 0 0, .slice none 0 0, .int .i64 0, .int .i64 0] 36))
  obtain ⟨wb, hwb⟩ : ∃ wb, wb = ((w.alloc (.cells #[.int .i64 P.power, .slice A0 n0 c0, .slice A1 n1 c1, .int .i64 P.s0, .int .i64 P.s1] 36)).alloc (.cells #[.int .i64 0, .slice none 0 0, .slice none 0 0, .int .i64 0, .int .i64 0] 36)) := ⟨_, rfl⟩
  have LD := Lib.hid (show Ld w wb A0 A1 P A0 n0 c0 A1 n1 c1 from ⟨by rw [hwb]; exact (Bk.new w 36 [.int .i64 P.power, .slice A0 n0 c0, .slice A1 n1 c1, .int .i64 P.s0, .int .i64 P.s1]).alloc _, by rw [hwb]; exact bk_new2 w _ [.int .i64 0, .slice none 0 0, .slice none 0 0, .int .i64 0, .int .i64 0] _, by rw [hwb]; exact h0.below hw, by rw [hwb]; exact h1.below hw, by rw [hwb]; exact hw, .inl rfl, .inl rfl⟩)
  have HT := Lib.hid (show Calls Tryd.prog 39 #[.agg #[.int .i64 P.power, .slice A0 n0 c0, .slice A1 n1 c1, .int .i64 P.s0, .int .i64 P.s1], .int .i64 a, .int .i64 0] wb (DiskS A0 A1 r1 wb) by
    rw [hr1]
    exact refTrim P.power P.s0 P.s1 a 0 A0 A1 n0 c0 n1 c1 P.d0 P.d1 wb LD.out.2.2.1 LD.out.2.2.2.1 (by omega) (by omega) hp)
  have HR := Lib.hid hR
  have HWB := Lib.hid hwb
  have HQ := Lib.hid (And.intro hq2 hq)
  have HG := Lib.hid hg
  have HALL := Lib.hid ht
  have HPW := Lib.hid (And.intro hpw1 hpw2)
  have HA := Lib.hid (And.intro hA0 hA1)
  have HB := Lib.hid (show (r1.1.d0.length + (Lg.whole g ls.length ls).length ≤ 1099511627776) ∧ (r1.1.d1.length + (Lg.whole g ls.length ls).length ≤ 1099511627776) by rw [hr1]; omega)
  have H2 := Lib.hid hr2
  clear hl0 hl1 hq2 hr1 hr2 hpw1 hpw2 ht1 hw hwb h0 h1 hR hp hA0 hA1 hq hg ht b0 b1
  go_enter Tryd.func38, Tryd.ntmps38
  go_wp2_with fail
  rw [← HWB.out]
  refine HT.out.mono ?_
  rintro e w3 ⟨D0, m0, e0, D1, m1, e1, rfl, hs0, hs1, hb3, f0, f1⟩
  have L3 := Lib.hid (LD.out.step HA.out.1 HA.out.2 hb3 hs0 hs1 f0 f1)
  have hk := LD.out.1.kept hb3
  have HB3 := Lib.hid hb3
  obtain ⟨z0, z1, z2, z3, z4⟩ := hk.five
  have u0 := hk.frozen 0
  have u1 := hk.frozen 1
  have u2 := hk.frozen 2
  have u3 := hk.frozen 3
  have u4 := hk.frozen 4
  have hz := (LD.out.2.1.kept hb3).five_far (show w.heap.size + 1 ≠ w.heap.size by omega) (.int .i64 r1.1.power) (.slice D0 m0 e0) (.slice D1 m1 e1) (.int .i64 r1.1.s0) (.int .i64 r1.1.s1)
  clear hs0 hs1 hb3 f0 f1 hk HT
  go_upto_region 3 with fail
  obtain ⟨wl, hwl⟩ : ∃ wl, wl = ((((w3.setCell ⟨w.heap.size, 0, none⟩ (.int .i64 r1.1.power)).setCell ⟨w.heap.size, 1, none⟩ (.slice D0 m0 e0)).setCell ⟨w.heap.size, 2, none⟩ (.slice D1 m1 e1)).setCell ⟨w.heap.size, 3, none⟩ (.int .i64 r1.1.s0)).setCell ⟨w.heap.size, 4, none⟩ (.int .i64 r1.1.s1) := ⟨_, rfl⟩
  rw [← hwl] at L3 ⊢
  have HWH := Lib.hid (show ∀ W, Below wl.heap.size wl W → Calls Tryd.prog 58 #[.int .i64 g, .slice B q qc] W (fun e w' => ∃ A5 n5 c5, e = .returned (.slice A5 n5 c5) ∧ OwnB w' wl.heap.size A5 n5 c5 (Lg.whole g ls.length ls) ∧ Below wl.heap.size wl w') from fun W hW => by
    have h := refWhole g B q qc ls W ((HR.out.below L3.out.2.2.2.2.1).below hW) HQ.out.2 HG.out HALL.out (by rw [← HQ.out.1]; have := HB.out.1; omega)
    rw [← HQ.out.1] at h ⊢
    exact h.mono fun e w' ⟨A5, n5, c5, he, ho, hb⟩ => ⟨A5, n5, c5, he, ho.more hW.size, below_next hW hb hW.size⟩)
  have HAP := Lib.hid (show ∀ X W, Below wl.heap.size wl W → RdRows W X 1 [Lg.whole g ls.length ls] → Calls Tryd.prog 44 #[.agg #[.int .i64 r1.1.power, .slice D0 m0 e0, .slice D1 m1 e1, .int .i64 r1.1.s0, .int .i64 r1.1.s1], .int .i64 a, .slice X 1 1] W (fun e w' => ∃ E0 k0 d0 E1 k1 d1, e = .returned (.tuple #[.agg #[.int .i64 r2.1.power, .slice E0 k0 d0, .slice E1 k1 d1, .int .i64 r2.1.s0, .int .i64 r2.1.s1], .int .i64 r2.2]) ∧ Sl w' E0 k0 d0 r2.1.d0 ∧ Sl w' E1 k1 d1 r2.1.d1 ∧ Below wl.heap.size wl w' ∧
      (E0 = D0 ∨ ∀ a, E0 = some a → wl.heap.size ≤ a.block ∧ a.block < w'.heap.size) ∧ (E1 = D1 ∨ ∀ a, E1 = some a → wl.heap.size ≤ a.block ∧ a.block < w'.heap.size)) from fun X W hW hX => by
    have hl0 := L3.out.2.2.1.len
    have hl1 := L3.out.2.2.2.1.len
    have hbb := HB.out
    have h := (refAppend r1.1.power r1.1.s0 r1.1.s1 a D0 D1 m0 e0 m1 e1 r1.1.d0 r1.1.d1 X 1 1 [Lg.whole g ls.length ls] W (L3.out.2.2.1.below hW) (L3.out.2.2.2.1.below hW) hX (by simp only [List.flatten_cons, List.flatten_nil, List.append_nil]; omega) (by simp only [List.flatten_cons, List.flatten_nil, List.append_nil]; omega) (by omega) HPW.out.1)
    rw [show PD.append ⟨r1.1.power, r1.1.d0, r1.1.d1, r1.1.s0, r1.1.s1⟩ a [Lg.whole g ls.length ls] = r2 from H2.out.symm] at h
    exact h.mono fun e w' hd => hd.behind hW)
  have HKL := Lib.hid L3.out.1
  obtain ⟨p0, p1, p2, p3, p4⟩ := HKL.out.five
  have hlt : w.heap.size < wl.heap.size := HKL.out.lt
  have hw := Below.refl wl.heap.size wl
  clear z0 z1 z2 z3 z4 u0 u1 u2 u3 u4 hz hwl y1
  go_cut [10] from 19 to 29 (fun e wx => LdMid w A0 A1 r2 e wx)
  case first =>
    go_region_with
      (first
        | (go_at_call 58; with_reducible refine (HWH.out _ ?_).mono ?_
           focus first | with_reducible exact hw | with_reducible exact below_drew hw | with_reducible exact below_drewN hw _
           rintro e w4 ⟨A5, n5, c5, rfl, fo, hw'⟩
           have hk4 := HKL.out.kept hw'
           obtain ⟨s0, s1, s2, s3, s4⟩ := hk4.five
           have hlt4 := hk4.lt
           clear hk4
           replace hw := hw'
           clear hw')
        | (go_at_call 44; with_reducible refine (HAP.out _ _ ?_ ?_).mono ?_
           focus first | with_reducible exact hw.alloc hw.size _ | with_reducible exact below_drew (hw.alloc hw.size _) | with_reducible exact below_drewN (hw.alloc hw.size _) _
           focus first | with_reducible exact rows_one _ A5 n5 c5 _ (Sl.own fo) | with_reducible exact rows_drew (rows_one _ A5 n5 c5 _ (Sl.own fo)) | exact rows_one _ A5 n5 c5 _ (Sl.own fo) | exact rows_drew (rows_one _ A5 n5 c5 _ (Sl.own fo))
           rintro e w6 ⟨E0, k0, d0, E1, k1, d1, rfl, t0, t1, hw6, g0, g1⟩
           have HLD := Lib.hid (L3.out.step HA.out.1 HA.out.2 hw6 t0 t1 g0 g1)
           have hk6 := HKL.out.kept hw6
           obtain ⟨z0, z1, z2, z3, z4⟩ := hk6.five
           have u0 := hk6.frozen 0
           have u1 := hk6.frozen 1
           have u2 := hk6.frozen 2
           have u3 := hk6.frozen 3
           have u4 := hk6.frozen 4
           clear hk6 t0 t1 g0 g1 hw))
    all_goals
      go_wp2_with fail
      go_meet
      exact ⟨rfl, E0, k0, d0, E1, k1, d1, HLD.out⟩
  case rest =>
    obtain ⟨rfl, E0, k0, d0, E1, k1, d1, L⟩ := hcut
    have LC := Lib.hid L
    clear L p0 p1 p2 p3 p4 hlt hw HWH HAP HKL L3 LD HB3
    have hk := LC.out.1
    obtain ⟨p0, p1, p2, p3, p4⟩ := hk.five
    have u0 := hk.frozen 0
    have u1 := hk.frozen 1
    have u2 := hk.frozen 2
    have u3 := hk.frozen 3
    have u4 := hk.frozen 4
    have hz := LC.out.2.1
    by_cases hr2 : r2.2 = 0
    · have HRE := Lib.hid (show R = r2.1.sync [a] by rw [HRR.out, if_neg (by simp [hr2])])
      have y2 : (r2.2 == 0) = true := by simp [hr2]
      have HSY := Lib.hid (show Calls Tryd.prog 45 #[.agg #[.int .i64 r2.1.power, .slice E0 k0 d0, .slice E1 k1 d1, .int .i64 r2.1.s0, .int .i64 r2.1.s1], .slice (some ⟨wc.heap.size, 0, none⟩) 1 1] (wc.alloc (.cells #[.int .i64 a] 3)) (DiskS E0 E1 R wc) from by
        have hb := (Below.refl wc.heap.size wc).alloc (Nat.le_refl _) (.cells #[.int .i64 a] 3)
        have h := refSync r2.1.power r2.1.s0 r2.1.s1 E0 E1 k0 d0 k1 d1 r2.1.d0 r2.1.d1 (some ⟨wc.heap.size, 0, none⟩) 1 1 [a] (wc.alloc (.cells #[.int .i64 a] 3)) (LC.out.2.2.1.below hb) (LC.out.2.2.2.1.below hb) (Rd.new wc [iv a] 3) (by simp only [maxLen]; omega) HPW.out.2
        rw [show PD.sync ⟨r2.1.power, r2.1.d0, r2.1.d1, r2.1.s0, r2.1.s1⟩ [a] = R from HRE.out.symm] at h
        exact h.mono fun e w' hd => hd.behind hb)
      clear hr2 hk hz p0 p1 p2 p3 p4 u0 u1 u2 u3 u4
      obtain ⟨p0, p1, p2, p3, p4⟩ := LC.out.1.five
      have hlt : w.heap.size < wc.heap.size := LC.out.1.lt
      go_wp2_with fail
      refine HSY.out.mono ?_
      rintro e w8 ⟨G0, k2, d2, G1, k3, d3, rfl, s0, s1, hb8, f0, f1⟩
      have L8 := Lib.hid (LC.out.step HA.out.1 HA.out.2 hb8 s0 s1 f0 f1)
      have hk := LC.out.1.kept hb8
      clear p0 p1 p2 p3 p4
      obtain ⟨p0, p1, p2, p3, p4⟩ := hk.five
      have u0 := hk.frozen 0
      have u1 := hk.frozen 1
      have u2 := hk.frozen 2
      have u3 := hk.frozen 3
      have u4 := hk.frozen 4
      have HZ := Lib.hid L8.out.2.1
      obtain ⟨q0, q1, q2, q3, q4⟩ := HZ.out.five
      have v0 := HZ.out.frozen 0
      have v1 := HZ.out.frozen 1
      have v2 := HZ.out.frozen 2
      have v3 := HZ.out.frozen 3
      have v4 := HZ.out.frozen 4
      clear s0 s1 hb8 f0 f1 hk HSY
      go_wp2_with fail
      refine bodyPost_ret_by (results_row_tmp rfl _ _ (w.heap.size + 1) 36 _ _ rfl (five_set HZ.out _ _ _ _ _) Tryd.underlying36 rfl info_disk) rfl ?_
      exact L8.out.out HA.out.1 HA.out.2 R.2
    · have HRE := Lib.hid (show R = r2 by rw [HRR.out, if_pos hr2])
      have y2 : (r2.2 == 0) = false := by simp [hr2]
      have HZ := Lib.hid hz
      obtain ⟨q0, q1, q2, q3, q4⟩ := HZ.out.five
      have v0 := HZ.out.frozen 0
      have v1 := HZ.out.frozen 1
      have v2 := HZ.out.frozen 2
      have v3 := HZ.out.frozen 3
      have v4 := HZ.out.frozen 4
      clear hz hr2 hk u0 u1 u2 u3 u4
      go_wp2_with fail
      refine bodyPost_ret_by (results_row_tmp rfl _ _ (w.heap.size + 1) 36 _ _ rfl (five_set HZ.out _ _ _ _ _) Tryd.underlying36 rfl info_disk) rfl ?_
      rw [HRE.out]
      exact LC.out.out HA.out.1 HA.out.2 r2.2
theorem refLaid (P : PD) (a : Int) (g : Nat) (A0 A1 : Option Addr) (n0 c0 n1 c1 : Nat) (B : Option Addr) (q qc : Nat) (ls : List (List UInt8)) (w : World) (h0 : Sl w A0 n0 c0 P.d0) (h1 : Sl w A1 n1 c1 P.d1) (hR : RdRows w B q ls) (hp : P.Pw)
    (hA0 : ∀ a, A0 = some a → a.block < w.heap.size) (hA1 : ∀ a, A1 = some a → a.block < w.heap.size) (hq : q ≤ 4294967296) (hg : g < 4611686018427387904) (ht : ∀ l ∈ ls, l.length ≤ 65536)
    (b0 : P.d0.length + (Lg.whole g ls.length ls).length ≤ 1099511627776) (b1 : P.d1.length + (Lg.whole g ls.length ls).length ≤ 1099511627776) :
    Calls Tryd.prog 38 #[.agg #[.int .i64 P.power, .slice A0 n0 c0, .slice A1 n1 c1, .int .i64 P.s0, .int .i64 P.s1], .int .i64 a, .int .i64 g, .slice B q qc] w (DiskS A0 A1 (Lg.lay P a g ls) w) := by
  by_cases hr : (P.trim a 0).2 = 0
  · have e : Lg.lay P a g ls = (if ((P.trim a 0).1.append a [Lg.whole g ls.length ls]).2 ≠ 0 then (P.trim a 0).1.append a [Lg.whole g ls.length ls] else ((P.trim a 0).1.append a [Lg.whole g ls.length ls]).1.sync [a]) := by
      unfold Lg.lay
      rw [if_neg (by simp [hr])]
    rw [e]
    exact refLaid_2 P a g A0 A1 n0 c0 n1 c1 B q qc ls w h0 h1 hR hp hA0 hA1 hq hg ht b0 b1 _ _ rfl rfl hr
  · have e : Lg.lay P a g ls = P.trim a 0 := by unfold Lg.lay; rw [if_pos hr]
    rw [e]
    exact refLaid_1 P a g A0 A1 n0 c0 n1 c1 B q qc ls w h0 h1 hR hp hA0 hA1 hq hg ht b0 b1 _ _ rfl rfl hr
end Go.Proofs.YtmiejaohkgemnaaDoor

/-
  The reference's log: Open. A walk; no statement.
-/
namespace Go.Proofs.YtmiejaohkgemnaaDoor
open Go.RowKit
open Pk Sh
set_option linter.unusedVariables false
set_option maxRecDepth 100000

/-- a log, as the reference has it -/
def lgC (p : Int) (D0 : Option Addr) (m0 e0 : Nat) (D1 : Option Addr) (m1 e1 : Nat) (s0 s1 a : Int) (g n : Nat) (L : Option Addr) (k lc : Nat) : List Value :=
  [.int .i64 p, .slice D0 m0 e0, .slice D1 m1 e1, .int .i64 s0, .int .i64 s1, .int .i64 a, .int .i64 (g : Int), .int .i64 (n : Int), .slice L k lc]
/-- what a call hands back that answers a log and a number: the disk's bytes those that were there, or new -/
def LogS (A0 A1 : Option Addr) (r : Lg.PL × Int) (w : World) (e : Ending) (w' : World) : Prop :=
  ∃ D0 m0 e0 D1 m1 e1 L lc, e = .returned (.tuple #[.agg (lgC r.1.D.power D0 m0 e0 D1 m1 e1 r.1.D.s0 r.1.D.s1 r.1.a r.1.gen r.1.n L r.1.list.length lc).toArray, .int .i64 r.2]) ∧ Sl w' D0 m0 e0 r.1.D.d0 ∧ Sl w' D1 m1 e1 r.1.D.d1 ∧ Below w.heap.size w w' ∧
    OwnRs w' w.heap.size L r.1.list.length lc r.1.list ∧ (D0 = A0 ∨ ∀ a, D0 = some a → w.heap.size ≤ a.block ∧ a.block < w'.heap.size) ∧ (D1 = A1 ∨ ∀ a, D1 = some a → w.heap.size ≤ a.block ∧ a.block < w'.heap.size)
/-- the areas looked at so far -/
def sts (P : PD) : Nat → Option (Int × Lg.Ar)
  | 0 => none
  | 1 => Lg.upd none 0 (Lg.good P.d0)
  | _ => Lg.best P
/-- what is best so far, as it lies -/
def OBest (w : World) (P : PD) (st : Option (Int × Lg.Ar)) (vE vF : Value) (wr : World) : Prop :=
  match st with
  | none => vE = .int .i64 0 ∧ vF = .bool false ∧ Bk wr (w.heap.size + 1 + 1) 39 (lgV 0 0 (.slice none 0 0))
  | some (a, x) => ∃ L lc, vE = .int .i64 (((P.data a).length - x.rest.length : Nat) : Int) ∧ vF = .bool true ∧ Bk wr (w.heap.size + 1 + 1) 39 (lgC 0 none 0 0 none 0 0 0 0 a x.gen x.laid L x.list.length lc) ∧ OwnRs wr w.heap.size L x.list.length lc x.list
def OSt (w : World) (P : PD) (bx : List Value) (k : Nat) (vE vF : Value) (wr : World) : Prop :=
  Bk wr w.heap.size 36 bx ∧ Bk wr (w.heap.size + 1) 39 (lgV 0 0 (.slice none 0 0)) ∧ Below w.heap.size w wr ∧ OBest w P (sts P k) vE vF wr
theorem nine_far {X : World} {g g' : Nat} {t : TypeId} {cs : List Value} (h : Bk X g t cs) (hne : g ≠ g') (a b c d e f i j k : Value) :
    Bk (((((((((X.setCell ⟨g', 0, none⟩ a).setCell ⟨g', 1, none⟩ b).setCell ⟨g', 2, none⟩ c).setCell ⟨g', 3, none⟩ d).setCell ⟨g', 4, none⟩ e).setCell ⟨g', 5, none⟩ f).setCell ⟨g', 6, none⟩ i).setCell ⟨g', 7, none⟩ j).setCell ⟨g', 8, none⟩ k) g t cs :=
  ((((((((h.far hne a).far hne b).far hne c).far hne d).far hne e).far hne f).far hne i).far hne j).far hne k
theorem data_at {P : PD} (k : Nat) (hk : k < 2) : P.data (k : Int) = if k = 0 then P.d0 else P.d1 := by
  unfold PD.data
  by_cases h : k = 0
  · rw [if_pos (by omega), if_pos h]
  · rw [if_neg (by omega), if_neg h]
theorem sts_next {P : PD} (k : Nat) (hk : k < 2) : sts P (k + 1) = Lg.upd (sts P k) k (Lg.good (P.data k)) := by
  rw [data_at k hk]
  match k, hk with
  | 0, _ => rfl
  | 1, _ => rfl
/-- the better one is laid over the best -/
theorem best_lies {w wx : World} {P : PD} {bx : List Value} {k : Nat} {ar : Lg.Ar} {S : Option Addr} {sc : Nat} (kd : Bk wx w.heap.size 36 bx) (kz : Bk wx (w.heap.size + 1) 39 (lgV 0 0 (.slice none 0 0))) (hb : Below w.heap.size w wx)
    {x0 x1 x2 x3 x4 x5 x6 x7 x8 : Value} (kb : Bk wx (w.heap.size + 1 + 1) 39 [x0, x1, x2, x3, x4, x5, x6, x7, x8]) (ho : OwnRs wx w.heap.size S ar.list.length sc ar.list) (hs : sts P (k + 1) = some ((k : Int), ar)) (v : Value) (hv : v = .int .i64 (((P.data k).length - ar.rest.length : Nat) : Int)) (q : Int) (hq : q = (k : Int)) (o : Obj) :
    OSt w P bx (k + 1) v (.bool true) (((((((((((wx.setCell ⟨w.heap.size + 1 + 1, 0, none⟩ (.int .i64 0)).setCell ⟨w.heap.size + 1 + 1, 1, none⟩ (.slice none 0 0)).setCell ⟨w.heap.size + 1 + 1, 2, none⟩ (.slice none 0 0)).setCell ⟨w.heap.size + 1 + 1, 3, none⟩ (.int .i64 0)).setCell ⟨w.heap.size + 1 + 1, 4, none⟩ (.int .i64 0)).setCell ⟨w.heap.size + 1 + 1, 5, none⟩ (.int .i64 0)).setCell ⟨w.heap.size + 1 + 1, 6, none⟩ (.int .i64 (ar.gen : Int))).setCell ⟨w.heap.size + 1 + 1, 7, none⟩ (.int .i64 (ar.laid : Int))).setCell ⟨w.heap.size + 1 + 1, 8, none⟩ (.slice S ar.list.length sc)).setCell ⟨w.heap.size + 1 + 1, 5, none⟩ (.int .i64 q)).alloc o) := by
  have k9 := nine_set kb (.int .i64 0) (.slice none 0 0) (.slice none 0 0) (.int .i64 0) (.int .i64 0) (.int .i64 0) (.int .i64 (ar.gen : Int)) (.int .i64 (ar.laid : Int)) (.slice S ar.list.length sc)
  subst hq
  have hbf := below_set (nine_below hb (show w.heap.size ≤ w.heap.size + 1 + 1 by omega) (.int .i64 0) (.slice none 0 0) (.slice none 0 0) (.int .i64 0) (.int .i64 0) (.int .i64 0) (.int .i64 (ar.gen : Int)) (.int .i64 (ar.laid : Int)) (.slice S ar.list.length sc)) (show w.heap.size ≤ w.heap.size + 1 + 1 by omega) 5 (.int .i64 (k : Int))
  refine ⟨((nine_far kd (by omega) _ _ _ _ _ _ _ _ _).far (by show w.heap.size ≠ w.heap.size + 1 + 1; omega) _).alloc _, ((nine_far kz (by omega) _ _ _ _ _ _ _ _ _).far (by show w.heap.size + 1 ≠ w.heap.size + 1 + 1; omega) _).alloc _, hbf.alloc hbf.size _, ?_⟩
  rw [hs]
  exact ⟨S, sc, hv, rfl, (k9.set 5 _).alloc _, (own_set (own_nine ho kb _ _ _ _ _ _ _ _ _) k9 _).below ((Below.refl _ _).alloc (Nat.le_refl _) _)⟩
theorem best_kept {w wr wx : World} {P : PD} {st : Option (Int × Lg.Ar)} {vE vF : Value} (h : OBest w P st vE vF wr) (hb : Below wr.heap.size wr wx) : OBest w P st vE vF wx := by
  cases st with
  | none => exact ⟨h.1, h.2.1, h.2.2.kept hb⟩
  | some y =>
    obtain ⟨a, y⟩ := y
    obtain ⟨L, lc, h1, h2, h3, h4⟩ := h
    exact ⟨L, lc, h1, h2, h3.kept hb, h4.below hb⟩
theorem LogS.alloc {A0 A1 : Option Addr} {r : Lg.PL × Int} {w X : World} {e : Ending} (h : LogS A0 A1 r w e X) (o : Obj) : LogS A0 A1 r w e (X.alloc o) := by
  obtain ⟨D0, m0, e0, D1, m1, e1, L, lc, he, s0, s1, hb, ho, f0, f1⟩ := h
  have hk := (Below.refl X.heap.size X).alloc (Nat.le_refl _) o
  exact ⟨D0, m0, e0, D1, m1, e1, L, lc, he, s0.below hk, s1.below hk, below_next hb hk hb.size, ho.below hk, f0.imp id (fun f a e => ⟨(f a e).1, Nat.lt_of_lt_of_le (f a e).2 hk.size⟩), f1.imp id (fun f a e => ⟨(f a e).1, Nat.lt_of_lt_of_le (f a e).2 hk.size⟩)⟩
theorem nine_chg {F : Nat → Prop} {X : World} {g : Nat} (hg : F g) (a b c d e f i j k : Value) : Chg F X (((((((((X.setCell ⟨g, 0, none⟩ a).setCell ⟨g, 1, none⟩ b).setCell ⟨g, 2, none⟩ c).setCell ⟨g, 3, none⟩ d).setCell ⟨g, 4, none⟩ e).setCell ⟨g, 5, none⟩ f).setCell ⟨g, 6, none⟩ i).setCell ⟨g, 7, none⟩ j).setCell ⟨g, 8, none⟩ k) :=
  (((((((((Chg.refl F X).set (.inl hg) 0 a).set (.inl hg) 1 b).set (.inl hg) 2 c).set (.inl hg) 3 d).set (.inl hg) 4 e).set (.inl hg) 5 f).set (.inl hg) 6 i).set (.inl hg) 7 j).set (.inl hg) 8 k
/-- a log is handed back -/
theorem log_out {w X : World} {A0 A1 D0 D1 L : Option Addr} {Q : PD} {a : Int} {g n m0 e0 m1 e1 lc : Nat} {ls : List (List UInt8)} (hw : Below w.heap.size w X) (s0 : Sl X D0 m0 e0 Q.d0) (s1 : Sl X D1 m1 e1 Q.d1) (ho : OwnRs X w.heap.size L ls.length lc ls) {x0 x1 x2 x3 x4 x5 x6 x7 x8 : Value} (kz : Bk X (w.heap.size + 1) 39 [x0, x1, x2, x3, x4, x5, x6, x7, x8])
    (hA0 : ∀ a, A0 = some a → a.block < w.heap.size) (hA1 : ∀ a, A1 = some a → a.block < w.heap.size) (f0 : D0 = A0 ∨ ∀ a, D0 = some a → w.heap.size + 2 ≤ a.block ∧ a.block < X.heap.size) (f1 : D1 = A1 ∨ ∀ a, D1 = some a → w.heap.size + 2 ≤ a.block ∧ a.block < X.heap.size) (er : Int) :
    Bk (((((((((X.setCell ⟨w.heap.size + 1, 0, none⟩ (.int .i64 Q.power)).setCell ⟨w.heap.size + 1, 1, none⟩ (.slice D0 m0 e0)).setCell ⟨w.heap.size + 1, 2, none⟩ (.slice D1 m1 e1)).setCell ⟨w.heap.size + 1, 3, none⟩ (.int .i64 Q.s0)).setCell ⟨w.heap.size + 1, 4, none⟩ (.int .i64 Q.s1)).setCell ⟨w.heap.size + 1, 5, none⟩ (.int .i64 a)).setCell ⟨w.heap.size + 1, 6, none⟩ (.int .i64 (g : Int))).setCell ⟨w.heap.size + 1, 7, none⟩ (.int .i64 (n : Int))).setCell ⟨w.heap.size + 1, 8, none⟩ (.slice L ls.length lc)) (w.heap.size + 1) 39 (lgC Q.power D0 m0 e0 D1 m1 e1 Q.s0 Q.s1 a g n L ls.length lc) ∧ LogS A0 A1 (⟨Q, a, g, n, ls⟩, er) w (.returned (.tuple #[.agg (lgC Q.power D0 m0 e0 D1 m1 e1 Q.s0 Q.s1 a g n L ls.length lc).toArray, .int .i64 er])) (((((((((X.setCell ⟨w.heap.size + 1, 0, none⟩ (.int .i64 Q.power)).setCell ⟨w.heap.size + 1, 1, none⟩ (.slice D0 m0 e0)).setCell ⟨w.heap.size + 1, 2, none⟩ (.slice D1 m1 e1)).setCell ⟨w.heap.size + 1, 3, none⟩ (.int .i64 Q.s0)).setCell ⟨w.heap.size + 1, 4, none⟩ (.int .i64 Q.s1)).setCell ⟨w.heap.size + 1, 5, none⟩ (.int .i64 a)).setCell ⟨w.heap.size + 1, 6, none⟩ (.int .i64 (g : Int))).setCell ⟨w.heap.size + 1, 7, none⟩ (.int .i64 (n : Int))).setCell ⟨w.heap.size + 1, 8, none⟩ (.slice L ls.length lc)) := by
  have hc : Chg (fun i => i = w.heap.size + 1) X (((((((((X.setCell ⟨w.heap.size + 1, 0, none⟩ (.int .i64 Q.power)).setCell ⟨w.heap.size + 1, 1, none⟩ (.slice D0 m0 e0)).setCell ⟨w.heap.size + 1, 2, none⟩ (.slice D1 m1 e1)).setCell ⟨w.heap.size + 1, 3, none⟩ (.int .i64 Q.s0)).setCell ⟨w.heap.size + 1, 4, none⟩ (.int .i64 Q.s1)).setCell ⟨w.heap.size + 1, 5, none⟩ (.int .i64 a)).setCell ⟨w.heap.size + 1, 6, none⟩ (.int .i64 (g : Int))).setCell ⟨w.heap.size + 1, 7, none⟩ (.int .i64 (n : Int))).setCell ⟨w.heap.size + 1, 8, none⟩ (.slice L ls.length lc)) := nine_chg (F := fun i => i = w.heap.size + 1) rfl _ _ _ _ _ _ _ _ _
  refine ⟨nine_set kz _ _ _ _ _ _ _ _ _, D0, m0, e0, D1, m1, e1, L, lc, rfl, hc.sl s0 ?_, hc.sl s1 ?_, nine_below hw (by omega) _ _ _ _ _ _ _ _ _, own_nine ho kz _ _ _ _ _ _ _ _ _, f0.imp id (fun f a e => ⟨Nat.le_trans (by omega) (f a e).1, Nat.lt_of_lt_of_le (f a e).2 hc.size⟩), f1.imp id (fun f a e => ⟨Nat.le_trans (by omega) (f a e).1, Nat.lt_of_lt_of_le (f a e).2 hc.size⟩)⟩
  · intro a e
    rcases f0 with k | k
    · rw [k] at e; have := hA0 a e; omega
    · have := (k a e).1; omega
  · intro a e
    rcases f1 with k | k
    · rw [k] at e; have := hA1 a e; omega
    · have := (k a e).1; omega
/-- the disk is laid into the best -/
theorem best_disk {w X : World} {D0 D1 L : Option Addr} {l0 l1 : List UInt8} {m0 e0 m1 e1 lc : Nat} {ls : List (List UInt8)} (hw : Below w.heap.size w X) (s0 : Sl X D0 m0 e0 l0) (s1 : Sl X D1 m1 e1 l1) (ho : OwnRs X w.heap.size L ls.length lc ls) {t : TypeId} {cs : List Value} {x0 x1 x2 x3 x4 x5 x6 x7 x8 : Value} (kz : Bk X (w.heap.size + 1) t cs) (kb : Bk X (w.heap.size + 1 + 1) 39 [x0, x1, x2, x3, x4, x5, x6, x7, x8])
    (g0 : ∀ a, D0 = some a → a.block ≠ w.heap.size + 1 + 1) (g1 : ∀ a, D1 = some a → a.block ≠ w.heap.size + 1 + 1) (a b c d e : Value) :
    let Y := (((((X.setCell ⟨w.heap.size + 1 + 1, 0, none⟩ a).setCell ⟨w.heap.size + 1 + 1, 1, none⟩ b).setCell ⟨w.heap.size + 1 + 1, 2, none⟩ c).setCell ⟨w.heap.size + 1 + 1, 3, none⟩ d).setCell ⟨w.heap.size + 1 + 1, 4, none⟩ e)
    Below w.heap.size w Y ∧ Sl Y D0 m0 e0 l0 ∧ Sl Y D1 m1 e1 l1 ∧ OwnRs Y w.heap.size L ls.length lc ls ∧ Bk Y (w.heap.size + 1) t cs ∧ Bk Y (w.heap.size + 1 + 1) 39 [a, b, c, d, e, x5, x6, x7, x8] ∧ Y.heap.size = X.heap.size := by
  intro Y
  have hc : Chg (fun i => i = w.heap.size + 1 + 1) X Y := five_chg (F := fun i => i = w.heap.size + 1 + 1) rfl _ _ _ _ _
  have k0 := kb.set 0 a
  have k1 := k0.set 1 b
  have k2 := k1.set 2 c
  have k3 := k2.set 3 d
  exact ⟨five_below hw (by omega) _ _ _ _ _, hc.sl s0 g0, hc.sl s1 g1, own_set (own_set (own_set (own_set (own_set ho kb a) k0 b) k1 c) k2 d) k3 e, kz.five_far (by omega) _ _ _ _ _, k3.set 4 e, by simp [Y]⟩
theorem info_log9 : (Tryd.prog.info? 39).map (·.size) = some 9 := by kernel_rfl
set_option maxHeartbeats 6400000 in
theorem refOpen (P : PD) (A0 A1 : Option Addr) (n0 c0 n1 c1 : Nat) (w : World) (h0 : Sl w A0 n0 c0 P.d0) (h1 : Sl w A1 n1 c1 P.d1) (hp : P.Pw) (hA0 : ∀ a, A0 = some a → a.block < w.heap.size) (hA1 : ∀ a, A1 = some a → a.block < w.heap.size) (b0 : P.d0.length ≤ 4294967296) (b1 : P.d1.length ≤ 4294967296) :
    Calls Tryd.prog 15 #[.agg #[.int .i64 P.power, .slice A0 n0 c0, .slice A1 n1 c1, .int .i64 P.s0, .int .i64 P.s1]] w (LogS A0 A1 (Lg.opn P) w) := by
  obtain ⟨R, hR⟩ : ∃ R, R = Lg.opn P := ⟨_, rfl⟩
  rw [← hR]
  have hl0 := h0.len
  have hl1 := h1.len
  obtain ⟨bx, hbx⟩ : ∃ bx : List Value, bx = [.int .i64 P.power, .slice A0 n0 c0, .slice A1 n1 c1, .int .i64 P.s0, .int .i64 P.s1] := ⟨_, rfl⟩
  have HA := Lib.hid (And.intro hA0 hA1)
  have HS0 := Lib.hid h0
  have HS1 := Lib.hid h1
  have HLB := Lib.hid (show n0 ≤ 4294967296 ∧ n1 ≤ 4294967296 by omega)
  have HRR := Lib.hid hR
  have HP := Lib.hid hp
  have HBX := Lib.hid hbx
  have hw1 := (Below.refl w.heap.size w).alloc (Nat.le_refl _) (.cells bx.toArray 36)
  have HAT := Lib.hid (show OSt w P bx 0 (.int .i64 0) (.bool false) (((w.alloc (.cells bx.toArray 36)).alloc (.cells (lgV 0 0 (.slice none 0 0)).toArray 39)).alloc (.cells (lgV 0 0 (.slice none 0 0)).toArray 39)) from
    ⟨((Bk.new w _ bx).alloc _).alloc _, (bk_new2 w _ (lgV 0 0 (.slice none 0 0)) _).alloc _, (hw1.alloc (by simp) _).alloc (by simp; omega) _, rfl, rfl, by
      have := bk_new2 (w.alloc (.cells bx.toArray 36)) (.cells (lgV 0 0 (.slice none 0 0)).toArray 39) (lgV 0 0 (.slice none 0 0)) 39
      simpa using this⟩)
  rw [hbx] at HAT
  clear h0 h1 hp hA0 hA1 b0 b1 hl0 hl1 hR hbx hw1
  go_enter Tryd.func15, Tryd.ntmps15
  go_wp2_with fail
  go_loopw [5, 6, 7] (fun vE vF i wr => ∃ k : Nat, k ≤ 2 ∧ i = .int .i64 (k : Nat) ∧ OSt w P bx k vE vF wr) (fun _ _ i _ => 2 - (intOf i).toNat)
  case atStart => rw [HBX.out]; exact ⟨0, by omega, rfl, HAT.out⟩
  case round =>
    clear HAT
    obtain ⟨k, hk, rfl, kd, kz, hb, hbest⟩ := hrel
    by_cases hk2 : k < 2
    · rename World => wr
      have hk01 : k = 0 ∨ k = 1 := by omega
      rcases hk01 with rfl | rfl
      · clear hk hk2
        obtain ⟨rfl, rfl, kb⟩ := hbest
        have HKD := Lib.hid kd
        have HKZ := Lib.hid kz
        have HB := Lib.hid hb
        have HAR := Lib.hid (refArea5 A0 n0 c0 P.d0 wr (HS0.out.below hb) HLB.out.1)
        have HST := Lib.hid (show sts P (0 + 1) = Lg.upd (sts P 0) ((0 : Nat) : Int) (Lg.good P.d0) from rfl)
        have p0 : wr.cell? ⟨w.heap.size, 1, none⟩ = some (.slice A0 n0 c0) := by
          have := kd.at_ (i := 1) (u := .slice A0 n0 c0) (by rw [HBX.out]; rfl)
          exact this
        have hlt : w.heap.size + 1 < wr.heap.size := kz.lt
        have HKB := Lib.hid kb
        clear kd kz hb kb
        go_wp2_with fail
        refine HAR.out.mono ?_
        rintro e w7 ⟨hb7, gg, nn, S, sn, sc, kk, ok, rfl, ⟨rfl, hg⟩ | ⟨rfl, x, hg, rfl, rfl, rfl, rfl, ho⟩⟩
        · have HNX := Lib.hid (show OSt w P bx (0 + 1) (.int .i64 0) (.bool false) (w7.alloc (.cells (lgV gg nn (.slice S sn sc)).toArray 39)) from by
            have hbb := below_next HB.out hb7 HB.out.size
            refine ⟨(HKD.out.kept hb7).alloc _, (HKZ.out.kept hb7).alloc _, hbb.alloc hbb.size _, ?_⟩
            rw [HST.out, hg]
            exact best_kept (P := P) (st := none) ⟨rfl, rfl, HKB.out⟩ (hb7.alloc (Nat.le_trans (Nat.le_refl _) hb7.size) _))
          clear hb7 hg p0 hlt
          unfold lgV
          go_wp2_with fail
          go_roundw
          case rel => exact ⟨0 + 1, by omega, by go_num, HNX.out⟩
          case measure => simp [intOf]
        · have kb := HKB.out.kept hb7
          have HLK := Lib.hid (fun (q : Int) (hq : q = ((0 : Nat) : Int)) (o : Obj) => best_lies (k := 0) (HKD.out.kept hb7) (HKZ.out.kept hb7) (below_next HB.out hb7 HB.out.size) kb (ho.more HB.out.size) (by rw [HST.out, hg]; rfl) (.int .i64 (((P.d0).length - x.rest.length : Nat) : Int)) rfl q hq o)
          obtain ⟨z0, z1, z2, z3, z4, z5, z6, z7, z8⟩ := kb.nine
          obtain ⟨u0, u1, u2, u3, u4, u5, u6, u7, u8⟩ := kb.nine_free
          have hl2 : w.heap.size + 1 + 1 < w7.heap.size := kb.lt
          clear hb7 hg p0 hlt ho kb
          unfold lgV
          go_wp2_with fail
          go_roundw
          case rel => exact ⟨0 + 1, by omega, by go_num, HLK.out _ rfl _⟩
          case measure => simp [intOf]
      · clear hk hk2
        obtain ⟨st, hst⟩ : ∃ st, st = sts P 1 := ⟨_, rfl⟩
        rw [← hst] at hbest
        cases st with
        | none =>
          obtain ⟨rfl, rfl, kb⟩ := hbest
          have HT := Lib.hid hst.symm
          clear hst
          have HKD := Lib.hid kd
          have HKZ := Lib.hid kz
          have HB := Lib.hid hb
          have HAR := Lib.hid (refArea5 A1 n1 c1 P.d1 wr (HS1.out.below hb) HLB.out.2)
          have HST := Lib.hid (show sts P (1 + 1) = Lg.upd (sts P 1) ((1 : Nat) : Int) (Lg.good P.d1) from rfl)
          have p0 : wr.cell? ⟨w.heap.size, 2, none⟩ = some (.slice A1 n1 c1) := by
            have := kd.at_ (i := 2) (u := .slice A1 n1 c1) (by rw [HBX.out]; rfl)
            exact this
          have hlt : w.heap.size + 1 < wr.heap.size := kz.lt
          have HKB := Lib.hid kb
          clear kd kz hb kb
          go_wp2_with fail
          refine HAR.out.mono ?_
          rintro e w7 ⟨hb7, gg, nn, S, sn, sc, kk, ok, rfl, ⟨rfl, hg⟩ | ⟨rfl, x, hg, rfl, rfl, rfl, rfl, ho⟩⟩
          · have HNX := Lib.hid (show OSt w P bx (1 + 1) (.int .i64 0) (.bool false) (w7.alloc (.cells (lgV gg nn (.slice S sn sc)).toArray 39)) from by
              have hbb := below_next HB.out hb7 HB.out.size
              refine ⟨(HKD.out.kept hb7).alloc _, (HKZ.out.kept hb7).alloc _, hbb.alloc hbb.size _, ?_⟩
              rw [HST.out, hg, HT.out]
              exact best_kept (P := P) (st := none) ⟨rfl, rfl, HKB.out⟩ (hb7.alloc (Nat.le_trans (Nat.le_refl _) hb7.size) _))
            clear hb7 hg p0 hlt
            unfold lgV
            go_wp2_with fail
            go_roundw
            case rel => exact ⟨1 + 1, by omega, by go_num, HNX.out⟩
            case measure => simp [intOf]
          · have kb := HKB.out.kept hb7
            have HLK := Lib.hid (fun (q : Int) (hq : q = ((1 : Nat) : Int)) (o : Obj) => best_lies (k := 1) (HKD.out.kept hb7) (HKZ.out.kept hb7) (below_next HB.out hb7 HB.out.size) kb (ho.more HB.out.size) (by rw [HST.out, hg, HT.out]; rfl) (.int .i64 (((P.d1).length - x.rest.length : Nat) : Int)) rfl q hq o)
            obtain ⟨z0, z1, z2, z3, z4, z5, z6, z7, z8⟩ := kb.nine
            obtain ⟨u0, u1, u2, u3, u4, u5, u6, u7, u8⟩ := kb.nine_free
            have hl2 : w.heap.size + 1 + 1 < w7.heap.size := kb.lt
            clear hb7 hg p0 hlt ho kb
            unfold lgV
            go_wp2_with fail
            go_roundw
            case rel => exact ⟨1 + 1, by omega, by go_num, HLK.out _ rfl _⟩
            case measure => simp [intOf]
        | some y =>
          obtain ⟨a, y⟩ := y
          obtain ⟨L, lc, rfl, rfl, kb, hoy⟩ := hbest
          have HT := Lib.hid hst.symm
          have HOY := Lib.hid hoy
          clear hst hoy
          have HKD := Lib.hid kd
          have HKZ := Lib.hid kz
          have HB := Lib.hid hb
          have HAR := Lib.hid (refArea5 A1 n1 c1 P.d1 wr (HS1.out.below hb) HLB.out.2)
          have HST := Lib.hid (show sts P (1 + 1) = Lg.upd (sts P 1) ((1 : Nat) : Int) (Lg.good P.d1) from rfl)
          have p0 : wr.cell? ⟨w.heap.size, 2, none⟩ = some (.slice A1 n1 c1) := by
            have := kd.at_ (i := 2) (u := .slice A1 n1 c1) (by rw [HBX.out]; rfl)
            exact this
          have hlt : w.heap.size + 1 < wr.heap.size := kz.lt
          have HKB := Lib.hid kb
          clear kd kz hb kb
          go_wp2_with fail
          refine HAR.out.mono ?_
          rintro e w7 ⟨hb7, gg, nn, S, sn, sc, kk, ok, rfl, ⟨rfl, hg⟩ | ⟨rfl, x, hg, rfl, rfl, rfl, rfl, ho⟩⟩
          · have HNX := Lib.hid (show OSt w P bx (1 + 1) (.int .i64 (((P.data a).length - y.rest.length : Nat) : Int)) (.bool true) (w7.alloc (.cells (lgV gg nn (.slice S sn sc)).toArray 39)) from by
              have hbb := below_next HB.out hb7 HB.out.size
              refine ⟨(HKD.out.kept hb7).alloc _, (HKZ.out.kept hb7).alloc _, hbb.alloc hbb.size _, ?_⟩
              rw [HST.out, hg, HT.out]
              exact best_kept (P := P) (st := some (a, y)) ⟨L, lc, rfl, rfl, HKB.out, HOY.out⟩ (hb7.alloc (Nat.le_trans (Nat.le_refl _) hb7.size) _))
            clear hb7 hg p0 hlt
            unfold lgV
            go_wp2_with fail
            go_roundw
            case rel => exact ⟨1 + 1, by omega, by go_num, HNX.out⟩
            case measure => simp [intOf]
          · by_cases hc : y.gen < x.gen
            · have yc : (y.gen : Int) < (x.gen : Int) := by omega
              have HC := Lib.hid hc
              clear hc
              have kb := HKB.out.kept hb7
              have HLK := Lib.hid (fun (q : Int) (hq : q = ((1 : Nat) : Int)) (o : Obj) => best_lies (k := 1) (HKD.out.kept hb7) (HKZ.out.kept hb7) (below_next HB.out hb7 HB.out.size) kb (ho.more HB.out.size) (by rw [HST.out, hg, HT.out]; simp only [Lg.upd]; rw [if_pos HC.out]) (.int .i64 (((P.d1).length - x.rest.length : Nat) : Int)) rfl q hq o)
              obtain ⟨z0, z1, z2, z3, z4, z5, z6, z7, z8⟩ := kb.nine
              obtain ⟨u0, u1, u2, u3, u4, u5, u6, u7, u8⟩ := kb.nine_free
              have hl2 : w.heap.size + 1 + 1 < w7.heap.size := kb.lt
              clear hb7 hg p0 hlt ho kb
              unfold lgV
              go_wp2_with fail
              go_roundw
              case rel => exact ⟨1 + 1, by omega, by go_num, HLK.out _ rfl _⟩
              case measure => simp [intOf]
            · have yc : ¬ (y.gen : Int) < (x.gen : Int) := by omega
              have HNX := Lib.hid (show OSt w P bx (1 + 1) (.int .i64 (((P.data a).length - y.rest.length : Nat) : Int)) (.bool true) (w7.alloc (.cells (lgV x.gen x.laid (.slice S x.list.length sc)).toArray 39)) from by
                have hbb := below_next HB.out hb7 HB.out.size
                refine ⟨(HKD.out.kept hb7).alloc _, (HKZ.out.kept hb7).alloc _, hbb.alloc hbb.size _, ?_⟩
                rw [HST.out, hg, HT.out]; simp only [Lg.upd]; rw [if_neg hc]
                exact best_kept (P := P) (st := some (a, y)) ⟨L, lc, rfl, rfl, HKB.out, HOY.out⟩ (hb7.alloc (Nat.le_trans (Nat.le_refl _) hb7.size) _))
              have kb := HKB.out.kept hb7
              obtain ⟨z0, z1, z2, z3, z4, z5, z6, z7, z8⟩ := kb.nine
              have hl2 : w.heap.size + 1 + 1 < w7.heap.size := kb.lt
              clear hb7 hg p0 hlt ho kb hc
              unfold lgV
              go_wp2_with fail
              go_roundw
              case rel => exact ⟨1 + 1, by omega, by go_num, HNX.out⟩
              case measure => simp [intOf]
    · obtain rfl : k = 2 := by omega
      rename World => wr
      have hbest : OBest w P (Lg.best P) _ _ wr := hbest
      have HKD := Lib.hid kd
      have HKZ := Lib.hid kz
      have HB := Lib.hid hb
      obtain ⟨p0, p1, p2, p3, p4⟩ := (show Bk wr w.heap.size 36 [.int .i64 P.power, .slice A0 n0 c0, .slice A1 n1 c1, .int .i64 P.s0, .int .i64 P.s1] by rw [← HBX.out]; exact kd).five
      have hlt : w.heap.size < wr.heap.size := kd.lt
      have hlz : w.heap.size + 1 < wr.heap.size := kz.lt
      have HLT := Lib.hid hlz
      cases hbb : Lg.best P with
      | none =>
        rw [hbb] at hbest
        obtain ⟨rfl, rfl, -⟩ := hbest
        obtain ⟨r, hr⟩ : ∃ r, r = Lg.lay P 0 1 [] := ⟨_, rfl⟩
        have HRE := Lib.hid (show R = (⟨r.1, 0, 1, 0, []⟩, r.2) by rw [HRR.out, Lg.opn_none hbb, hr])
        have HLD := Lib.hid (show Calls Tryd.prog 38 #[.agg #[.int .i64 P.power, .slice A0 n0 c0, .slice A1 n1 c1, .int .i64 P.s0, .int .i64 P.s1], .int .i64 0, .int .i64 1, .slice none 0 0] wr (DiskS A0 A1 r wr) from by
          rw [hr]
          have hwl := Lg.whole_le (g := 1) (n := 0) (ls := []) (by omega) (by omega) (by simp)
          simp only [rowsW] at hwl
          have e0 := HS0.out.len
          have e1 := HS1.out.len
          have := HLB.out
          exact refLaid P 0 1 A0 A1 n0 c0 n1 c1 none 0 0 [] wr (HS0.out.below HB.out) (HS1.out.below HB.out) ⟨rfl, [], Rd.nil_ _ _, by simp⟩ HP.out (fun a e => Nat.lt_of_lt_of_le (HA.out.1 a e) HB.out.size) (fun a e => Nat.lt_of_lt_of_le (HA.out.2 a e) HB.out.size) (by omega) (by omega) (by simp) (by show P.d0.length + (Lg.whole 1 0 []).length ≤ _; omega) (by show P.d1.length + (Lg.whole 1 0 []).length ≤ _; omega))
        clear kd kz hb hr hbb hk2 hk
        go_wp2_with fail
        refine HLD.out.mono ?_
        rintro e w8 ⟨D0, m0, e0, D1, m1, e1, rfl, s0, s1, hb8, f0, f1⟩
        have HZ8 := Lib.hid (HKZ.out.kept hb8)
        have HOUT := Lib.hid (log_out (A0 := A0) (A1 := A1) (a := 0) (g := 1) (n := 0) (L := none) (lc := 0) (ls := []) (below_next HB.out hb8 HB.out.size) s0 s1 ⟨rfl, [], World.ownsRow_nil _ _ _ _, by simp⟩ HZ8.out HA.out.1 HA.out.2 (f0.imp id (fun f a e => ⟨by have := (f a e).1; have := HLT.out; omega, (f a e).2⟩)) (f1.imp id (fun f a e => ⟨by have := (f a e).1; have := HLT.out; omega, (f a e).2⟩)) r.2)
        obtain ⟨z0, z1, z2, z3, z4, z5, z6, z7, z8⟩ := HZ8.out.nine
        obtain ⟨u0, u1, u2, u3, u4, u5, u6, u7, u8⟩ := HZ8.out.nine_free
        have hl8 : w.heap.size + 1 < w8.heap.size := HZ8.out.lt
        clear s0 s1 f0 f1 hb8 p0 p1 p2 p3 p4 hlt hlz
        go_wp2_with fail
        refine bodyPost_ret_by (results_row_tmp rfl _ _ (w.heap.size + 1) 39 _ _ rfl (HOUT.out.1.alloc _) Tryd.underlying39 rfl info_log9) rfl ?_
        rw [HRE.out]
        exact HOUT.out.2.alloc _
      | some y =>
        obtain ⟨a, x⟩ := y
        rw [hbb] at hbest
        obtain ⟨L, lc, rfl, rfl, kb, ho⟩ := hbest
        obtain ⟨ha, hgx⟩ := Lg.best_some hbb
        have hxs := (Lg.area_spec (Lg.good_some hgx).1).1
        have hrl : x.rest.length ≤ (P.data a).length := by rw [hxs, List.length_append]; omega
        have HBB := Lib.hid hbb
        have HKB := Lib.hid kb
        have HO := Lib.hid ho
        obtain ⟨z0, z1, z2, z3, z4, z5, z6, z7, z8⟩ := kb.nine
        obtain ⟨u0, u1, u2, u3, u4, u5, u6, u7, u8⟩ := kb.nine_free
        obtain ⟨q0, q1, q2, q3, q4, q5, q6, q7, q8⟩ := kz.nine
        obtain ⟨v0, v1, v2, v3, v4, v5, v6, v7, v8⟩ := kz.nine_free
        have hlb : w.heap.size + 1 + 1 < wr.heap.size := kb.lt
        have e0 := HS0.out.len
        have e1 := HS1.out.len
        clear kb ho kd kz hb hbb hk2 hk hxs hgx
        have HBD := Lib.hid (best_disk HB.out (HS0.out.below HB.out) (HS1.out.below HB.out) HO.out HKZ.out HKB.out (fun a e => by have := HA.out.1 a e; omega) (fun a e => by have := HA.out.2 a e; omega) (.int .i64 P.power) (.slice A0 n0 c0) (.slice A1 n1 c1) (.int .i64 P.s0) (.int .i64 P.s1))
        by_cases hr : x.rest.length = 0
        · have HOUT := Lib.hid (log_out (A0 := A0) (A1 := A1) (Q := P) (a := a) (g := x.gen) (n := x.laid) HBD.out.1 HBD.out.2.1 HBD.out.2.2.1 HBD.out.2.2.2.1 HBD.out.2.2.2.2.1 HA.out.1 HA.out.2 (.inl rfl) (.inl rfl) 0)
          rcases ha with rfl | rfl
          · obtain ⟨en, hen⟩ : ∃ en : Nat, en = (P.data 0).length - x.rest.length := ⟨_, rfl⟩
            rw [← hen]
            have hd : P.data 0 = P.d0 := rfl
            have y1 : ¬ (en : Int) < (n0 : Int) := by rw [hd] at hen hrl; omega
            have HRE := Lib.hid (show R = (⟨P, 0, x.gen, x.laid, x.list⟩, 0) by rw [HRR.out]; unfold Lg.opn; rw [HBB.out]; exact if_pos hr)
            clear hr hen hd hrl e0 e1
            go_wp2_with fail
            refine bodyPost_ret_by (results_row_tmp rfl _ _ (w.heap.size + 1) 39 _ _ rfl HOUT.out.1 Tryd.underlying39 rfl info_log9) rfl ?_
            rw [HRE.out]
            exact HOUT.out.2
          · obtain ⟨en, hen⟩ : ∃ en : Nat, en = (P.data 1).length - x.rest.length := ⟨_, rfl⟩
            rw [← hen]
            have hd : P.data 1 = P.d1 := rfl
            have y1 : ¬ (en : Int) < (n1 : Int) := by rw [hd] at hen hrl; omega
            have HRE := Lib.hid (show R = (⟨P, 1, x.gen, x.laid, x.list⟩, 0) by rw [HRR.out]; unfold Lg.opn; rw [HBB.out]; exact if_pos hr)
            clear hr hen hd hrl e0 e1
            go_wp2_with fail
            refine bodyPost_ret_by (results_row_tmp rfl _ _ (w.heap.size + 1) 39 _ _ rfl HOUT.out.1 Tryd.underlying39 rfl info_log9) rfl ?_
            rw [HRE.out]
            exact HOUT.out.2
        · obtain ⟨wl, hwl⟩ : ∃ wl, wl = (((((wr.setCell ⟨w.heap.size + 1 + 1, 0, none⟩ (.int .i64 P.power)).setCell ⟨w.heap.size + 1 + 1, 1, none⟩ (.slice A0 n0 c0)).setCell ⟨w.heap.size + 1 + 1, 2, none⟩ (.slice A1 n1 c1)).setCell ⟨w.heap.size + 1 + 1, 3, none⟩ (.int .i64 P.s0)).setCell ⟨w.heap.size + 1 + 1, 4, none⟩ (.int .i64 P.s1)) := ⟨_, rfl⟩
          have HW := Lib.hid (show Below w.heap.size w wl ∧ Sl wl A0 n0 c0 P.d0 ∧ Sl wl A1 n1 c1 P.d1 ∧ OwnRs wl w.heap.size L x.list.length lc x.list ∧ Bk wl (w.heap.size + 1) 39 (lgV 0 0 (.slice none 0 0)) ∧ Bk wl (w.heap.size + 1 + 1) 39 [.int .i64 P.power, .slice A0 n0 c0, .slice A1 n1 c1, .int .i64 P.s0, .int .i64 P.s1, .int .i64 a, .int .i64 (x.gen : Int), .int .i64 (x.laid : Int), .slice L x.list.length lc] ∧ wl.heap.size = wr.heap.size from by rw [hwl]; exact HBD.out)
          have HWL := Lib.hid hwl
          clear hwl
          rcases ha with rfl | rfl
          · obtain ⟨en, hen⟩ : ∃ en : Nat, en = (P.data 0).length - x.rest.length := ⟨_, rfl⟩
            have hd : P.data 0 = P.d0 := rfl
            obtain ⟨r, hr2⟩ : ∃ r, r = P.trim 0 (en : Int) := ⟨_, rfl⟩
            have HRE := Lib.hid (show R = (⟨r.1, 0, x.gen, x.laid, x.list⟩, r.2) by rw [HRR.out, hr2, hen]; unfold Lg.opn; rw [HBB.out]; exact if_neg hr)
            rw [← hen]
            have y1 : (en : Int) < (n0 : Int) := by rw [hd] at hen hrl; omega
            have HTR := Lib.hid (show Calls Tryd.prog 39 #[.agg #[.int .i64 P.power, .slice A0 n0 c0, .slice A1 n1 c1, .int .i64 P.s0, .int .i64 P.s1], .int .i64 0, .int .i64 en] wl (DiskS A0 A1 r wl) from by
              rw [hr2]
              have := HLB.out
              exact refTrim P.power P.s0 P.s1 0 en A0 A1 n0 c0 n1 c1 P.d0 P.d1 wl HW.out.2.1 HW.out.2.2.1 (by omega) (by omega) HP.out)
            clear hr hen hd hrl e0 e1 hr2
            go_wp2_with fail
            rw [← HWL.out]
            refine HTR.out.mono ?_
            rintro e w8 ⟨D0, m0, e0, D1, m1, e1, rfl, s0, s1, hb8, f0, f1⟩
            have kb8 := HW.out.2.2.2.2.2.1.kept hb8
            have kz8 := HW.out.2.2.2.2.1.kept hb8
            have hwz : wl.heap.size = wr.heap.size := HW.out.2.2.2.2.2.2
            have HB8 := Lib.hid (best_disk (below_next HW.out.1 hb8 HW.out.1.size) s0 s1 (HW.out.2.2.2.1.below hb8) kz8 kb8
              (fun a e => by
                rcases f0 with q | q
                · rw [q] at e; have := HA.out.1 a e; omega
                · have := (q a e).1; omega)
              (fun a e => by
                rcases f1 with q | q
                · rw [q] at e; have := HA.out.2 a e; omega
                · have := (q a e).1; omega) (.int .i64 r.1.power) (.slice D0 m0 e0) (.slice D1 m1 e1) (.int .i64 r.1.s0) (.int .i64 r.1.s1))
            have HOUT := Lib.hid (log_out (A0 := A0) (A1 := A1) (Q := r.1) (a := 0) (g := x.gen) (n := x.laid) HB8.out.1 HB8.out.2.1 HB8.out.2.2.1 HB8.out.2.2.2.1 HB8.out.2.2.2.2.1 HA.out.1 HA.out.2
              (f0.imp id (fun f a e => ⟨by have := (f a e).1; omega, by rw [HB8.out.2.2.2.2.2.2]; exact (f a e).2⟩)) (f1.imp id (fun f a e => ⟨by have := (f a e).1; omega, by rw [HB8.out.2.2.2.2.2.2]; exact (f a e).2⟩)) r.2)
            clear z0 z1 z2 z3 z4 z5 z6 z7 z8 u0 u1 u2 u3 u4 u5 u6 u7 u8 q0 q1 q2 q3 q4 q5 q6 q7 q8 v0 v1 v2 v3 v4 v5 v6 v7 v8 p0 p1 p2 p3 p4 hlt hlz
            obtain ⟨z0, z1, z2, z3, z4, z5, z6, z7, z8⟩ := kb8.nine
            obtain ⟨u0, u1, u2, u3, u4, u5, u6, u7, u8⟩ := kb8.nine_free
            obtain ⟨q0, q1, q2, q3, q4, q5, q6, q7, q8⟩ := kz8.nine
            obtain ⟨v0, v1, v2, v3, v4, v5, v6, v7, v8⟩ := kz8.nine_free
            have hl8 : w.heap.size + 1 + 1 < w8.heap.size := kb8.lt
            have hl9 : w.heap.size + 1 < w8.heap.size := kz8.lt
            clear s0 s1 hb8 f0 f1 kb8 kz8 hwz hlb
            go_wp2_with fail
            refine bodyPost_ret_by (results_row_tmp rfl _ _ (w.heap.size + 1) 39 _ _ rfl (HOUT.out.1.alloc _) Tryd.underlying39 rfl info_log9) rfl ?_
            rw [HRE.out]
            exact HOUT.out.2.alloc _
          · obtain ⟨en, hen⟩ : ∃ en : Nat, en = (P.data 1).length - x.rest.length := ⟨_, rfl⟩
            have hd : P.data 1 = P.d1 := rfl
            obtain ⟨r, hr2⟩ : ∃ r, r = P.trim 1 (en : Int) := ⟨_, rfl⟩
            have HRE := Lib.hid (show R = (⟨r.1, 1, x.gen, x.laid, x.list⟩, r.2) by rw [HRR.out, hr2, hen]; unfold Lg.opn; rw [HBB.out]; exact if_neg hr)
            rw [← hen]
            have y1 : (en : Int) < (n1 : Int) := by rw [hd] at hen hrl; omega
            have HTR := Lib.hid (show Calls Tryd.prog 39 #[.agg #[.int .i64 P.power, .slice A0 n0 c0, .slice A1 n1 c1, .int .i64 P.s0, .int .i64 P.s1], .int .i64 1, .int .i64 en] wl (DiskS A0 A1 r wl) from by
              rw [hr2]
              have := HLB.out
              exact refTrim P.power P.s0 P.s1 1 en A0 A1 n0 c0 n1 c1 P.d0 P.d1 wl HW.out.2.1 HW.out.2.2.1 (by omega) (by omega) HP.out)
            clear hr hen hd hrl e0 e1 hr2
            go_wp2_with fail
            rw [← HWL.out]
            refine HTR.out.mono ?_
            rintro e w8 ⟨D0, m0, e0, D1, m1, e1, rfl, s0, s1, hb8, f0, f1⟩
            have kb8 := HW.out.2.2.2.2.2.1.kept hb8
            have kz8 := HW.out.2.2.2.2.1.kept hb8
            have hwz : wl.heap.size = wr.heap.size := HW.out.2.2.2.2.2.2
            have HB8 := Lib.hid (best_disk (below_next HW.out.1 hb8 HW.out.1.size) s0 s1 (HW.out.2.2.2.1.below hb8) kz8 kb8
              (fun a e => by
                rcases f0 with q | q
                · rw [q] at e; have := HA.out.1 a e; omega
                · have := (q a e).1; omega)
              (fun a e => by
                rcases f1 with q | q
                · rw [q] at e; have := HA.out.2 a e; omega
                · have := (q a e).1; omega) (.int .i64 r.1.power) (.slice D0 m0 e0) (.slice D1 m1 e1) (.int .i64 r.1.s0) (.int .i64 r.1.s1))
            have HOUT := Lib.hid (log_out (A0 := A0) (A1 := A1) (Q := r.1) (a := 1) (g := x.gen) (n := x.laid) HB8.out.1 HB8.out.2.1 HB8.out.2.2.1 HB8.out.2.2.2.1 HB8.out.2.2.2.2.1 HA.out.1 HA.out.2
              (f0.imp id (fun f a e => ⟨by have := (f a e).1; omega, by rw [HB8.out.2.2.2.2.2.2]; exact (f a e).2⟩)) (f1.imp id (fun f a e => ⟨by have := (f a e).1; omega, by rw [HB8.out.2.2.2.2.2.2]; exact (f a e).2⟩)) r.2)
            clear z0 z1 z2 z3 z4 z5 z6 z7 z8 u0 u1 u2 u3 u4 u5 u6 u7 u8 q0 q1 q2 q3 q4 q5 q6 q7 q8 v0 v1 v2 v3 v4 v5 v6 v7 v8 p0 p1 p2 p3 p4 hlt hlz
            obtain ⟨z0, z1, z2, z3, z4, z5, z6, z7, z8⟩ := kb8.nine
            obtain ⟨u0, u1, u2, u3, u4, u5, u6, u7, u8⟩ := kb8.nine_free
            obtain ⟨q0, q1, q2, q3, q4, q5, q6, q7, q8⟩ := kz8.nine
            obtain ⟨v0, v1, v2, v3, v4, v5, v6, v7, v8⟩ := kz8.nine_free
            have hl8 : w.heap.size + 1 + 1 < w8.heap.size := kb8.lt
            have hl9 : w.heap.size + 1 < w8.heap.size := kz8.lt
            clear s0 s1 hb8 f0 f1 kb8 kz8 hwz hlb
            go_wp2_with fail
            refine bodyPost_ret_by (results_row_tmp rfl _ _ (w.heap.size + 1) 39 _ _ rfl (HOUT.out.1.alloc _) Tryd.underlying39 rfl info_log9) rfl ?_
            rw [HRE.out]
            exact HOUT.out.2.alloc _
end Go.Proofs.YtmiejaohkgemnaaDoor
