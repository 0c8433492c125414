import Derived.Test.YtmiejaohkgemnaaDoorMRefLogC
import Derived.Test.YtmiejaohkgemnaaDoorMLaw

/-
  The reference's log: what its calls hand back; Sync. Walks; no statement.
-/
namespace Go.Proofs.YtmiejaohkgemnaaDoor
open Go.RowKit
open Pk Sh
set_option linter.unusedVariables false
set_option maxRecDepth 100000

/-- what a call on a log hands back: the records' rows are those that were there, or new -/
def LogT (A0 A1 L0 : Option Addr) (lc0 : Nat) (ls0 : List (List UInt8)) (r : Lg.PL × Int) (w : World) (e : Ending) (w' : World) : Prop :=
  ∃ D0 m0 e0 D1 m1 e1 L lc, e = .returned (.tuple #[.agg (lgC r.1.D.power D0 m0 e0 D1 m1 e1 r.1.D.s0 r.1.D.s1 r.1.a r.1.gen r.1.n L r.1.list.length lc).toArray, .int .i64 r.2]) ∧ Sl w' D0 m0 e0 r.1.D.d0 ∧ Sl w' D1 m1 e1 r.1.D.d1 ∧ Below w.heap.size w w' ∧
    ((L = L0 ∧ lc = lc0 ∧ r.1.list = ls0) ∨ OwnRs w' w.heap.size L r.1.list.length lc r.1.list) ∧ (D0 = A0 ∨ ∀ a, D0 = some a → w.heap.size ≤ a.block ∧ a.block < w'.heap.size) ∧ (D1 = A1 ∨ ∀ a, D1 = some a → w.heap.size ≤ a.block ∧ a.block < w'.heap.size)
theorem LogT.alloc {A0 A1 L0 : Option Addr} {lc0 : Nat} {ls0 : List (List UInt8)} {r : Lg.PL × Int} {w X : World} {e : Ending} (h : LogT A0 A1 L0 lc0 ls0 r w e X) (o : Obj) : LogT A0 A1 L0 lc0 ls0 r w e (X.alloc o) := by
  obtain ⟨D0, m0, e0, D1, m1, e1, L, lc, he, s0, s1, hb, ho, f0, f1⟩ := h
  have hk := (Below.refl X.heap.size X).alloc (Nat.le_refl _) o
  exact ⟨D0, m0, e0, D1, m1, e1, L, lc, he, s0.below hk, s1.below hk, below_next hb hk hb.size, ho.imp id (fun h => h.below hk), f0.imp id (fun f a e => ⟨(f a e).1, Nat.lt_of_lt_of_le (f a e).2 hk.size⟩), f1.imp id (fun f a e => ⟨(f a e).1, Nat.lt_of_lt_of_le (f a e).2 hk.size⟩)⟩
/-- a log is handed back -/
theorem log_out2 {w X : World} {A0 A1 L0 D0 D1 L : Option Addr} {lc0 : Nat} {ls0 : List (List UInt8)} {Q : PD} {a : Int} {g n m0 e0 m1 e1 lc : Nat} {ls : List (List UInt8)} (hw : Below w.heap.size w X) (s0 : Sl X D0 m0 e0 Q.d0) (s1 : Sl X D1 m1 e1 Q.d1) (ho : (L = L0 ∧ lc = lc0 ∧ ls = ls0) ∨ OwnRs X w.heap.size L ls.length lc ls) {x0 x1 x2 x3 x4 x5 x6 x7 x8 : Value} (kz : Bk X (w.heap.size + 1) 39 [x0, x1, x2, x3, x4, x5, x6, x7, x8])
    (hA0 : ∀ a, A0 = some a → a.block < w.heap.size) (hA1 : ∀ a, A1 = some a → a.block < w.heap.size) (f0 : D0 = A0 ∨ ∀ a, D0 = some a → w.heap.size + 2 ≤ a.block ∧ a.block < X.heap.size) (f1 : D1 = A1 ∨ ∀ a, D1 = some a → w.heap.size + 2 ≤ a.block ∧ a.block < X.heap.size) (er : Int) :
    Bk (((((((((X.setCell ⟨w.heap.size + 1, 0, none⟩ (.int .i64 Q.power)).setCell ⟨w.heap.size + 1, 1, none⟩ (.slice D0 m0 e0)).setCell ⟨w.heap.size + 1, 2, none⟩ (.slice D1 m1 e1)).setCell ⟨w.heap.size + 1, 3, none⟩ (.int .i64 Q.s0)).setCell ⟨w.heap.size + 1, 4, none⟩ (.int .i64 Q.s1)).setCell ⟨w.heap.size + 1, 5, none⟩ (.int .i64 a)).setCell ⟨w.heap.size + 1, 6, none⟩ (.int .i64 (g : Int))).setCell ⟨w.heap.size + 1, 7, none⟩ (.int .i64 (n : Int))).setCell ⟨w.heap.size + 1, 8, none⟩ (.slice L ls.length lc)) (w.heap.size + 1) 39 (lgC Q.power D0 m0 e0 D1 m1 e1 Q.s0 Q.s1 a g n L ls.length lc) ∧ LogT A0 A1 L0 lc0 ls0 (⟨Q, a, g, n, ls⟩, er) w (.returned (.tuple #[.agg (lgC Q.power D0 m0 e0 D1 m1 e1 Q.s0 Q.s1 a g n L ls.length lc).toArray, .int .i64 er])) (((((((((X.setCell ⟨w.heap.size + 1, 0, none⟩ (.int .i64 Q.power)).setCell ⟨w.heap.size + 1, 1, none⟩ (.slice D0 m0 e0)).setCell ⟨w.heap.size + 1, 2, none⟩ (.slice D1 m1 e1)).setCell ⟨w.heap.size + 1, 3, none⟩ (.int .i64 Q.s0)).setCell ⟨w.heap.size + 1, 4, none⟩ (.int .i64 Q.s1)).setCell ⟨w.heap.size + 1, 5, none⟩ (.int .i64 a)).setCell ⟨w.heap.size + 1, 6, none⟩ (.int .i64 (g : Int))).setCell ⟨w.heap.size + 1, 7, none⟩ (.int .i64 (n : Int))).setCell ⟨w.heap.size + 1, 8, none⟩ (.slice L ls.length lc)) := by
  have hc : Chg (fun i => i = w.heap.size + 1) X (((((((((X.setCell ⟨w.heap.size + 1, 0, none⟩ (.int .i64 Q.power)).setCell ⟨w.heap.size + 1, 1, none⟩ (.slice D0 m0 e0)).setCell ⟨w.heap.size + 1, 2, none⟩ (.slice D1 m1 e1)).setCell ⟨w.heap.size + 1, 3, none⟩ (.int .i64 Q.s0)).setCell ⟨w.heap.size + 1, 4, none⟩ (.int .i64 Q.s1)).setCell ⟨w.heap.size + 1, 5, none⟩ (.int .i64 a)).setCell ⟨w.heap.size + 1, 6, none⟩ (.int .i64 (g : Int))).setCell ⟨w.heap.size + 1, 7, none⟩ (.int .i64 (n : Int))).setCell ⟨w.heap.size + 1, 8, none⟩ (.slice L ls.length lc)) := nine_chg (F := fun i => i = w.heap.size + 1) rfl _ _ _ _ _ _ _ _ _
  refine ⟨nine_set kz _ _ _ _ _ _ _ _ _, D0, m0, e0, D1, m1, e1, L, lc, rfl, hc.sl s0 ?_, hc.sl s1 ?_, nine_below hw (by omega) _ _ _ _ _ _ _ _ _, ho.imp id (fun h => own_nine h kz _ _ _ _ _ _ _ _ _), f0.imp id (fun f a e => ⟨Nat.le_trans (by omega) (f a e).1, Nat.lt_of_lt_of_le (f a e).2 hc.size⟩), f1.imp id (fun f a e => ⟨Nat.le_trans (by omega) (f a e).1, Nat.lt_of_lt_of_le (f a e).2 hc.size⟩)⟩
  · intro a e
    rcases f0 with k | k
    · rw [k] at e; have := hA0 a e; omega
    · have := (k a e).1; omega
  · intro a e
    rcases f1 with k | k
    · rw [k] at e; have := hA1 a e; omega
    · have := (k a e).1; omega
/-- a disk is laid into the call's own log -/
theorem box_disk {w X : World} {A0 A1 D0 D1 : Option Addr} {l0 l1 : List UInt8} {m0 e0 m1 e1 : Nat} (hw : Below w.heap.size w X) (s0 : Sl X D0 m0 e0 l0) (s1 : Sl X D1 m1 e1 l1) {t : TypeId} {cs : List Value} {x0 x1 x2 x3 x4 x5 x6 x7 x8 : Value} (kz : Bk X (w.heap.size + 1) t cs) (kb : Bk X w.heap.size 39 [x0, x1, x2, x3, x4, x5, x6, x7, x8])
    (hA0 : ∀ a, A0 = some a → a.block < w.heap.size) (hA1 : ∀ a, A1 = some a → a.block < w.heap.size) (f0 : D0 = A0 ∨ ∀ a, D0 = some a → w.heap.size + 2 ≤ a.block ∧ a.block < X.heap.size) (f1 : D1 = A1 ∨ ∀ a, D1 = some a → w.heap.size + 2 ≤ a.block ∧ a.block < X.heap.size) (a b c d e : Value) :
    let Y := (((((X.setCell ⟨w.heap.size, 0, none⟩ a).setCell ⟨w.heap.size, 1, none⟩ b).setCell ⟨w.heap.size, 2, none⟩ c).setCell ⟨w.heap.size, 3, none⟩ d).setCell ⟨w.heap.size, 4, none⟩ e)
    Below w.heap.size w Y ∧ Sl Y D0 m0 e0 l0 ∧ Sl Y D1 m1 e1 l1 ∧ Bk Y (w.heap.size + 1) t cs ∧ Bk Y w.heap.size 39 [a, b, c, d, e, x5, x6, x7, x8] ∧ (D0 = A0 ∨ ∀ a, D0 = some a → w.heap.size + 2 ≤ a.block ∧ a.block < Y.heap.size) ∧ (D1 = A1 ∨ ∀ a, D1 = some a → w.heap.size + 2 ≤ a.block ∧ a.block < Y.heap.size) := by
  intro Y
  have hc : Chg (fun i => i = w.heap.size) X Y := five_chg (F := fun i => i = w.heap.size) rfl _ _ _ _ _
  have hz : Y.heap.size = X.heap.size := by simp [Y]
  refine ⟨five_below hw (by omega) _ _ _ _ _, hc.sl s0 ?_, hc.sl s1 ?_, kz.five_far (by omega) _ _ _ _ _, ((((kb.set 0 a).set 1 b).set 2 c).set 3 d).set 4 e, by rw [hz]; exact f0, by rw [hz]; exact f1⟩
  · intro a e
    rcases f0 with k | k
    · rw [k] at e; have := hA0 a e; omega
    · have := (k a e).1; omega
  · intro a e
    rcases f1 with k | k
    · rw [k] at e; have := hA1 a e; omega
    · have := (k a e).1; omega
/-- an empty log's cells -/
def lg0 : List Value := [.int .i64 0, .slice none 0 0, .slice none 0 0, .int .i64 0, .int .i64 0, .int .i64 0, .int .i64 0, .int .i64 0, .slice none 0 0]
/-- the two blocks that a call on a log makes -/
theorem log_two (w : World) (cs : List Value) : Bk ((w.alloc (.cells cs.toArray 39)).alloc (.cells lg0.toArray 39)) w.heap.size 39 cs ∧ Bk ((w.alloc (.cells cs.toArray 39)).alloc (.cells lg0.toArray 39)) (w.heap.size + 1) 39 lg0 ∧ Below w.heap.size w ((w.alloc (.cells cs.toArray 39)).alloc (.cells lg0.toArray 39)) :=
  ⟨(Bk.new w _ cs).alloc _, bk_new2 w _ lg0 _, ((Below.refl _ _).alloc (Nat.le_refl _) _).alloc (by simp) _⟩
set_option maxHeartbeats 3200000 in
theorem refLogSync (Q : Lg.PL) (A0 A1 L : Option Addr) (n0 c0 n1 c1 lc : Nat) (w : World) (h0 : Sl w A0 n0 c0 Q.D.d0) (h1 : Sl w A1 n1 c1 Q.D.d1) (hp : Q.D.Pw) (hA0 : ∀ a, A0 = some a → a.block < w.heap.size) (hA1 : ∀ a, A1 = some a → a.block < w.heap.size) :
    Calls Tryd.prog 20 #[.agg (lgC Q.D.power A0 n0 c0 A1 n1 c1 Q.D.s0 Q.D.s1 Q.a Q.gen Q.n L Q.list.length lc).toArray] w (LogT A0 A1 L lc Q.list Q.sync w) := by
  obtain ⟨r, hr⟩ : ∃ r, r = Q.D.sync [Q.a] := ⟨_, rfl⟩
  obtain ⟨R, hR⟩ : ∃ R, R = Q.sync := ⟨_, rfl⟩
  rw [← hR]
  have HR := Lib.hid (show R = (⟨r.1, Q.a, Q.gen, Q.n, Q.list⟩, r.2) by rw [hR, hr]; rfl)
  obtain ⟨k1, k2, k3⟩ := log_two w (lgC Q.D.power A0 n0 c0 A1 n1 c1 Q.D.s0 Q.D.s1 Q.a Q.gen Q.n L Q.list.length lc)
  obtain ⟨wb, hwb⟩ : ∃ wb, wb = ((w.alloc (.cells (lgC Q.D.power A0 n0 c0 A1 n1 c1 Q.D.s0 Q.D.s1 Q.a Q.gen Q.n L Q.list.length lc).toArray 39)).alloc (.cells lg0.toArray 39)) := ⟨_, rfl⟩
  rw [← hwb] at k1 k2 k3
  have HS := Lib.hid (show Calls Tryd.prog 45 #[.agg #[.int .i64 Q.D.power, .slice A0 n0 c0, .slice A1 n1 c1, .int .i64 Q.D.s0, .int .i64 Q.D.s1], .slice (some ⟨wb.heap.size, 0, none⟩) 1 1] (wb.alloc (.cells #[.int .i64 Q.a] 3)) (DiskS A0 A1 r wb) from by
    have hb := (Below.refl wb.heap.size wb).alloc (Nat.le_refl _) (.cells #[.int .i64 Q.a] 3)
    have h := refSync Q.D.power Q.D.s0 Q.D.s1 A0 A1 n0 c0 n1 c1 Q.D.d0 Q.D.d1 (some ⟨wb.heap.size, 0, none⟩) 1 1 [Q.a] (wb.alloc (.cells #[.int .i64 Q.a] 3)) ((h0.below k3).below hb) ((h1.below k3).below hb) (Rd.new wb [iv Q.a] 3) (by simp only [maxLen]; omega) hp
    rw [show PD.sync ⟨Q.D.power, Q.D.d0, Q.D.d1, Q.D.s0, Q.D.s1⟩ [Q.a] = r from hr.symm] at h
    exact h.mono fun e w' hd => hd.behind hb)
  have HK := Lib.hid (And.intro k1 (And.intro k2 k3))
  have HA := Lib.hid (And.intro hA0 hA1)
  obtain ⟨p0, p1, p2, p3, p4, p5, p6, p7, p8⟩ := k1.nine
  have hlt : w.heap.size < wb.heap.size := k1.lt
  clear h0 h1 hp hA0 hA1 hr hR k1 k2 k3
  unfold lg0 lgC at hwb
  have HWB := Lib.hid hwb
  clear hwb
  unfold lgC
  go_enter Tryd.func20, Tryd.ntmps20
  go_upto_region 1 with fail
  rw [← HWB.out]
  go_wp2_with fail
  refine HS.out.mono ?_
  rintro e w8 ⟨D0, m0, e0, D1, m1, e1, rfl, s0, s1, hb8, f0, f1⟩
  have kb8 := HK.out.1.kept hb8
  have kz8 := HK.out.2.1.kept hb8
  have hwz : w.heap.size + 1 < wb.heap.size := HK.out.2.1.lt
  have HB8 := Lib.hid (box_disk (below_next HK.out.2.2 hb8 HK.out.2.2.size) s0 s1 kz8 kb8 HA.out.1 HA.out.2 (f0.imp id (fun f a e => ⟨by have := (f a e).1; omega, (f a e).2⟩)) (f1.imp id (fun f a e => ⟨by have := (f a e).1; omega, (f a e).2⟩)) (.int .i64 r.1.power) (.slice D0 m0 e0) (.slice D1 m1 e1) (.int .i64 r.1.s0) (.int .i64 r.1.s1))
  have HOUT := Lib.hid (log_out2 (A0 := A0) (A1 := A1) (L0 := L) (lc0 := lc) (ls0 := Q.list) (Q := r.1) (a := Q.a) (g := Q.gen) (n := Q.n) HB8.out.1 HB8.out.2.1 HB8.out.2.2.1 (.inl ⟨rfl, rfl, rfl⟩) HB8.out.2.2.2.1 HA.out.1 HA.out.2 HB8.out.2.2.2.2.2.1 HB8.out.2.2.2.2.2.2 r.2)
  clear p0 p1 p2 p3 p4 p5 p6 p7 p8
  obtain ⟨z0, z1, z2, z3, z4, z5, z6, z7, z8⟩ := kb8.nine
  obtain ⟨u0, u1, u2, u3, u4, u5, u6, u7, u8⟩ := kb8.nine_free
  obtain ⟨q0, q1, q2, q3, q4, q5, q6, q7, q8⟩ := kz8.nine
  obtain ⟨v0, v1, v2, v3, v4, v5, v6, v7, v8⟩ := kz8.nine_free
  have hl8 : w.heap.size < w8.heap.size := kb8.lt
  have hl9 : w.heap.size + 1 < w8.heap.size := kz8.lt
  clear s0 s1 hb8 f0 f1 kb8 kz8 hwz hlt HS
  go_wp2_with fail
  refine bodyPost_ret_by (results_row_tmp rfl _ _ (w.heap.size + 1) 39 _ _ rfl (HOUT.out.1.alloc _) Tryd.underlying39 rfl info_log9) rfl ?_
  rw [HR.out]
  exact HOUT.out.2.alloc _
end Go.Proofs.YtmiejaohkgemnaaDoor

/-
  The reference's log: Lay. A walk; no statement.
-/
namespace Go.Proofs.YtmiejaohkgemnaaDoor
open Go.RowKit
open Pk Sh
set_option linter.unusedVariables false
set_option maxRecDepth 100000

/-- the call's own log in its box, the result's beside it -/
def Bx (w X : World) (A0 A1 : Option Addr) (l0 l1 : List UInt8) (D0 : Option Addr) (m0 e0 : Nat) (D1 : Option Addr) (m1 e1 : Nat) (cz cs : List Value) : Prop :=
  Below w.heap.size w X ∧ Sl X D0 m0 e0 l0 ∧ Sl X D1 m1 e1 l1 ∧ Bk X (w.heap.size + 1) 39 cz ∧ Bk X w.heap.size 39 cs ∧ (D0 = A0 ∨ ∀ a, D0 = some a → w.heap.size + 2 ≤ a.block ∧ a.block < X.heap.size) ∧ (D1 = A1 ∨ ∀ a, D1 = some a → w.heap.size + 2 ≤ a.block ∧ a.block < X.heap.size)
section
variable {w X Y : World} {A0 A1 D0 D1 : Option Addr} {l0 l1 : List UInt8} {m0 e0 m1 e1 : Nat} {cz cs : List Value}
theorem Bx.kept (h : Bx w X A0 A1 l0 l1 D0 m0 e0 D1 m1 e1 cz cs) (hb : Below X.heap.size X Y) : Bx w Y A0 A1 l0 l1 D0 m0 e0 D1 m1 e1 cz cs := by
  obtain ⟨h1, h2, h3, h4, h5, f0, f1⟩ := h
  exact ⟨below_next h1 hb h1.size, h2.below hb, h3.below hb, h4.kept hb, h5.kept hb, f0.imp id (fun f a e => ⟨(f a e).1, Nat.lt_of_lt_of_le (f a e).2 hb.size⟩), f1.imp id (fun f a e => ⟨(f a e).1, Nat.lt_of_lt_of_le (f a e).2 hb.size⟩)⟩
theorem Bx.alloc (h : Bx w X A0 A1 l0 l1 D0 m0 e0 D1 m1 e1 cz cs) (o : Obj) : Bx w (X.alloc o) A0 A1 l0 l1 D0 m0 e0 D1 m1 e1 cz cs := h.kept ((Below.refl _ _).alloc (Nat.le_refl _) o)
theorem Bx.set (h : Bx w X A0 A1 l0 l1 D0 m0 e0 D1 m1 e1 cz cs) (hA0 : ∀ a, A0 = some a → a.block < w.heap.size) (hA1 : ∀ a, A1 = some a → a.block < w.heap.size) (i : Nat) (v : Value) : Bx w (X.setCell ⟨w.heap.size, i, none⟩ v) A0 A1 l0 l1 D0 m0 e0 D1 m1 e1 cz (cs.set i v) := by
  obtain ⟨h1, h2, h3, h4, h5, f0, f1⟩ := h
  have hc : Chg (fun i => i = w.heap.size) X (X.setCell ⟨w.heap.size, i, none⟩ v) := (Chg.refl (fun i => i = w.heap.size) X).set (g := w.heap.size) (.inl rfl) i v
  have hz : (X.setCell ⟨w.heap.size, i, none⟩ v).heap.size = X.heap.size := by simp
  refine ⟨below_set h1 (Nat.le_refl _) i v, hc.sl h2 ?_, hc.sl h3 ?_, h4.far (by show w.heap.size + 1 ≠ w.heap.size; omega) v, h5.set i v, by rw [hz]; exact f0, by rw [hz]; exact f1⟩
  · intro a e
    rcases f0 with k | k
    · rw [k] at e; have := hA0 a e; omega
    · have := (k a e).1; omega
  · intro a e
    rcases f1 with k | k
    · rw [k] at e; have := hA1 a e; omega
    · have := (k a e).1; omega
end
set_option maxHeartbeats 3200000 in
theorem refLogLay_long (Q : Lg.PL) (A0 A1 L : Option Addr) (n0 c0 n1 c1 lc : Nat) (B : Option Addr) (q qc : Nat) (ls : List (List UInt8)) (w : World) (h0 : Sl w A0 n0 c0 Q.D.d0) (h1 : Sl w A1 n1 c1 Q.D.d1) (hR : RdRows w B q ls) (hp : Q.D.Pw) (hA0 : ∀ a, A0 = some a → a.block < w.heap.size) (hA1 : ∀ a, A1 = some a → a.block < w.heap.size)
    (ha : 0 ≤ Q.a ∧ Q.a ≤ 1) (hq : q ≤ 4294967296) (hg : Q.gen + 1 < 4611686018427387904) (htt : total ls ≤ 1099511627776)
    (b0 : Q.D.d0.length + (Lg.whole (Q.gen + 1) ls.length ls).length ≤ 1099511627776) (b1 : Q.D.d1.length + (Lg.whole (Q.gen + 1) ls.length ls).length ≤ 1099511627776) (hl : Lg.longs ls = true) :
    Calls Tryd.prog 22 #[.agg (lgC Q.D.power A0 n0 c0 A1 n1 c1 Q.D.s0 Q.D.s1 Q.a Q.gen Q.n L Q.list.length lc).toArray, .slice B q qc] w (LogT A0 A1 L lc Q.list (Q, 13) w) := by
  obtain ⟨R, hR2⟩ : ∃ R : Lg.PL × Int, R = (Q, 13) := ⟨_, rfl⟩
  rw [← hR2]
  have HR := Lib.hid hR2
  have HLG := Lib.hid hl
  clear hR2
  obtain ⟨k1, k2, k3⟩ := log_two w (lgC Q.D.power A0 n0 c0 A1 n1 c1 Q.D.s0 Q.D.s1 Q.a Q.gen Q.n L Q.list.length lc)
  obtain ⟨wb, hwb⟩ : ∃ wb, wb = ((w.alloc (.cells (lgC Q.D.power A0 n0 c0 A1 n1 c1 Q.D.s0 Q.D.s1 Q.a Q.gen Q.n L Q.list.length lc).toArray 39)).alloc (.cells lg0.toArray 39)) := ⟨_, rfl⟩
  rw [← hwb] at k1 k2 k3
  have HLO := Lib.hid (show Calls Tryd.prog 42 #[.slice B q qc] wb (fun e w' => e = .returned (.bool (Lg.longs ls)) ∧ Below wb.heap.size wb w') from
    (refLong B q qc ls wb (hR.below k3) (by omega)).mono fun e w' ⟨he, k, hw⟩ => ⟨he, by rw [hw]; exact below_drewN (Below.refl _ _) k⟩)
  rw [HLG.out] at HLO
  have HK := Lib.hid (And.intro k1 (And.intro k2 k3))
  have HA := Lib.hid (And.intro hA0 hA1)
  have HS := Lib.hid (And.intro h0 (And.intro h1 hR))
  have HG := Lib.hid (And.intro hg (And.intro hq htt))
  have HP := Lib.hid hp
  have HBB := Lib.hid (And.intro b0 b1)
  have HRA := Lib.hid ha
  clear hl h0 h1 hR hp hA0 hA1 hq hg htt b0 b1 k1 k2 k3 ha
  unfold lg0 lgC at hwb
  have HWB := Lib.hid hwb
  clear hwb
  unfold lgC
  go_enter Tryd.func22, Tryd.ntmps22
  go_upto_region 1 with fail
  rw [← HWB.out]
  go_wp2_with fail
  refine HLO.out.mono ?_
  rintro e w3 ⟨rfl, hb3⟩
  have kb3 := HK.out.1.kept hb3
  have kz3 := HK.out.2.1.kept hb3
  have HB3 := Lib.hid (below_next HK.out.2.2 hb3 HK.out.2.2.size)
  have HKB := Lib.hid kb3
  have HKZ := Lib.hid kz3
  obtain ⟨p0, p1, p2, p3, p4, p5, p6, p7, p8⟩ := kb3.nine
  have hl3 : w.heap.size < w3.heap.size := kb3.lt
  have hl4 : w.heap.size + 1 < w3.heap.size := kz3.lt
  clear hb3 kb3 kz3 HLO
  have HOUT := Lib.hid (log_out2 (A0 := A0) (A1 := A1) (L0 := L) (lc0 := lc) (ls0 := Q.list) (Q := Q.D) (a := Q.a) (g := Q.gen) (n := Q.n) HB3.out (HS.out.1.below HB3.out) (HS.out.2.1.below HB3.out) (.inl ⟨rfl, rfl, rfl⟩) HKZ.out HA.out.1 HA.out.2 (.inl rfl) (.inl rfl) 13)
  obtain ⟨q0, q1, q2, q3, q4, q5, q6, q7, q8⟩ := HKZ.out.nine
  obtain ⟨v0, v1, v2, v3, v4, v5, v6, v7, v8⟩ := HKZ.out.nine_free
  go_wp2_with fail
  refine bodyPost_ret_by (results_row_tmp rfl _ _ (w.heap.size + 1) 39 _ _ rfl HOUT.out.1 Tryd.underlying39 rfl info_log9) rfl ?_
  rw [HR.out]
  exact HOUT.out.2
set_option maxHeartbeats 3200000 in
theorem refLogLay_short (Q : Lg.PL) (A0 A1 L : Option Addr) (n0 c0 n1 c1 lc : Nat) (B : Option Addr) (q qc : Nat) (ls : List (List UInt8)) (w : World) (h0 : Sl w A0 n0 c0 Q.D.d0) (h1 : Sl w A1 n1 c1 Q.D.d1) (hR : RdRows w B q ls) (hp : Q.D.Pw) (hA0 : ∀ a, A0 = some a → a.block < w.heap.size) (hA1 : ∀ a, A1 = some a → a.block < w.heap.size)
    (ha : 0 ≤ Q.a ∧ Q.a ≤ 1) (hq : q ≤ 4294967296) (hg : Q.gen + 1 < 4611686018427387904) (htt : total ls ≤ 1099511627776)
    (b0 : Q.D.d0.length + (Lg.whole (Q.gen + 1) ls.length ls).length ≤ 1099511627776) (b1 : Q.D.d1.length + (Lg.whole (Q.gen + 1) ls.length ls).length ≤ 1099511627776) (hl : Lg.longs ls = false) :
    Calls Tryd.prog 22 #[.agg (lgC Q.D.power A0 n0 c0 A1 n1 c1 Q.D.s0 Q.D.s1 Q.a Q.gen Q.n L Q.list.length lc).toArray, .slice B q qc] w (LogT A0 A1 L lc Q.list (Q.lay ls) w) := by
  have HLG := Lib.hid hl
  obtain ⟨r, hr⟩ : ∃ r, r = Lg.lay Q.D (1 - Q.a) (Q.gen + 1) ls := ⟨_, rfl⟩
  obtain ⟨g1, hg1⟩ : ∃ g1, g1 = Q.gen + 1 := ⟨_, rfl⟩
  obtain ⟨R, hR2⟩ : ∃ R, R = Q.lay ls := ⟨_, rfl⟩
  rw [← hR2]
  have HRV := Lib.hid (show (r.2 = 0 → R = (⟨r.1, 1 - Q.a, g1, ls.length, ls⟩, 0)) ∧ (r.2 ≠ 0 → R = (⟨r.1, Q.a, Q.gen, Q.n, Q.list⟩, r.2)) by
    rw [hR2, hr, hg1]
    unfold Lg.PL.lay
    rw [hl]
    exact ⟨fun h => by rw [if_neg (by simp), if_pos h], fun h => by rw [if_neg (by simp), if_neg h]⟩)
  have HALL := Lib.hid (Lg.longs_false hl)
  have HG1 := Lib.hid hg1
  have HRR := Lib.hid hr
  clear hR2 hr hg1
  obtain ⟨k1, k2, k3⟩ := log_two w (lgC Q.D.power A0 n0 c0 A1 n1 c1 Q.D.s0 Q.D.s1 Q.a Q.gen Q.n L Q.list.length lc)
  obtain ⟨wb, hwb⟩ : ∃ wb, wb = ((w.alloc (.cells (lgC Q.D.power A0 n0 c0 A1 n1 c1 Q.D.s0 Q.D.s1 Q.a Q.gen Q.n L Q.list.length lc).toArray 39)).alloc (.cells lg0.toArray 39)) := ⟨_, rfl⟩
  rw [← hwb] at k1 k2 k3
  have HLO := Lib.hid (show Calls Tryd.prog 42 #[.slice B q qc] wb (fun e w' => e = .returned (.bool (Lg.longs ls)) ∧ Below wb.heap.size wb w') from
    (refLong B q qc ls wb (hR.below k3) (by omega)).mono fun e w' ⟨he, k, hw⟩ => ⟨he, by rw [hw]; exact below_drewN (Below.refl _ _) k⟩)
  rw [HLG.out] at HLO
  have HK := Lib.hid (And.intro k1 (And.intro k2 k3))
  have HA := Lib.hid (And.intro hA0 hA1)
  have HS := Lib.hid (And.intro h0 (And.intro h1 hR))
  have HG := Lib.hid (And.intro hg (And.intro hq htt))
  have HP := Lib.hid hp
  have HBB := Lib.hid (And.intro b0 b1)
  have HRA := Lib.hid ha
  clear hl h0 h1 hR hp hA0 hA1 hq hg htt b0 b1 k1 k2 k3 ha
  unfold lg0 lgC at hwb
  have HWB := Lib.hid hwb
  clear hwb
  unfold lgC
  go_enter Tryd.func22, Tryd.ntmps22
  go_upto_region 1 with fail
  rw [← HWB.out]
  go_wp2_with fail
  refine HLO.out.mono ?_
  rintro e w3 ⟨rfl, hb3⟩
  have kb3 := HK.out.1.kept hb3
  have kz3 := HK.out.2.1.kept hb3
  have HB3 := Lib.hid (below_next HK.out.2.2 hb3 HK.out.2.2.size)
  have HKB := Lib.hid kb3
  have HKZ := Lib.hid kz3
  obtain ⟨p0, p1, p2, p3, p4, p5, p6, p7, p8⟩ := kb3.nine
  have hl3 : w.heap.size < w3.heap.size := kb3.lt
  have hl4 : w.heap.size + 1 < w3.heap.size := kz3.lt
  clear hb3 kb3 kz3 HLO
  have HLD := Lib.hid (show Calls Tryd.prog 38 #[.agg #[.int .i64 Q.D.power, .slice A0 n0 c0, .slice A1 n1 c1, .int .i64 Q.D.s0, .int .i64 Q.D.s1], .int .i64 (1 - Q.a), .int .i64 (g1 : Int), .slice B q qc] w3 (DiskS A0 A1 r w3) from by
    rw [HRR.out, HG1.out]
    exact refLaid Q.D (1 - Q.a) (Q.gen + 1) A0 A1 n0 c0 n1 c1 B q qc ls w3 (HS.out.1.below HB3.out) (HS.out.2.1.below HB3.out) (HS.out.2.2.below HB3.out) HP.out (fun a e => Nat.lt_of_lt_of_le (HA.out.1 a e) HB3.out.size) (fun a e => Nat.lt_of_lt_of_le (HA.out.2 a e) HB3.out.size) HG.out.2.1 HG.out.1 HALL.out HBB.out.1 HBB.out.2)
  have w1 : IntKind.i64.wrap (1 - Q.a) = 1 - Q.a := by have := HRA.out; simp only [IntKind.wrap, IntKind.bits, IntKind.signed]; simp; omega
  have w2 : IntKind.i64.wrap ((Q.gen : Int) + 1) = (g1 : Int) := by have := HG1.out; have := HG.out.1; simp only [IntKind.wrap, IntKind.bits, IntKind.signed]; simp; omega
  go_wp2_with fail
  refine HLD.out.mono ?_
  rintro e w8 ⟨D0, m0, e0, D1, m1, e1, rfl, s0, s1, hb8, f0, f1⟩
  have kb8 := HKB.out.kept hb8
  have kz8 := HKZ.out.kept hb8
  have hwz : w.heap.size + 1 < w3.heap.size := HKZ.out.lt
  have HB8 := Lib.hid (box_disk (below_next HB3.out hb8 HB3.out.size) s0 s1 kz8 kb8 HA.out.1 HA.out.2 (f0.imp id (fun f a e => ⟨by have := (f a e).1; omega, (f a e).2⟩)) (f1.imp id (fun f a e => ⟨by have := (f a e).1; omega, (f a e).2⟩)) (.int .i64 r.1.power) (.slice D0 m0 e0) (.slice D1 m1 e1) (.int .i64 r.1.s0) (.int .i64 r.1.s1))
  clear p0 p1 p2 p3 p4 p5 p6 p7 p8
  obtain ⟨z0, z1, z2, z3, z4, z5, z6, z7, z8⟩ := kb8.nine
  obtain ⟨u0, u1, u2, u3, u4, u5, u6, u7, u8⟩ := kb8.nine_free
  have hl8 : w.heap.size < w8.heap.size := kb8.lt
  have hl9 : w.heap.size + 1 < w8.heap.size := kz8.lt
  have HKZ8 := Lib.hid kz8
  clear s0 s1 hb8 f0 f1 kb8 kz8 hwz HLD hl3 hl4
  by_cases hr0 : r.2 = 0
  · have y1 : (r.2 != 0) = false := by simp [hr0]
    have HRE := Lib.hid (show R = (⟨r.1, 1 - Q.a, g1, q, ls⟩, 0) by have h := HRV.out.1 hr0; rw [HS.out.2.2.1] at h; exact h)
    have HCR := Lib.hid (show ∀ W, Below w.heap.size w W → Calls Tryd.prog 16 #[.slice B q qc] W (FreshR ls W) from fun W hW => copyRows_any B q qc ls W (HS.out.2.2.below hW) HG.out.2.2)
    have HX := Lib.hid (show Bx w _ A0 A1 r.1.d0 r.1.d1 D0 m0 e0 D1 m1 e1 (lg0) _ from (((show Bx w _ A0 A1 r.1.d0 r.1.d1 D0 m0 e0 D1 m1 e1 lg0 _ from HB8.out).set HA.out.1 HA.out.2 5 (.int .i64 (1 - Q.a))).set HA.out.1 HA.out.2 6 (.int .i64 (g1 : Int))).set HA.out.1 HA.out.2 7 (.int .i64 (q : Int)))
    have HXA := Lib.hid (HX.out.alloc (.cells #[.int .i64 r.1.power, .slice D0 m0 e0, .slice D1 m1 e1, .int .i64 r.1.s0, .int .i64 r.1.s1] 36))
    clear hr0
    go_wp2_with fail
    refine (HCR.out _ HXA.out.1).mono ?_
    rintro e w9 ⟨A9, n9, c9, rfl, ho9, hb9⟩
    have hn9 := ho9.1
    subst hn9
    have h9 := HXA.out.kept hb9
    have HF := Lib.hid (h9.set HA.out.1 HA.out.2 8 (.slice A9 ls.length c9))
    have HOF := Lib.hid (own_set (i := 8) (ho9.more HXA.out.1.size) h9.2.2.2.2.1 (.slice A9 ls.length c9))
    have HOUT := Lib.hid (log_out2 (A0 := A0) (A1 := A1) (L0 := L) (lc0 := lc) (ls0 := Q.list) (Q := r.1) (a := 1 - Q.a) (g := g1) (n := q) HF.out.1 HF.out.2.1 HF.out.2.2.1 (.inr HOF.out) HF.out.2.2.2.1 HA.out.1 HA.out.2 HF.out.2.2.2.2.2.1 HF.out.2.2.2.2.2.2 0)
    clear z0 z1 z2 z3 z4 z5 z6 z7 z8 u0 u1 u2 u3 u4 u5 u6 u7 u8
    obtain ⟨z0, z1, z2, z3, z4, z5, z6, z7, z8⟩ := h9.2.2.2.2.1.nine
    obtain ⟨u0, u1, u2, u3, u4, u5, u6, u7, u8⟩ := h9.2.2.2.2.1.nine_free
    obtain ⟨q0, q1, q2, q3, q4, q5, q6, q7, q8⟩ := h9.2.2.2.1.nine
    obtain ⟨v0, v1, v2, v3, v4, v5, v6, v7, v8⟩ := h9.2.2.2.1.nine_free
    have hl10 : w.heap.size < w9.heap.size := h9.2.2.2.2.1.lt
    have hl11 : w.heap.size + 1 < w9.heap.size := h9.2.2.2.1.lt
    clear h9 ho9 hb9 HCR hl8 hl9
    go_wp2_with fail
    refine bodyPost_ret_by (results_row_tmp rfl _ _ (w.heap.size + 1) 39 _ _ rfl HOUT.out.1 Tryd.underlying39 rfl info_log9) rfl ?_
    rw [HRE.out]
    exact HOUT.out.2
  · have y1 : (r.2 != 0) = true := by simp [hr0]
    have HRE := Lib.hid (HRV.out.2 hr0)
    have HOUT := Lib.hid (log_out2 (A0 := A0) (A1 := A1) (L0 := L) (lc0 := lc) (ls0 := Q.list) (Q := r.1) (a := Q.a) (g := Q.gen) (n := Q.n) HB8.out.1 HB8.out.2.1 HB8.out.2.2.1 (.inl ⟨rfl, rfl, rfl⟩) HB8.out.2.2.2.1 HA.out.1 HA.out.2 HB8.out.2.2.2.2.2.1 HB8.out.2.2.2.2.2.2 r.2)
    obtain ⟨q0, q1, q2, q3, q4, q5, q6, q7, q8⟩ := HKZ8.out.nine
    obtain ⟨v0, v1, v2, v3, v4, v5, v6, v7, v8⟩ := HKZ8.out.nine_free
    clear hr0
    go_wp2_with fail
    refine bodyPost_ret_by (results_row_tmp rfl _ _ (w.heap.size + 1) 39 _ _ rfl (HOUT.out.1.alloc _) Tryd.underlying39 rfl info_log9) rfl ?_
    rw [HRE.out]
    exact HOUT.out.2.alloc _
end Go.Proofs.YtmiejaohkgemnaaDoor

/-
  The reference's log: Add. A walk; no statement.
-/
namespace Go.Proofs.YtmiejaohkgemnaaDoor
open Go.RowKit
open Pk Sh
set_option linter.unusedVariables false
set_option maxRecDepth 100000

theorem cell_grown {w w' : World} {row : Option Nat} {p : Addr} (hg : w.grownBy w' row) (hb : p.block < w.heap.size) (hne : row ≠ some p.block) : w'.cell? p = w.cell? p := by
  rw [World.cell?_of_block (w := w) (hg.block _ hb (fun e => hne e.symm))]
theorem own_join {w w' : World} {base b2 : Nat} {A : Option Addr} {n c : Nat} {ls ls2 : List (List UInt8)} {us us2 : List Value} {n2 : Nat} {A' : Option Addr} {c' : Nat}
    (hlen : ls.length = n) (ho : w.ownsRow base 32 1 (.slice A n c) n us)
    (hin : ∀ (k : Nat) (u : Value) (l : List UInt8), us[k]? = some u → ls[k]? = some l → ∃ A' c', u = .slice A' l.length c' ∧ OwnB w base A' l.length c' l)
    (hlen2 : ls2.length = n2) (hus2 : us2.length = n2) (hb : base ≤ b2)
    (hin2 : ∀ (k : Nat) (u : Value) (l : List UInt8), us2[k]? = some u → ls2[k]? = some l → ∃ A' c', u = .slice A' l.length c' ∧ OwnB w b2 A' l.length c' l)
    (hg : w.grownBy w' (Value.slice A n c).ownBlock) (ho' : w'.ownsRow base 32 1 (.slice A' (n + n2) c') (n + n2) (us ++ us2)) : OwnRs w' base A' (n + n2) c' (ls ++ ls2) := by
  have keep : ∀ {B : Option Addr} {d b : Nat} {l : List UInt8}, OwnB w b B l.length d l → OwnB w' b B l.length d l := by
    intro B d b l h
    exact World.ownsRow.kept h hg (rows_apart h ho (by decide))
  have hus : us.length = n := by simpa using ho.1
  refine ⟨by simp [hlen, hlen2], _, ho', fun k u x hu hx => ?_⟩
  rcases Nat.lt_or_ge k n with hk | hk
  · rw [List.getElem?_append_left (by omega)] at hu hx
    obtain ⟨A2, c2, e, h2⟩ := hin k u x hu hx
    exact ⟨A2, c2, e, keep h2⟩
  · rw [List.getElem?_append_right (by omega)] at hu hx
    rw [hus] at hu
    rw [hlen] at hx
    obtain ⟨A2, c2, e, h2⟩ := hin2 _ u x hu hx
    exact ⟨A2, c2, e, own_base (keep h2) hb⟩

theorem one_of_rows5 {us : List Value} {ls : List (List UInt8)} {w : World} {b : Nat} (hl : us.length = ls.length)
    (h : ∀ (k : Nat) (u : Value) (l : List UInt8), us[k]? = some u → ls[k]? = some l → ∃ A' c', u = .slice A' l.length c' ∧ OwnB w b A' l.length c' l) : ∀ u ∈ us, u.oneCell' = true := by
  intro u hu
  obtain ⟨k, hk, e⟩ := List.getElem_of_mem hu
  obtain ⟨A', c', e2, _⟩ := h k u (ls[k]'(by omega)) (by rw [← e]; exact List.getElem?_eq_getElem hk) (List.getElem?_eq_getElem (by omega))
  rw [e2]; rfl

theorem bx_grown {w X Y : World} {A0 A1 D0 D1 : Option Addr} {l0 l1 : List UInt8} {m0 e0 m1 e1 N : Nat} {cz cs : List Value} {row : Option Nat} (h : Bx w X A0 A1 l0 l1 D0 m0 e0 D1 m1 e1 cz cs) (hN : w.heap.size ≤ N) (hr : ∀ g, row = some g → N ≤ g) (g0 : ∀ a, D0 = some a → a.block < N) (g1 : ∀ a, D1 = some a → a.block < N)
    (hg : X.grownBy Y row) (kz : Bk Y (w.heap.size + 1) 39 cz) (kb : Bk Y w.heap.size 39 cs) : Bx w Y A0 A1 l0 l1 D0 m0 e0 D1 m1 e1 cz cs := by
  obtain ⟨h1, h2, h3, _, _, f0, f1⟩ := h
  have hc : Chg (fun i => row = some i) X Y := (Chg.refl (fun i => row = some i) X).grown hg (fun g e => .inl e)
  refine ⟨h1.grown hg h1.size (fun g e => Nat.le_trans hN (hr g e)), hc.sl h2 (fun a e q => by have := g0 a e; have := hr _ q; omega), hc.sl h3 (fun a e q => by have := g1 a e; have := hr _ q; omega), kz, kb, f0.imp id (fun f a e => ⟨(f a e).1, Nat.lt_of_lt_of_le (f a e).2 hg.size⟩), f1.imp id (fun f a e => ⟨(f a e).1, Nat.lt_of_lt_of_le (f a e).2 hg.size⟩)⟩
set_option maxHeartbeats 6400000 in
theorem refLogAdd_long (Q : Lg.PL) (A0 A1 L : Option Addr) (n0 c0 n1 c1 lc : Nat) (B : Option Addr) (q qc : Nat) (ls : List (List UInt8)) (w : World) (h0 : Sl w A0 n0 c0 Q.D.d0) (h1 : Sl w A1 n1 c1 Q.D.d1) (hL : RdRows w L Q.list.length Q.list) (hR : RdRows w B q ls) (hp : Q.D.Pw) (hA0 : ∀ a, A0 = some a → a.block < w.heap.size) (hA1 : ∀ a, A1 = some a → a.block < w.heap.size)
    (hq : q ≤ 4294967296) (hQ : Q.list.length ≤ 4294967296) (hg : Q.gen < 4611686018427387904) (htt : total ls ≤ 1099511627776) (hlt : total Q.list ≤ 1099511627776)
    (b0 : Q.D.d0.length + (Lg.frames Q.gen (Q.list.length + 1) ls).length ≤ 1099511627776) (b1 : Q.D.d1.length + (Lg.frames Q.gen (Q.list.length + 1) ls).length ≤ 1099511627776) (hl : Lg.longs ls = true) :
    Calls Tryd.prog 18 #[.agg (lgC Q.D.power A0 n0 c0 A1 n1 c1 Q.D.s0 Q.D.s1 Q.a Q.gen Q.n L Q.list.length lc).toArray, .slice B q qc] w (LogT A0 A1 L lc Q.list (Q, 13) w) := by
  obtain ⟨R, hR2⟩ : ∃ R : Lg.PL × Int, R = (Q, 13) := ⟨_, rfl⟩
  rw [← hR2]
  have HR := Lib.hid hR2
  have HLG := Lib.hid hl
  clear hR2
  obtain ⟨k1, k2, k3⟩ := log_two w (lgC Q.D.power A0 n0 c0 A1 n1 c1 Q.D.s0 Q.D.s1 Q.a Q.gen Q.n L Q.list.length lc)
  obtain ⟨wb, hwb⟩ : ∃ wb, wb = ((w.alloc (.cells (lgC Q.D.power A0 n0 c0 A1 n1 c1 Q.D.s0 Q.D.s1 Q.a Q.gen Q.n L Q.list.length lc).toArray 39)).alloc (.cells lg0.toArray 39)) := ⟨_, rfl⟩
  rw [← hwb] at k1 k2 k3
  have HLO := Lib.hid (show Calls Tryd.prog 42 #[.slice B q qc] wb (fun e w' => e = .returned (.bool (Lg.longs ls)) ∧ Below wb.heap.size wb w') from
    (refLong B q qc ls wb (hR.below k3) (by omega)).mono fun e w' ⟨he, k, hw⟩ => ⟨he, by rw [hw]; exact below_drewN (Below.refl _ _) k⟩)
  rw [HLG.out] at HLO
  have HK := Lib.hid (And.intro k1 (And.intro k2 k3))
  have HA := Lib.hid (And.intro hA0 hA1)
  have HS := Lib.hid (And.intro h0 (And.intro h1 (And.intro hR hL)))
  have HG := Lib.hid (And.intro (And.intro hg hQ) (And.intro hq (And.intro htt hlt)))
  have HP := Lib.hid hp
  have HBB := Lib.hid (And.intro b0 b1)
  clear hl h0 h1 hL hR hp hA0 hA1 hq hQ hg htt hlt b0 b1 k1 k2 k3
  unfold lg0 lgC at hwb
  have HWB := Lib.hid hwb
  clear hwb
  unfold lgC
  go_enter Tryd.func18, Tryd.ntmps18
  go_upto_region 1 with fail
  rw [← HWB.out]
  go_wp2_with fail
  refine HLO.out.mono ?_
  rintro e w3 ⟨rfl, hb3⟩
  have kb3 := HK.out.1.kept hb3
  have kz3 := HK.out.2.1.kept hb3
  have HB3 := Lib.hid (below_next HK.out.2.2 hb3 HK.out.2.2.size)
  have HKB := Lib.hid kb3
  have HKZ := Lib.hid kz3
  obtain ⟨p0, p1, p2, p3, p4, p5, p6, p7, p8⟩ := kb3.nine
  have hl3 : w.heap.size < w3.heap.size := kb3.lt
  have hl4 : w.heap.size + 1 < w3.heap.size := kz3.lt
  clear hb3 kb3 kz3 HLO
  have HOUT := Lib.hid (log_out2 (A0 := A0) (A1 := A1) (L0 := L) (lc0 := lc) (ls0 := Q.list) (Q := Q.D) (a := Q.a) (g := Q.gen) (n := Q.n) HB3.out (HS.out.1.below HB3.out) (HS.out.2.1.below HB3.out) (.inl ⟨rfl, rfl, rfl⟩) HKZ.out HA.out.1 HA.out.2 (.inl rfl) (.inl rfl) 13)
  obtain ⟨q0, q1, q2, q3, q4, q5, q6, q7, q8⟩ := HKZ.out.nine
  obtain ⟨v0, v1, v2, v3, v4, v5, v6, v7, v8⟩ := HKZ.out.nine_free
  go_wp2_with fail
  refine bodyPost_ret_by (results_row_tmp rfl _ _ (w.heap.size + 1) 39 _ _ rfl HOUT.out.1 Tryd.underlying39 rfl info_log9) rfl ?_
  rw [HR.out]
  exact HOUT.out.2
set_option maxHeartbeats 6400000 in
theorem refLogAdd_none (Q : Lg.PL) (A0 A1 L : Option Addr) (n0 c0 n1 c1 lc : Nat) (B : Option Addr) (q qc : Nat) (ls : List (List UInt8)) (w : World) (h0 : Sl w A0 n0 c0 Q.D.d0) (h1 : Sl w A1 n1 c1 Q.D.d1) (hL : RdRows w L Q.list.length Q.list) (hR : RdRows w B q ls) (hp : Q.D.Pw) (hA0 : ∀ a, A0 = some a → a.block < w.heap.size) (hA1 : ∀ a, A1 = some a → a.block < w.heap.size)
    (hq : q ≤ 4294967296) (hQ : Q.list.length ≤ 4294967296) (hg : Q.gen < 4611686018427387904) (htt : total ls ≤ 1099511627776) (hlt : total Q.list ≤ 1099511627776)
    (b0 : Q.D.d0.length + (Lg.frames Q.gen (Q.list.length + 1) ls).length ≤ 1099511627776) (b1 : Q.D.d1.length + (Lg.frames Q.gen (Q.list.length + 1) ls).length ≤ 1099511627776) (hl : Lg.longs ls = false) (hz : q = 0) :
    Calls Tryd.prog 18 #[.agg (lgC Q.D.power A0 n0 c0 A1 n1 c1 Q.D.s0 Q.D.s1 Q.a Q.gen Q.n L Q.list.length lc).toArray, .slice B q qc] w (LogT A0 A1 L lc Q.list (Q, 0) w) := by
  obtain ⟨R, hR2⟩ : ∃ R : Lg.PL × Int, R = (Q, 0) := ⟨_, rfl⟩
  rw [← hR2]
  have HR := Lib.hid hR2
  have HLG := Lib.hid hl
  clear hR2
  have y0 : ((q : Int) == 0) = true := by simp [hz]
  have y0' : (q : Int) = 0 := by omega
  obtain ⟨k1, k2, k3⟩ := log_two w (lgC Q.D.power A0 n0 c0 A1 n1 c1 Q.D.s0 Q.D.s1 Q.a Q.gen Q.n L Q.list.length lc)
  obtain ⟨wb, hwb⟩ : ∃ wb, wb = ((w.alloc (.cells (lgC Q.D.power A0 n0 c0 A1 n1 c1 Q.D.s0 Q.D.s1 Q.a Q.gen Q.n L Q.list.length lc).toArray 39)).alloc (.cells lg0.toArray 39)) := ⟨_, rfl⟩
  rw [← hwb] at k1 k2 k3
  have HLO := Lib.hid (show Calls Tryd.prog 42 #[.slice B q qc] wb (fun e w' => e = .returned (.bool (Lg.longs ls)) ∧ Below wb.heap.size wb w') from
    (refLong B q qc ls wb (hR.below k3) (by omega)).mono fun e w' ⟨he, k, hw⟩ => ⟨he, by rw [hw]; exact below_drewN (Below.refl _ _) k⟩)
  rw [HLG.out] at HLO
  have HK := Lib.hid (And.intro k1 (And.intro k2 k3))
  have HA := Lib.hid (And.intro hA0 hA1)
  have HS := Lib.hid (And.intro h0 (And.intro h1 (And.intro hR hL)))
  have HG := Lib.hid (And.intro (And.intro hg hQ) (And.intro hq (And.intro htt hlt)))
  have HP := Lib.hid hp
  have HBB := Lib.hid (And.intro b0 b1)
  clear hl hz h0 h1 hL hR hp hA0 hA1 hq hQ hg htt hlt b0 b1 k1 k2 k3
  unfold lg0 lgC at hwb
  have HWB := Lib.hid hwb
  clear hwb
  unfold lgC
  go_enter Tryd.func18, Tryd.ntmps18
  go_upto_region 1 with fail
  rw [← HWB.out]
  go_wp2_with fail
  refine HLO.out.mono ?_
  rintro e w3 ⟨rfl, hb3⟩
  have kb3 := HK.out.1.kept hb3
  have kz3 := HK.out.2.1.kept hb3
  have HB3 := Lib.hid (below_next HK.out.2.2 hb3 HK.out.2.2.size)
  have HKB := Lib.hid kb3
  have HKZ := Lib.hid kz3
  obtain ⟨p0, p1, p2, p3, p4, p5, p6, p7, p8⟩ := kb3.nine
  have hl3 : w.heap.size < w3.heap.size := kb3.lt
  have hl4 : w.heap.size + 1 < w3.heap.size := kz3.lt
  clear hb3 kb3 kz3 HLO
  have HOUT := Lib.hid (log_out2 (A0 := A0) (A1 := A1) (L0 := L) (lc0 := lc) (ls0 := Q.list) (Q := Q.D) (a := Q.a) (g := Q.gen) (n := Q.n) HB3.out (HS.out.1.below HB3.out) (HS.out.2.1.below HB3.out) (.inl ⟨rfl, rfl, rfl⟩) HKZ.out HA.out.1 HA.out.2 (.inl rfl) (.inl rfl) 0)
  obtain ⟨q0, q1, q2, q3, q4, q5, q6, q7, q8⟩ := HKZ.out.nine
  obtain ⟨v0, v1, v2, v3, v4, v5, v6, v7, v8⟩ := HKZ.out.nine_free
  go_wp2_with fail
  refine bodyPost_ret_by (results_row_tmp rfl _ _ (w.heap.size + 1) 39 _ _ rfl HOUT.out.1 Tryd.underlying39 rfl info_log9) rfl ?_
  rw [HR.out]
  exact HOUT.out.2
set_option maxHeartbeats 6400000 in
theorem refLogAdd_some (Q : Lg.PL) (A0 A1 L : Option Addr) (n0 c0 n1 c1 lc : Nat) (B : Option Addr) (q qc : Nat) (ls : List (List UInt8)) (w : World) (h0 : Sl w A0 n0 c0 Q.D.d0) (h1 : Sl w A1 n1 c1 Q.D.d1) (hL : RdRows w L Q.list.length Q.list) (hR : RdRows w B q ls) (hp : Q.D.Pw) (hA0 : ∀ a, A0 = some a → a.block < w.heap.size) (hA1 : ∀ a, A1 = some a → a.block < w.heap.size)
    (hq : q ≤ 4294967296) (hQ : Q.list.length ≤ 4294967296) (hg : Q.gen < 4611686018427387904) (htt : total ls ≤ 1099511627776) (hlt : total Q.list ≤ 1099511627776)
    (b0 : Q.D.d0.length + (Lg.frames Q.gen (Q.list.length + 1) ls).length ≤ 1099511627776) (b1 : Q.D.d1.length + (Lg.frames Q.gen (Q.list.length + 1) ls).length ≤ 1099511627776) (hl : Lg.longs ls = false) (hz : q ≠ 0) :
    Calls Tryd.prog 18 #[.agg (lgC Q.D.power A0 n0 c0 A1 n1 c1 Q.D.s0 Q.D.s1 Q.a Q.gen Q.n L Q.list.length lc).toArray, .slice B q qc] w (LogT A0 A1 L lc Q.list (Q.add ls) w) := by
  have HLG := Lib.hid hl
  obtain ⟨i0, hi, hz0, hz1, hz2⟩ := info_parts info_u8
  obtain ⟨fr, hfr⟩ : ∃ fr, fr = Lg.frames Q.gen (Q.list.length + 1) ls := ⟨_, rfl⟩
  obtain ⟨r, hr⟩ : ∃ r, r = Q.D.append Q.a [fr] := ⟨_, rfl⟩
  obtain ⟨R, hR2⟩ : ∃ R, R = Q.add ls := ⟨_, rfl⟩
  rw [← hR2]
  have HRV := Lib.hid (show (r.2 = 0 → R = (⟨r.1, Q.a, Q.gen, Q.n, Q.list ++ ls⟩, 0)) ∧ (r.2 ≠ 0 → R = (⟨r.1, Q.a, Q.gen, Q.n, Q.list⟩, r.2)) by
    have hll : ¬ ls.length = 0 := by rw [hR.1]; exact hz
    rw [hR2, hr, hfr]
    unfold Lg.PL.add
    rw [hl]
    exact ⟨fun h => by rw [if_neg (by simp), if_neg hll, if_pos h], fun h => by rw [if_neg (by simp), if_neg hll, if_neg h]⟩)
  have HALL := Lib.hid (Lg.longs_false hl)
  have HRR := Lib.hid (And.intro hr hfr)
  have HQL := Lib.hid hR.1
  have y0 : ((q : Int) == 0) = false := by simp [hz]
  have y0' : ¬ (q : Int) = 0 := by omega
  clear hR2 hr hfr hz
  obtain ⟨k1, k2, k3⟩ := log_two w (lgC Q.D.power A0 n0 c0 A1 n1 c1 Q.D.s0 Q.D.s1 Q.a Q.gen Q.n L Q.list.length lc)
  obtain ⟨wb, hwb⟩ : ∃ wb, wb = ((w.alloc (.cells (lgC Q.D.power A0 n0 c0 A1 n1 c1 Q.D.s0 Q.D.s1 Q.a Q.gen Q.n L Q.list.length lc).toArray 39)).alloc (.cells lg0.toArray 39)) := ⟨_, rfl⟩
  rw [← hwb] at k1 k2 k3
  have HLO := Lib.hid (show Calls Tryd.prog 42 #[.slice B q qc] wb (fun e w' => e = .returned (.bool (Lg.longs ls)) ∧ Below wb.heap.size wb w') from
    (refLong B q qc ls wb (hR.below k3) (by omega)).mono fun e w' ⟨he, k, hw⟩ => ⟨he, by rw [hw]; exact below_drewN (Below.refl _ _) k⟩)
  rw [HLG.out] at HLO
  have HK := Lib.hid (And.intro k1 (And.intro k2 k3))
  have HA := Lib.hid (And.intro hA0 hA1)
  have HS := Lib.hid (And.intro h0 (And.intro h1 (And.intro hR hL)))
  have HG := Lib.hid (And.intro (And.intro hg hQ) (And.intro hq (And.intro htt hlt)))
  have HP := Lib.hid hp
  have HBB := Lib.hid (And.intro b0 b1)
  clear hl h0 h1 hL hR hp hA0 hA1 hq hQ hg htt hlt b0 b1 k1 k2 k3
  unfold lg0 lgC at hwb
  have HWB := Lib.hid hwb
  clear hwb
  unfold lgC
  go_enter Tryd.func18, Tryd.ntmps18
  go_upto_region 1 with fail
  rw [← HWB.out]
  go_wp2_with fail
  refine HLO.out.mono ?_
  rintro e w3 ⟨rfl, hb3⟩
  have kb3 := HK.out.1.kept hb3
  have kz3 := HK.out.2.1.kept hb3
  have HB3 := Lib.hid (below_next HK.out.2.2 hb3 HK.out.2.2.size)
  have HKB := Lib.hid kb3
  have HKZ := Lib.hid kz3
  obtain ⟨p0, p1, p2, p3, p4, p5, p6, p7, p8⟩ := kb3.nine
  have hl3 : w.heap.size < w3.heap.size := kb3.lt
  have hl4 : w.heap.size + 1 < w3.heap.size := kz3.lt
  clear hb3 kb3 kz3 HLO
  have HE := Lib.hid (show OwnB (w3.alloc (.cells #[] 5)) w3.heap.size (some ⟨w3.heap.size, 0, none⟩) 0 0 (Lg.frames Q.gen (Q.list.length + 1) (ls.take 0)) from by simpa [Lg.frames] using own_empty w3)
  go_wp2_with fail
  go_loopw [6, 7] (fun b i wr => ∃ (k : Nat) (A' : Option Addr) (n' c' : Nat), k ≤ q ∧ i = .int .i64 (k : Nat) ∧ b = .slice A' n' c' ∧ OwnB wr w3.heap.size A' n' c' (Lg.frames Q.gen (Q.list.length + 1) (ls.take k)) ∧ Below w3.heap.size w3 wr) (fun _ i _ => q - (intOf i).toNat)
  case atStart => exact ⟨0, _, 0, 0, Nat.zero_le _, rfl, rfl, HE.out, (Below.refl _ _).alloc (Nat.le_refl _) _⟩
  case round =>
    clear HE
    obtain ⟨k, A', n', c', hk, rfl, rfl, ho, hb⟩ := hrel
    rename World => wr
    by_cases hkn : k < q
    · have hkl : k < ls.length := by rw [HQL.out]; exact hkn
      have hmem := HALL.out _ (getD_mem (d := ([] : List UInt8)) hkl)
      have htk := take_snocD ls [] k hkl
      have hfa := Lg.frames_append Q.gen (ls.take k) [ls.getD k []] (Q.list.length + 1)
      rw [← htk, show (ls.take k).length = k by simp; omega] at hfa
      have hwh : (Lg.frames Q.gen (Q.list.length + 1) (ls.take (k + 1))).length ≤ (Lg.frames Q.gen (Q.list.length + 1) ls).length := by
        have := Lg.frames_append Q.gen (ls.take (k + 1)) (ls.drop (k + 1)) (Q.list.length + 1)
        rw [List.take_append_drop] at this
        rw [this, List.length_append]; omega
      obtain ⟨x, E, e, rfl, hxb, hcw, hd1, _, hrw, _⟩ := HS.out.2.2.1.at_ hkn
      have hbw := below_next HB3.out hb HB3.out.size
      have hc := (hbw.cell (p := x.add k) (by rw [add_block]; exact hxb)).trans hcw
      have hr := hrw.below hbw
      generalize ls.getD k [] = z at *
      have hfr : Lg.frames Q.gen (Q.list.length + 1 + k) [z] = Lg.frame Q.gen (Q.list.length + 1 + k) z := by unfold Lg.frames; simp [Lg.frames]
      rw [hfr] at hfa
      have HFA := Lib.hid hfa
      have HKN := Lib.hid hkn
      have HLEN := Lib.hid (show n' + (Lg.frame Q.gen (Q.list.length + 1 + k) z).length ≤ 1099511627776 by
        have h1 := HBB.out.1
        have h2 := ho.len
        rw [hfa, List.length_append] at hwh
        omega)
      have HFR := Lib.hid (show ∀ W, Below wr.heap.size wr W → Calls Tryd.prog 43 #[.int .i64 (Q.gen : Int), .int .i64 ((Q.list.length : Int) + 1 + (k : Int)), .slice E z.length e] W (fun e w' => ∃ A5 n5 c5, e = .returned (.slice A5 n5 c5) ∧ OwnB w' wr.heap.size A5 n5 c5 (Lg.frame Q.gen (Q.list.length + 1 + k) z) ∧ Below wr.heap.size wr w') from fun W hW =>
        (refFrame Q.gen (Q.list.length + 1 + k) E z.length e z W (hr.below hW) (by omega) HG.out.1.1 (by have := HG.out.1.2; have := HG.out.2.1; omega)).mono fun e w' ⟨A5, n5, c5, he, ho, hb⟩ => ⟨A5, n5, c5, he, ho.more hW.size, below_next hW hb hW.size⟩)
      have HO := Lib.hid ho
      have HB := Lib.hid hb
      have HXB := Lib.hid (show (x.add k).block < w.heap.size by rw [add_block]; exact hxb)
      have hkb := HKB.out.kept hb
      have HKBR := Lib.hid hkb
      have HBW := Lib.hid hbw
      have q6 : wr.cell? ⟨w.heap.size, 6, none⟩ = some (.int .i64 (Q.gen : Int)) := hkb.at_ rfl
      have q8 : wr.cell? ⟨w.heap.size, 8, none⟩ = some (.slice L Q.list.length lc) := hkb.at_ rfl
      have y1 : (0 : Int) ≤ (k : Int) := by omega
      have y2 : (k : Int) < (q : Int) := by omega
      have w1' : IntKind.i64.wrap ((k : Int) + 1) = (k : Int) + 1 := by have := HG.out.2.1; simp only [IntKind.wrap, IntKind.bits, IntKind.signed]; simp; omega
      have w2' : IntKind.i64.wrap ((Q.list.length : Int) + 1) = (Q.list.length : Int) + 1 := by have := HG.out.1.2; simp only [IntKind.wrap, IntKind.bits, IntKind.signed]; simp; omega
      have w3' : IntKind.i64.wrap ((Q.list.length : Int) + 1 + (k : Int)) = (Q.list.length : Int) + 1 + (k : Int) := by have := HG.out.1.2; have := HG.out.2.1; simp only [IntKind.wrap, IntKind.bits, IntKind.signed]; simp; omega
      have hw := Below.refl wr.heap.size wr
      clear hkl hmem htk hfa hwh hfr hd1 hr hrw hcw hbw ho hb hkn hkb hxb p0 p1 p2 p3 p4 p5 p6 p7 p8 hl3 hl4
      go_wp2_with fail
      go_region_held3 (fun w' => w'.cell? ⟨w.heap.size, 6, none⟩ = some (.int .i64 (Q.gen : Int)) ∧ w'.cell? ⟨w.heap.size, 8, none⟩ = some (.slice L Q.list.length lc) ∧ w'.cell? (x.add k) = some (.slice E z.length e)) (first | go_keep | exact ⟨q6, q8, hc⟩ | exact ⟨(HKBR.out.kept hw).at_ rfl, (HKBR.out.kept hw).at_ rfl, (hw.cell (p := x.add k) (Nat.lt_of_lt_of_le HXB.out HBW.out.size)).trans hc⟩)
        (first
          | (go_at_call 43; with_reducible refine (HFR.out _ ?_).mono ?_
             focus first | with_reducible exact hw | with_reducible exact below_drew hw
             rintro e w5 ⟨A5, n5, c5, rfl, fo, hw'⟩
             replace hw := hw'
             clear hw'
             have hn5 := fo.len)
          | (refine step_append_rd rfl (.tmp 25) (.tmp 38) 32 rfl w3.heap.size 5 i0 _ 1 Tryd.underlying32 hi hz0 hz1 hz2 rfl A' n' c' _ rfl (HO.out.below hw) A5 n5 c5 ((Lg.frame Q.gen (Q.list.length + 1 + k) z).map bv) rfl fo.rd (oneCell_bytes _) (by have := HLEN.out; simp only [maxLen]; omega) (by have := HLEN.out; omega) (Nat.le_trans HB.out.size hw.size) ?_
             intro A6 c6 w6 hown6 hg6 hrow6
             have kb6 := (HKBR.out.kept hw).grown hg6.out (fun e => own_bk_ne (HO.out.below hw) (HKBR.out.kept hw) (by decide) e.symm)
             have s6 : w6.cell? ⟨w.heap.size, 6, none⟩ = some (.int .i64 (Q.gen : Int)) := kb6.at_ rfl
             have s8 : w6.cell? ⟨w.heap.size, 8, none⟩ = some (.slice L Q.list.length lc) := kb6.at_ rfl
             have sx : w6.cell? (x.add k) = some (.slice E z.length e) := (cell_grown hg6.out (Nat.lt_of_lt_of_le HXB.out (Nat.le_trans HBW.out.size hw.size)) (fun q => by have h1 := (World.ownsRow.lt (HO.out.below hw) _ q).1; have := HXB.out; have := HB3.out.size; omega)).trans ((hw.cell (p := x.add k) (Nat.lt_of_lt_of_le HXB.out HBW.out.size)).trans hc)
             have HG6 := Lib.hid (And.intro hown6.out hg6.out)
             clear kb6 hown6 hg6 hrow6))
      go_wp2_with fail
      go_roundw
      case rel =>
        have hown := HG6.out.1
        rw [← List.map_append, ← HFA.out] at hown
        exact ⟨k + 1, A6, _, c6, by have := HKN.out; omega, by go_num, rfl, hown, (below_next HB.out hw HB.out.size).grown HG6.out.2 (Nat.le_trans HB.out.size hw.size) (fun i e => (World.ownsRow.lt (HO.out.below hw) i e).1)⟩
      case measure => have := HKN.out; simp [intOf]; omega
    · have hq2 : ls.take k = ls := List.take_of_length_le (by rw [HQL.out]; omega)
      rw [hq2, ← HRR.out.2] at ho
      have y2 : ¬ (k : Int) < (q : Int) := by omega
      have hkb := HKB.out.kept hb
      have hkz := HKZ.out.kept hb
      have hbw := below_next HB3.out hb HB3.out.size
      have hfl : fr.length = n' := ho.len
      have HAP := Lib.hid (show Calls Tryd.prog 44 #[.agg #[.int .i64 Q.D.power, .slice A0 n0 c0, .slice A1 n1 c1, .int .i64 Q.D.s0, .int .i64 Q.D.s1], .int .i64 Q.a, .slice (some ⟨wr.heap.size, 0, none⟩) 1 1] (wr.alloc (.cells #[.slice A' n' c'] 32)) (DiskS A0 A1 r wr) from by
        have hba := (Below.refl wr.heap.size wr).alloc (Nat.le_refl _) (.cells #[.slice A' n' c'] 32)
        have hl0 := HS.out.1.len
        have hl1 := HS.out.2.1.len
        have hbb := HBB.out
        rw [← HRR.out.2] at hbb
        have h := refAppend Q.D.power Q.D.s0 Q.D.s1 Q.a A0 A1 n0 c0 n1 c1 Q.D.d0 Q.D.d1 (some ⟨wr.heap.size, 0, none⟩) 1 1 [fr] _ ((HS.out.1.below hbw).below hba) ((HS.out.2.1.below hbw).below hba) (rows_one wr A' n' c' fr (Sl.own ho)) (by simp only [List.flatten_cons, List.flatten_nil, List.append_nil]; omega) (by simp only [List.flatten_cons, List.flatten_nil, List.append_nil]; omega) (by omega) HP.out
        rw [show PD.append ⟨Q.D.power, Q.D.d0, Q.D.d1, Q.D.s0, Q.D.s1⟩ Q.a [fr] = r from HRR.out.1.symm] at h
        exact h.mono fun e w' hd => hd.behind hba)
      have HKBR := Lib.hid hkb
      have HKZR := Lib.hid hkz
      have HBW := Lib.hid hbw
      clear p0 p1 p2 p3 p4 p5 p6 p7 p8 hl3 hl4
      obtain ⟨p0, p1, p2, p3, p4, p5, p6, p7, p8⟩ := hkb.nine
      have hlr : w.heap.size < wr.heap.size := hkb.lt
      clear hkb hkz hbw hfl hb ho hq2 hkn hk hi hz0 hz1 hz2
      go_wp2_with fail
      refine HAP.out.mono ?_
      rintro e w8 ⟨D0, m0, e0, D1, m1, e1, rfl, s0, s1, hb8, f0, f1⟩
      have kb8 := HKBR.out.kept hb8
      have kz8 := HKZR.out.kept hb8
      have hwz : w.heap.size + 1 < wr.heap.size := HKZR.out.lt
      have HB8 := Lib.hid (box_disk (below_next HBW.out hb8 HBW.out.size) s0 s1 kz8 kb8 HA.out.1 HA.out.2 (f0.imp id (fun f a e => ⟨by have := (f a e).1; omega, (f a e).2⟩)) (f1.imp id (fun f a e => ⟨by have := (f a e).1; omega, (f a e).2⟩)) (.int .i64 r.1.power) (.slice D0 m0 e0) (.slice D1 m1 e1) (.int .i64 r.1.s0) (.int .i64 r.1.s1))
      clear p0 p1 p2 p3 p4 p5 p6 p7 p8
      obtain ⟨z0, z1, z2, z3, z4, z5, z6, z7, z8⟩ := kb8.nine
      obtain ⟨u0, u1, u2, u3, u4, u5, u6, u7, u8⟩ := kb8.nine_free
      have hl8 : w.heap.size < w8.heap.size := kb8.lt
      have hl9 : w.heap.size + 1 < w8.heap.size := kz8.lt
      have HKZ8 := Lib.hid kz8
      clear s0 s1 hb8 f0 f1 kb8 kz8 hwz HAP hlr
      by_cases hr0 : r.2 = 0
      · have y3 : (r.2 != 0) = false := by simp [hr0]
        have HRE := Lib.hid (HRV.out.1 hr0)
        have HCL := Lib.hid (show ∀ W, Below w.heap.size w W → Calls Tryd.prog 16 #[.slice L Q.list.length lc] W (FreshR Q.list W) from fun W hW => copyRows_any L _ lc Q.list W (HS.out.2.2.2.below hW) HG.out.2.2.2)
        have HCR := Lib.hid (show ∀ W, Below w.heap.size w W → Calls Tryd.prog 16 #[.slice B q qc] W (FreshR ls W) from fun W hW => copyRows_any B q qc ls W (HS.out.2.2.1.below hW) HG.out.2.2.1)
        have HXA := Lib.hid (Bx.alloc (show Bx w _ A0 A1 r.1.d0 r.1.d1 D0 m0 e0 D1 m1 e1 lg0 _ from HB8.out) (.cells #[.int .i64 r.1.power, .slice D0 m0 e0, .slice D1 m1 e1, .int .i64 r.1.s0, .int .i64 r.1.s1] 36))
        clear hr0
        go_wp2_with fail
        refine (HCL.out _ HXA.out.1).mono ?_
        rintro e w9 ⟨A9, n9, c9, rfl, ho9, hb9⟩
        have hn9 := ho9.1
        subst hn9
        have h9 := HXA.out.kept hb9
        have HR9 := Lib.hid (ho9.more HXA.out.1.size)
        have HBL := Lib.hid (show w.heap.size ≤ w8.heap.size + 1 ∧ (∀ g, (Value.slice A9 Q.list.length c9).ownBlock = some g → w8.heap.size + 1 ≤ g) ∧ (∀ a, D0 = some a → a.block < w8.heap.size + 1) ∧ (∀ a, D1 = some a → a.block < w8.heap.size + 1) from by
          have hs := HB8.out.1.size
          refine ⟨by simp at hs; omega, fun g e => by have := ho9.block g e; simpa using this, fun a e => ?_, fun a e => ?_⟩
          · rcases HB8.out.2.2.2.2.2.1 with q | q
            · rw [q] at e; have := HA.out.1 a e; simp at hs; omega
            · have := (q a e).2; simp at this; omega
          · rcases HB8.out.2.2.2.2.2.2 with q | q
            · rw [q] at e; have := HA.out.2 a e; simp at hs; omega
            · have := (q a e).2; simp at this; omega)
        have HX9 := Lib.hid h9
        clear h9 ho9 hb9 HCL
        go_wp2_with fail
        refine (HCR.out _ HX9.out.1).mono ?_
        rintro e w10 ⟨A10, n10, c10, rfl, ho10, hb10⟩
        have hn10 := ho10.1
        subst hn10
        have HX10 := Lib.hid (HX9.out.kept hb10)
        obtain ⟨g1, us1, g2, g3⟩ := HR9.out.below hb10
        obtain ⟨g4, us2, g5, g6⟩ := ho10.more HX9.out.1.size
        obtain ⟨j0, hi, hz0, hz1, hz2⟩ := info_parts info_bytes
        have HU2 := Lib.hid (show us2.length = ls.length by simpa using g5.1)
        have HG12 := Lib.hid (And.intro g2 (And.intro g3 (And.intro g5 g6)))
        have HONE := Lib.hid (one_of_rows5 (HU2.out.trans g4.symm) g6)
        have hbz : w.heap.size ≤ w10.heap.size := HX10.out.1.size
        clear g1 g2 g3 g4 g5 g6 ho10 hb10 HCR HR9 z0 z1 z2 z3 z4 z5 z6 z7 z8 u0 u1 u2 u3 u4 u5 u6 u7 u8 hl8 hl9
        go_wp2_with (at_builtin
                     refine wpList_append_rd _ rfl _ _ 37 rfl w.heap.size 32 j0 _ 24 Tryd.underlying37 hi hz0 hz1 hz2 rfl A9 Q.list.length c9 us1 rfl HG12.out.1 A10 ls.length c10 us2 rfl
                       (Rd.own HG12.out.2.2.1) HONE.out (by have := HG.out.1.2; have := HG.out.2.1; have := HQL.out; simp only [maxLen]; omega) (by have := HG.out.1.2; have := HG.out.2.1; have := HQL.out; omega) hbz ?_
                     intro A11 c11 w11 hown11 hg11 hrow11
                     have HO11 := Lib.hid (own_join rfl HG12.out.1 HG12.out.2.1 rfl HU2.out (Nat.le_refl _) HG12.out.2.2.2 hg11 hown11)
                     have kb11 := HX10.out.2.2.2.2.1.grown hg11 (fun e => own_bk_ne HG12.out.1 HX10.out.2.2.2.2.1 (by decide) e.symm)
                     have kz11 := HX10.out.2.2.2.1.grown hg11 (fun e => own_bk_ne HG12.out.1 HX10.out.2.2.2.1 (by decide) e.symm)
                     have HX11 := Lib.hid (show Bx w w11 A0 A1 r.1.d0 r.1.d1 D0 m0 e0 D1 m1 e1 lg0 _ from bx_grown HX10.out HBL.out.1 HBL.out.2.1 HBL.out.2.2.1 HBL.out.2.2.2 hg11 kz11 kb11)
                     obtain ⟨z0, z1, z2, z3, z4, z5, z6, z7, z8⟩ := kb11.nine
                     obtain ⟨u0, u1, u2, u3, u4, u5, u6, u7, u8⟩ := kb11.nine_free
                     obtain ⟨q0, q1, q2, q3, q4, q5, q6, q7, q8⟩ := kz11.nine
                     obtain ⟨v0, v1, v2, v3, v4, v5, v6, v7, v8⟩ := kz11.nine_free
                     have hl10 : w.heap.size < w11.heap.size := kb11.lt
                     have hl11 : w.heap.size + 1 < w11.heap.size := kz11.lt
                     clear kb11 kz11 hown11 hg11 hrow11 hi hz0 hz1 hz2 hbz)
        have HF := Lib.hid (HX11.out.set HA.out.1 HA.out.2 8 (.slice A11 (Q.list.length + ls.length) c11))
        have HOF := Lib.hid (own_set (i := 8) HO11.out HX11.out.2.2.2.2.1 (.slice A11 (Q.list.length + ls.length) c11))
        have hout := log_out2 (A0 := A0) (A1 := A1) (L0 := L) (lc0 := lc) (ls0 := Q.list) (Q := r.1) (a := Q.a) (g := Q.gen) (n := Q.n) (L := A11) (lc := c11) (ls := Q.list ++ ls) HF.out.1 HF.out.2.1 HF.out.2.2.1 (.inr (by rw [List.length_append]; exact HOF.out)) HF.out.2.2.2.1 HA.out.1 HA.out.2 HF.out.2.2.2.2.2.1 HF.out.2.2.2.2.2.2 0
        rw [List.length_append] at hout
        have HOUT := Lib.hid hout
        refine bodyPost_ret_by (results_row_tmp rfl _ _ (w.heap.size + 1) 39 _ _ rfl HOUT.out.1 Tryd.underlying39 rfl info_log9) rfl ?_
        rw [HRE.out]
        exact HOUT.out.2
      · have y3 : (r.2 != 0) = true := by simp [hr0]
        have HRE := Lib.hid (HRV.out.2 hr0)
        have HOUT := Lib.hid (log_out2 (A0 := A0) (A1 := A1) (L0 := L) (lc0 := lc) (ls0 := Q.list) (Q := r.1) (a := Q.a) (g := Q.gen) (n := Q.n) HB8.out.1 HB8.out.2.1 HB8.out.2.2.1 (.inl ⟨rfl, rfl, rfl⟩) HB8.out.2.2.2.1 HA.out.1 HA.out.2 HB8.out.2.2.2.2.2.1 HB8.out.2.2.2.2.2.2 r.2)
        obtain ⟨q0, q1, q2, q3, q4, q5, q6, q7, q8⟩ := HKZ8.out.nine
        obtain ⟨v0, v1, v2, v3, v4, v5, v6, v7, v8⟩ := HKZ8.out.nine_free
        clear hr0
        go_wp2_with fail
        refine bodyPost_ret_by (results_row_tmp rfl _ _ (w.heap.size + 1) 39 _ _ rfl (HOUT.out.1.alloc _) Tryd.underlying39 rfl info_log9) rfl ?_
        rw [HRE.out]
        exact HOUT.out.2.alloc _
end Go.Proofs.YtmiejaohkgemnaaDoor

/-
  The document's log: Add and Lay in one. Plain joins; no statement.
-/
namespace Go.Proofs.YtmiejaohkgemnaaDoor
open Go.RowKit
open Pk Sh
set_option linter.unusedVariables false
set_option maxRecDepth 100000

theorem refLogAdd (Q : Lg.PL) (A0 A1 L : Option Addr) (n0 c0 n1 c1 lc : Nat) (B : Option Addr) (q qc : Nat) (ls : List (List UInt8)) (w : World) (h0 : Sl w A0 n0 c0 Q.D.d0) (h1 : Sl w A1 n1 c1 Q.D.d1) (hL : RdRows w L Q.list.length Q.list) (hR : RdRows w B q ls) (hp : Q.D.Pw) (hA0 : ∀ a, A0 = some a → a.block < w.heap.size) (hA1 : ∀ a, A1 = some a → a.block < w.heap.size)
    (hq : q ≤ 4294967296) (hQ : Q.list.length ≤ 4294967296) (hg : Q.gen < 4611686018427387904) (htt : total ls ≤ 1099511627776) (hlt : total Q.list ≤ 1099511627776)
    (b0 : Q.D.d0.length + (Lg.frames Q.gen (Q.list.length + 1) ls).length ≤ 1099511627776) (b1 : Q.D.d1.length + (Lg.frames Q.gen (Q.list.length + 1) ls).length ≤ 1099511627776) :
    Calls Tryd.prog 18 #[.agg (lgC Q.D.power A0 n0 c0 A1 n1 c1 Q.D.s0 Q.D.s1 Q.a Q.gen Q.n L Q.list.length lc).toArray, .slice B q qc] w (LogT A0 A1 L lc Q.list (Q.add ls) w) := by
  cases hl : Lg.longs ls
  · by_cases hz : q = 0
    · have e : Q.add ls = (Q, 0) := by
        unfold Lg.PL.add
        rw [hl, if_neg (by simp), if_pos (by rw [hR.1]; exact hz)]
      rw [e]
      exact refLogAdd_none Q A0 A1 L n0 c0 n1 c1 lc B q qc ls w h0 h1 hL hR hp hA0 hA1 hq hQ hg htt hlt b0 b1 hl hz
    · exact refLogAdd_some Q A0 A1 L n0 c0 n1 c1 lc B q qc ls w h0 h1 hL hR hp hA0 hA1 hq hQ hg htt hlt b0 b1 hl hz
  · have e : Q.add ls = (Q, 13) := by
      unfold Lg.PL.add
      rw [hl, if_pos rfl]
    rw [e]
    exact refLogAdd_long Q A0 A1 L n0 c0 n1 c1 lc B q qc ls w h0 h1 hL hR hp hA0 hA1 hq hQ hg htt hlt b0 b1 hl
theorem refLogLay (Q : Lg.PL) (A0 A1 L : Option Addr) (n0 c0 n1 c1 lc : Nat) (B : Option Addr) (q qc : Nat) (ls : List (List UInt8)) (w : World) (h0 : Sl w A0 n0 c0 Q.D.d0) (h1 : Sl w A1 n1 c1 Q.D.d1) (hR : RdRows w B q ls) (hp : Q.D.Pw) (hA0 : ∀ a, A0 = some a → a.block < w.heap.size) (hA1 : ∀ a, A1 = some a → a.block < w.heap.size)
    (ha : 0 ≤ Q.a ∧ Q.a ≤ 1) (hq : q ≤ 4294967296) (hg : Q.gen + 1 < 4611686018427387904) (htt : total ls ≤ 1099511627776)
    (b0 : Q.D.d0.length + (Lg.whole (Q.gen + 1) ls.length ls).length ≤ 1099511627776) (b1 : Q.D.d1.length + (Lg.whole (Q.gen + 1) ls.length ls).length ≤ 1099511627776) :
    Calls Tryd.prog 22 #[.agg (lgC Q.D.power A0 n0 c0 A1 n1 c1 Q.D.s0 Q.D.s1 Q.a Q.gen Q.n L Q.list.length lc).toArray, .slice B q qc] w (LogT A0 A1 L lc Q.list (Q.lay ls) w) := by
  cases hl : Lg.longs ls
  · exact refLogLay_short Q A0 A1 L n0 c0 n1 c1 lc B q qc ls w h0 h1 hR hp hA0 hA1 ha hq hg htt b0 b1 hl
  · have e : Q.lay ls = (Q, 13) := by
      unfold Lg.PL.lay
      rw [hl, if_pos rfl]
    rw [e]
    exact refLogLay_long Q A0 A1 L n0 c0 n1 c1 lc B q qc ls w h0 h1 hR hp hA0 hA1 ha hq hg htt b0 b1 hl
end Go.Proofs.YtmiejaohkgemnaaDoor
