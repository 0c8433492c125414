/-
  The program's reading of a message's part, and of a message. Walks; no statement.
-/
import Derived.Test.YtmgmmbgjmnklkaaMsgRead3
namespace Go.Proofs.Ytmgmmbgjmnklkaa
set_option maxRecDepth 100000
open Go.RowKit
open Pk
set_option linter.unusedVariables false

/-- the message in block g has the part that was read, if there is such; else a panic; nothing else that was there has turned -/
def RdPt (r : Option Mg) (G : Nat → Prop) (g : Nat) (w : World) (e : Ending) (w' : World) : Prop :=
  w.grownBy w' (some g) ∧ ((∃ m, r = some m ∧ e = .returned (.tuple #[]) ∧ ∃ q, Bk w' g 28 (mgC m q) ∧ MgR G w' m q) ∨ (r = none ∧ PnX e))
theorem below_grown {w w' : World} (h : Below w.heap.size w w') (r : Option Nat) : w.grownBy w' r := grown_of_below h r

theorem readPart_0 (m : Mg) (q : Mad) (g : Nat) (G : Nat → Prop) (B : Option Addr) (d : Nat) (f : List UInt8) (w : World) (hk : Bk w g 28 (mgC m q)) (hr : MgR G w m q) (hg : ∀ b, G b → b ≠ g) (hG : ∀ b, w.heap.size ≤ b → G b) (hf : BF G w B d f) (hn : f.length ≤ 4294967296) :
    Calls Try.prog 89 #[.pointer (some ⟨g, 0, none⟩), .int .i64 0, .slice B f.length d] w (RdPt (m.put 0 f) G g w) := by
  have HK := Lib.hid hk
  have HR := Lib.hid hr
  have HG := Lib.hid hg
  have HGG := Lib.hid hG
  have HF := Lib.hid hf
  have HC := Lib.hid (readNum_any B f.length d f w hf.sl hn)
  clear hk hr hg hG hf hn
  go_enter Try.func89, Try.ntmps89
  go_wp2_with fail
  refine HC.out.mono ?_
  rintro e w1 ⟨hb1, ⟨v, hv, rfl, _⟩ | ⟨hv, kk, rfl, hk0⟩⟩
  · have HB1 := Lib.hid hb1
    have HK1 := Lib.hid (HK.out.kept hb1)
    have HV := Lib.hid hv
    have k0 : w1.cell? ⟨g, 1, none⟩ = some (.int .i64 m.view) := HK1.out.at_ (i := 1) rfl
    have z0 := HK1.out.frozen 1
    clear hb1 hv
    go_wp2_with fail
    go_end0
    have gr := grown_set (below_grown HB1.out (some g)) 1 (.int .i64 v)
    exact ⟨gr, .inl ⟨{ m with view := v }, by show (rdNum f).map _ = _; rw [HV.out]; rfl, rfl, q, HK1.out.set 1 (.int .i64 v), (show MgR G _ { m with view := v } q from ⟨(HR.out.keep (Kp.of_grown gr fun b hb e => HG.out b hb (Option.some.inj e)) fun _ h _ => h).e, (HR.out.keep (Kp.of_grown gr fun b hb e => HG.out b hb (Option.some.inj e)) fun _ h _ => h).g, (HR.out.keep (Kp.of_grown gr fun b hb e => HG.out b hb (Option.some.inj e)) fun _ h _ => h).d, (HR.out.keep (Kp.of_grown gr fun b hb e => HG.out b hb (Option.some.inj e)) fun _ h _ => h).p, (HR.out.keep (Kp.of_grown gr fun b hb e => HG.out b hb (Option.some.inj e)) fun _ h _ => h).v⟩)⟩⟩
  · exact ⟨rfl, below_grown hb1 _, .inr ⟨by show (rdNum f).map _ = _; rw [hv]; rfl, _, rfl, by first | decide | assumption | exact HZ.out | exact HZ5.out⟩⟩

theorem readPart_1 (m : Mg) (q : Mad) (g : Nat) (G : Nat → Prop) (B : Option Addr) (d : Nat) (f : List UInt8) (w : World) (hk : Bk w g 28 (mgC m q)) (hr : MgR G w m q) (hg : ∀ b, G b → b ≠ g) (hG : ∀ b, w.heap.size ≤ b → G b) (hf : BF G w B d f) (hn : f.length ≤ 4294967296) :
    Calls Try.prog 89 #[.pointer (some ⟨g, 0, none⟩), .int .i64 1, .slice B f.length d] w (RdPt (m.put 1 f) G g w) := by
  have HK := Lib.hid hk
  have HR := Lib.hid hr
  have HG := Lib.hid hg
  have HGG := Lib.hid hG
  have HF := Lib.hid hf
  have HC := Lib.hid (readNum_any B f.length d f w hf.sl hn)
  clear hk hr hg hG hf hn
  go_enter Try.func89, Try.ntmps89
  go_wp2_with fail
  refine HC.out.mono ?_
  rintro e w1 ⟨hb1, ⟨v, hv, rfl, _⟩ | ⟨hv, kk, rfl, hk0⟩⟩
  · have HB1 := Lib.hid hb1
    have HK1 := Lib.hid (HK.out.kept hb1)
    have HV := Lib.hid hv
    have k0 : w1.cell? ⟨g, 2, none⟩ = some (.int .i64 m.seq) := HK1.out.at_ (i := 2) rfl
    have z0 := HK1.out.frozen 2
    clear hb1 hv
    go_wp2_with fail
    go_end0
    have gr := grown_set (below_grown HB1.out (some g)) 2 (.int .i64 v)
    exact ⟨gr, .inl ⟨{ m with seq := v }, by show (rdNum f).map _ = _; rw [HV.out]; rfl, rfl, q, HK1.out.set 2 (.int .i64 v), (show MgR G _ { m with seq := v } q from ⟨(HR.out.keep (Kp.of_grown gr fun b hb e => HG.out b hb (Option.some.inj e)) fun _ h _ => h).e, (HR.out.keep (Kp.of_grown gr fun b hb e => HG.out b hb (Option.some.inj e)) fun _ h _ => h).g, (HR.out.keep (Kp.of_grown gr fun b hb e => HG.out b hb (Option.some.inj e)) fun _ h _ => h).d, (HR.out.keep (Kp.of_grown gr fun b hb e => HG.out b hb (Option.some.inj e)) fun _ h _ => h).p, (HR.out.keep (Kp.of_grown gr fun b hb e => HG.out b hb (Option.some.inj e)) fun _ h _ => h).v⟩)⟩⟩
  · exact ⟨rfl, below_grown hb1 _, .inr ⟨by show (rdNum f).map _ = _; rw [hv]; rfl, _, rfl, by first | decide | assumption | exact HZ.out | exact HZ5.out⟩⟩

theorem readPart_2 (m : Mg) (q : Mad) (g : Nat) (G : Nat → Prop) (B : Option Addr) (d : Nat) (f : List UInt8) (w : World) (hk : Bk w g 28 (mgC m q)) (hr : MgR G w m q) (hg : ∀ b, G b → b ≠ g) (hG : ∀ b, w.heap.size ≤ b → G b) (hf : BF G w B d f) (hn : f.length ≤ 4294967296) :
    Calls Try.prog 89 #[.pointer (some ⟨g, 0, none⟩), .int .i64 2, .slice B f.length d] w (RdPt (m.put 2 f) G g w) := by
  have HK := Lib.hid hk
  have HR := Lib.hid hr
  have HG := Lib.hid hg
  have HGG := Lib.hid hG
  have HF := Lib.hid hf
  have HC := Lib.hid (readNum_any B f.length d f w hf.sl hn)
  clear hk hr hg hG hf hn
  go_enter Try.func89, Try.ntmps89
  go_wp2_with fail
  refine HC.out.mono ?_
  rintro e w1 ⟨hb1, ⟨v, hv, rfl, _⟩ | ⟨hv, kk, rfl, hk0⟩⟩
  · have HB1 := Lib.hid hb1
    have HK1 := Lib.hid (HK.out.kept hb1)
    have HV := Lib.hid hv
    have k0 : w1.cell? ⟨g, 3, none⟩ = some (.int .i64 m.client) := HK1.out.at_ (i := 3) rfl
    have z0 := HK1.out.frozen 3
    clear hb1 hv
    go_wp2_with fail
    go_end0
    have gr := grown_set (below_grown HB1.out (some g)) 3 (.int .i64 v)
    exact ⟨gr, .inl ⟨{ m with client := v }, by show (rdNum f).map _ = _; rw [HV.out]; rfl, rfl, q, HK1.out.set 3 (.int .i64 v), (show MgR G _ { m with client := v } q from ⟨(HR.out.keep (Kp.of_grown gr fun b hb e => HG.out b hb (Option.some.inj e)) fun _ h _ => h).e, (HR.out.keep (Kp.of_grown gr fun b hb e => HG.out b hb (Option.some.inj e)) fun _ h _ => h).g, (HR.out.keep (Kp.of_grown gr fun b hb e => HG.out b hb (Option.some.inj e)) fun _ h _ => h).d, (HR.out.keep (Kp.of_grown gr fun b hb e => HG.out b hb (Option.some.inj e)) fun _ h _ => h).p, (HR.out.keep (Kp.of_grown gr fun b hb e => HG.out b hb (Option.some.inj e)) fun _ h _ => h).v⟩)⟩⟩
  · exact ⟨rfl, below_grown hb1 _, .inr ⟨by show (rdNum f).map _ = _; rw [hv]; rfl, _, rfl, by first | decide | assumption | exact HZ.out | exact HZ5.out⟩⟩

theorem readPart_3 (m : Mg) (q : Mad) (g : Nat) (G : Nat → Prop) (B : Option Addr) (d : Nat) (f : List UInt8) (w : World) (hk : Bk w g 28 (mgC m q)) (hr : MgR G w m q) (hg : ∀ b, G b → b ≠ g) (hG : ∀ b, w.heap.size ≤ b → G b) (hf : BF G w B d f) (hn : f.length ≤ 4294967296) :
    Calls Try.prog 89 #[.pointer (some ⟨g, 0, none⟩), .int .i64 3, .slice B f.length d] w (RdPt (m.put 3 f) G g w) := by
  have HK := Lib.hid hk
  have HR := Lib.hid hr
  have HG := Lib.hid hg
  have HGG := Lib.hid hG
  have HF := Lib.hid hf
  have HC := Lib.hid (readNum_any B f.length d f w hf.sl hn)
  clear hk hr hg hG hf hn
  go_enter Try.func89, Try.ntmps89
  go_wp2_with fail
  refine HC.out.mono ?_
  rintro e w1 ⟨hb1, ⟨v, hv, rfl, _⟩ | ⟨hv, kk, rfl, hk0⟩⟩
  · have HB1 := Lib.hid hb1
    have HK1 := Lib.hid (HK.out.kept hb1)
    have HV := Lib.hid hv
    have k0 : w1.cell? ⟨g, 4, none⟩ = some (.int .i64 m.stamp) := HK1.out.at_ (i := 4) rfl
    have z0 := HK1.out.frozen 4
    clear hb1 hv
    go_wp2_with fail
    go_end0
    have gr := grown_set (below_grown HB1.out (some g)) 4 (.int .i64 v)
    exact ⟨gr, .inl ⟨{ m with stamp := v }, by show (rdNum f).map _ = _; rw [HV.out]; rfl, rfl, q, HK1.out.set 4 (.int .i64 v), (show MgR G _ { m with stamp := v } q from ⟨(HR.out.keep (Kp.of_grown gr fun b hb e => HG.out b hb (Option.some.inj e)) fun _ h _ => h).e, (HR.out.keep (Kp.of_grown gr fun b hb e => HG.out b hb (Option.some.inj e)) fun _ h _ => h).g, (HR.out.keep (Kp.of_grown gr fun b hb e => HG.out b hb (Option.some.inj e)) fun _ h _ => h).d, (HR.out.keep (Kp.of_grown gr fun b hb e => HG.out b hb (Option.some.inj e)) fun _ h _ => h).p, (HR.out.keep (Kp.of_grown gr fun b hb e => HG.out b hb (Option.some.inj e)) fun _ h _ => h).v⟩)⟩⟩
  · exact ⟨rfl, below_grown hb1 _, .inr ⟨by show (rdNum f).map _ = _; rw [hv]; rfl, _, rfl, by first | decide | assumption | exact HZ.out | exact HZ5.out⟩⟩

theorem readPart_4 (m : Mg) (q : Mad) (g : Nat) (G : Nat → Prop) (B : Option Addr) (d : Nat) (f : List UInt8) (w : World) (hk : Bk w g 28 (mgC m q)) (hr : MgR G w m q) (hg : ∀ b, G b → b ≠ g) (hG : ∀ b, w.heap.size ≤ b → G b) (hf : BF G w B d f) (hn : f.length ≤ 4294967296) :
    Calls Try.prog 89 #[.pointer (some ⟨g, 0, none⟩), .int .i64 4, .slice B f.length d] w (RdPt (m.put 4 f) G g w) := by
  have HK := Lib.hid hk
  have HR := Lib.hid hr
  have HG := Lib.hid hg
  have HGG := Lib.hid hG
  have HF := Lib.hid hf
  have HC := Lib.hid (readEntry_any B f.length d f w hf.sl hn)
  clear hk hr hg hG hf hn
  go_enter Try.func89, Try.ntmps89
  go_wp2_with fail
  refine HC.out.mono ?_
  rintro e w1 ⟨hb1, ⟨v, hv, A1, c1, rfl, hr1⟩ | ⟨hv, kk, rfl, hk0⟩⟩
  · have HB1 := Lib.hid hb1
    have HK1 := Lib.hid (HK.out.kept hb1)
    have HV := Lib.hid hv
    have HR1 := Lib.hid hr1
    have k5 : w1.cell? ⟨g, 5, none⟩ = some (.int .i64 m.e.c) := HK1.out.at_ (i := 5) rfl
    have k6 : w1.cell? ⟨g, 6, none⟩ = some (.int .i64 m.e.s) := HK1.out.at_ (i := 6) rfl
    have k7 : w1.cell? ⟨g, 7, none⟩ = some (.int .i64 m.e.t) := HK1.out.at_ (i := 7) rfl
    have k8 : w1.cell? ⟨g, 8, none⟩ = some (.slice q.ea m.e.dig.length q.ec) := HK1.out.at_ (i := 8) rfl
    have z5 := HK1.out.frozen 5
    have z6 := HK1.out.frozen 6
    have z7 := HK1.out.frozen 7
    have z8 := HK1.out.frozen 8
    clear hb1 hv hr1
    go_wp2_with fail
    go_end0
    have gr := grown_set (grown_set (grown_set (grown_set (below_grown HB1.out (some g)) 5 (.int .i64 v.c)) 6 (.int .i64 v.s)) 7 (.int .i64 v.t)) 8 (.slice A1 v.dig.length c1)
    have gr1 := grown_set (grown_set (grown_set (grown_set (grown_refl w1 (some g)) 5 (.int .i64 v.c)) 6 (.int .i64 v.s)) 7 (.int .i64 v.t)) 8 (.slice A1 v.dig.length c1)
    have hm := (HR.out.keep (Kp.of_grown gr fun b hb e => HG.out b hb (Option.some.inj e)) fun _ h _ => h)
    exact ⟨gr, .inl ⟨{ m with e := v }, by show (rdEn f).map _ = _; rw [HV.out]; rfl, rfl, { q with ea := A1, ec := c1 }, (((HK1.out.set 5 (.int .i64 v.c)).set 6 (.int .i64 v.s)).set 7 (.int .i64 v.t)).set 8 (.slice A1 v.dig.length c1),
      ⟨HR1.out.keep (F' := G) (Kp.of_grown gr1 fun b hb e => HG.out b (HGG.out b hb) (Option.some.inj e)) fun b hb _ => HGG.out b hb, hm.g, hm.d, hm.p, hm.v⟩⟩⟩
  · exact ⟨rfl, below_grown hb1 _, .inr ⟨by show (rdEn f).map _ = _; rw [hv]; rfl, _, rfl, by first | decide | assumption | exact HZ.out | exact HZ5.out⟩⟩

theorem readPart_5 (m : Mg) (q : Mad) (g : Nat) (G : Nat → Prop) (B : Option Addr) (d : Nat) (f : List UInt8) (w : World) (hk : Bk w g 28 (mgC m q)) (hr : MgR G w m q) (hg : ∀ b, G b → b ≠ g) (hG : ∀ b, w.heap.size ≤ b → G b) (hf : BF G w B d f) (hn : f.length ≤ 4294967296) :
    Calls Try.prog 89 #[.pointer (some ⟨g, 0, none⟩), .int .i64 5, .slice B f.length d] w (RdPt (m.put 5 f) G g w) := by
  have HK := Lib.hid hk
  have HR := Lib.hid hr
  have HG := Lib.hid hg
  have HGG := Lib.hid hG
  have HF := Lib.hid hf
  clear hk hr hg hG hf hn
  have k0 : w.cell? ⟨g, 9, none⟩ = some (.slice q.ga m.dig.length q.gc) := HK.out.at_ (i := 9) rfl
  have z0 := HK.out.frozen 9
  go_enter Try.func89, Try.ntmps89
  go_wp2_with fail
  go_end0
  have gr := grown_set (grown_refl w (some g)) 9 (.slice B f.length d)
  have hm := (HR.out.keep (Kp.of_grown gr fun b hb e => HG.out b hb (Option.some.inj e)) fun _ h _ => h)
  exact ⟨gr, .inl ⟨{ m with dig := f }, rfl, rfl, { q with ga := B, gc := d }, HK.out.set 9 (.slice B f.length d), ⟨hm.e, HF.out.keep (Kp.of_grown gr fun b hb e => HG.out b hb (Option.some.inj e)) fun _ h _ => h, hm.d, hm.p, hm.v⟩⟩⟩

theorem readPart_6 (m : Mg) (q : Mad) (g : Nat) (G : Nat → Prop) (B : Option Addr) (d : Nat) (f : List UInt8) (w : World) (hk : Bk w g 28 (mgC m q)) (hr : MgR G w m q) (hg : ∀ b, G b → b ≠ g) (hG : ∀ b, w.heap.size ≤ b → G b) (hf : BF G w B d f) (hn : f.length ≤ 4294967296) :
    Calls Try.prog 89 #[.pointer (some ⟨g, 0, none⟩), .int .i64 6, .slice B f.length d] w (RdPt (m.put 6 f) G g w) := by
  have HK := Lib.hid hk
  have HR := Lib.hid hr
  have HG := Lib.hid hg
  have HGG := Lib.hid hG
  have HF := Lib.hid hf
  clear hk hr hg hG hf hn
  have k0 : w.cell? ⟨g, 10, none⟩ = some (.slice q.da m.data.length q.dc) := HK.out.at_ (i := 10) rfl
  have z0 := HK.out.frozen 10
  go_enter Try.func89, Try.ntmps89
  go_wp2_with fail
  go_end0
  have gr := grown_set (grown_refl w (some g)) 10 (.slice B f.length d)
  have hm := (HR.out.keep (Kp.of_grown gr fun b hb e => HG.out b hb (Option.some.inj e)) fun _ h _ => h)
  exact ⟨gr, .inl ⟨{ m with data := f }, rfl, rfl, { q with da := B, dc := d }, HK.out.set 10 (.slice B f.length d), ⟨hm.e, hm.g, HF.out.keep (Kp.of_grown gr fun b hb e => HG.out b hb (Option.some.inj e)) fun _ h _ => h, hm.p, hm.v⟩⟩⟩

theorem readPart_7 (m : Mg) (q : Mad) (g : Nat) (G : Nat → Prop) (B : Option Addr) (d : Nat) (f : List UInt8) (w : World) (hk : Bk w g 28 (mgC m q)) (hr : MgR G w m q) (hg : ∀ b, G b → b ≠ g) (hG : ∀ b, w.heap.size ≤ b → G b) (hf : BF G w B d f) (hn : f.length ≤ 4294967296) :
    Calls Try.prog 89 #[.pointer (some ⟨g, 0, none⟩), .int .i64 7, .slice B f.length d] w (RdPt (m.put 7 f) G g w) := by
  have HK := Lib.hid hk
  have HR := Lib.hid hr
  have HG := Lib.hid hg
  have HGG := Lib.hid hG
  have HF := Lib.hid hf
  have HC := Lib.hid (readListL_any B f.length d f w hf.sl hn)
  clear hk hr hg hG hf hn
  go_enter Try.func89, Try.ntmps89
  go_wp2_with fail
  refine HC.out.mono ?_
  rintro e w1 ⟨hb1, ⟨v, hv, A1, c1, rfl, hr1⟩ | ⟨hv, kk, rfl, hk0⟩⟩
  · have HB1 := Lib.hid hb1
    have HK1 := Lib.hid (HK.out.kept hb1)
    have HV := Lib.hid hv
    have HR1 := Lib.hid hr1
    have k0 : w1.cell? ⟨g, 11, none⟩ = some (.slice q.pa m.proof.length q.pc) := HK1.out.at_ (i := 11) rfl
    have z0 := HK1.out.frozen 11
    clear hb1 hv hr1
    go_wp2_with fail
    go_end0
    have gr := grown_set (below_grown HB1.out (some g)) 11 (.slice A1 v.length c1)
    have gr1 := grown_set (grown_refl w1 (some g)) 11 (.slice A1 v.length c1)
    have hm := (HR.out.keep (Kp.of_grown gr fun b hb e => HG.out b hb (Option.some.inj e)) fun _ h _ => h)
    exact ⟨gr, .inl ⟨{ m with proof := v }, by show (rdLts f).map _ = _; rw [HV.out]; rfl, rfl, { q with pa := A1, pc := c1 }, HK1.out.set 11 (.slice A1 v.length c1), ⟨hm.e, hm.g, hm.d, HR1.out.keep (F' := G) (Kp.of_grown gr1 fun b hb e => HG.out b (HGG.out b hb) (Option.some.inj e)) fun b hb _ => HGG.out b hb, hm.v⟩⟩⟩
  · exact ⟨rfl, below_grown hb1 _, .inr ⟨by show (rdLts f).map _ = _; rw [hv]; rfl, _, rfl, by first | decide | assumption | exact HZ.out | exact HZ5.out⟩⟩

theorem readPart_8 (m : Mg) (q : Mad) (g : Nat) (G : Nat → Prop) (B : Option Addr) (d : Nat) (f : List UInt8) (w : World) (hk : Bk w g 28 (mgC m q)) (hr : MgR G w m q) (hg : ∀ b, G b → b ≠ g) (hG : ∀ b, w.heap.size ≤ b → G b) (hf : BF G w B d f) (hn : f.length ≤ 4294967296) :
    Calls Try.prog 89 #[.pointer (some ⟨g, 0, none⟩), .int .i64 8, .slice B f.length d] w (RdPt (m.put 8 f) G g w) := by
  have HK := Lib.hid hk
  have HR := Lib.hid hr
  have HG := Lib.hid hg
  have HGG := Lib.hid hG
  have HF := Lib.hid hf
  have HC := Lib.hid (readListP_any B f.length d f w hf.sl hn)
  clear hk hr hg hG hf hn
  go_enter Try.func89, Try.ntmps89
  go_wp2_with fail
  refine HC.out.mono ?_
  rintro e w1 ⟨hb1, ⟨v, hv, A1, c1, rfl, hr1⟩ | ⟨hv, kk, rfl, hk0⟩⟩
  · have HB1 := Lib.hid hb1
    have HK1 := Lib.hid (HK.out.kept hb1)
    have HV := Lib.hid hv
    have HR1 := Lib.hid hr1
    have k0 : w1.cell? ⟨g, 12, none⟩ = some (.slice q.va m.proven.length q.vc) := HK1.out.at_ (i := 12) rfl
    have z0 := HK1.out.frozen 12
    clear hb1 hv hr1
    go_wp2_with fail
    go_end0
    have gr := grown_set (below_grown HB1.out (some g)) 12 (.slice A1 v.length c1)
    have gr1 := grown_set (grown_refl w1 (some g)) 12 (.slice A1 v.length c1)
    have hm := (HR.out.keep (Kp.of_grown gr fun b hb e => HG.out b hb (Option.some.inj e)) fun _ h _ => h)
    exact ⟨gr, .inl ⟨{ m with proven := v }, by show (rdPvs f).map _ = _; rw [HV.out]; rfl, rfl, { q with va := A1, vc := c1 }, HK1.out.set 12 (.slice A1 v.length c1), ⟨hm.e, hm.g, hm.d, hm.p, HR1.out.keep (F' := G) (Kp.of_grown gr1 fun b hb e => HG.out b (HGG.out b hb) (Option.some.inj e)) fun b hb _ => HGG.out b hb⟩⟩⟩
  · exact ⟨rfl, below_grown hb1 _, .inr ⟨by show (rdPvs f).map _ = _; rw [hv]; rfl, _, rfl, by first | decide | assumption | exact HZ.out | exact HZ5.out⟩⟩

theorem readPart_any (m : Mg) (q : Mad) (g : Nat) (G : Nat → Prop) (B : Option Addr) (d : Nat) (f : List UInt8) (w : World) (hk : Bk w g 28 (mgC m q)) (hr : MgR G w m q) (hg : ∀ b, G b → b ≠ g) (hG : ∀ b, w.heap.size ≤ b → G b) (hf : BF G w B d f) (hn : f.length ≤ 4294967296) (p : Nat) (hp : p < 9) :
    Calls Try.prog 89 #[.pointer (some ⟨g, 0, none⟩), pv p, .slice B f.length d] w (RdPt (m.put p f) G g w) := by
  match p, hp with
  | 0, _ => exact readPart_0 m q g G B d f w hk hr hg hG hf hn
  | 1, _ => exact readPart_1 m q g G B d f w hk hr hg hG hf hn
  | 2, _ => exact readPart_2 m q g G B d f w hk hr hg hG hf hn
  | 3, _ => exact readPart_3 m q g G B d f w hk hr hg hG hf hn
  | 4, _ => exact readPart_4 m q g G B d f w hk hr hg hG hf hn
  | 5, _ => exact readPart_5 m q g G B d f w hk hr hg hG hf hn
  | 6, _ => exact readPart_6 m q g G B d f w hk hr hg hG hf hn
  | 7, _ => exact readPart_7 m q g G B d f w hk hr hg hG hf hn
  | 8, _ => exact readPart_8 m q g G B d f w hk hr hg hG hf hn
end Go.Proofs.Ytmgmmbgjmnklkaa
