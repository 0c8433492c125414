/-
  The document's own disk: its small calls. Walks; no statement.
-/
import Derived.Test.YtmiejaohkgemnaaDoorMDisk
import Derived.Test.YtmiejaohkgemnaaDoorMRows
import Derived.Laws.ResultCell
namespace Go.Proofs.YtmiejaohkgemnaaDoor
open Go.RowKit
set_option linter.unusedVariables false

theorem refArea (a : Int) (w : World) : Calls Tryd.prog 59 #[.int .i64 a] w (fun e w' => e = .returned (.bool (known a)) ∧ w' = w) := by
  by_cases h0 : a = 0
  · subst h0
    go_enter Tryd.func59, Tryd.ntmps59
    go_wp2
    go_ret
    exact ⟨rfl, rfl⟩
  · by_cases h1 : a = 1
    · subst h1
      go_enter Tryd.func59, Tryd.ntmps59
      go_wp2
      go_ret
      exact ⟨rfl, rfl⟩
    · have hk : known a = false := by simp [known, h0, h1]
      have HK := Lib.hid hk.symm
      have g0 : (a == 0) = false := by simp [h0]
      have g1 : (a == 1) = false := by simp [h1]
      clear h0 h1 hk
      go_enter Tryd.func59, Tryd.ntmps59
      go_wp2
      go_ret
      exact ⟨congrArg (fun b => Ending.returned (.bool b)) HK.out, rfl⟩

/-- what a call hands back that has a struct and a number -/
theorem results_row_tmp {P : Program} {fn : Func} {p u : Tmp} {ty : TypeId} (h : fn.results = #[.cell p ty, .tmp u]) (tmps : Array Value) (w : World) (g : Nat) (t : TypeId) (cs : List Value) (d : TypeDesc)
    (hp : tmps.getD p undef = .pointer (some ⟨g, 0, none⟩)) (hg : Bk w g t cs)
    (hu : P.underlying ty = some d) (hd : (match d with | .struct _ | .array _ _ => true | _ => false) = true) (hi : (P.info? ty).map (·.size) = some cs.toArray.size) :
    (results fn tmps).run P w = .ok (.tuple #[.agg cs.toArray, tmps.getD u undef]) w := by
  rw [results_cell_tmp h, hp]
  simp only [asAddr, Sem.run_pure, Result.andThen_ok, run_loadVar_row w g t ty cs.toArray (0, 0) d hg hu hd hi]
theorem info_disk : (Tryd.prog.info? 36).map (·.size) = some 5 := by kernel_rfl
theorem refDraw (p s0 s1 : Int) (A0 A1 : Option Addr) (n0 c0 n1 c1 : Nat) (w : World) (hp : -9223372036854775808 ≤ p ∧ p ≤ 9223372036854775807) :
    Calls Tryd.prog 60 #[.agg #[.int .i64 p, .slice A0 n0 c0, .slice A1 n1 c1, .int .i64 s0, .int .i64 s1]] w
      (fun e w' => e = .returned (.tuple #[.agg #[.int .i64 (drawn p), .slice A0 n0 c0, .slice A1 n1 c1, .int .i64 s0, .int .i64 s1], .int .i64 (if p = 0 then 40 else 0)]) ∧ Below w.heap.size w w') := by
  by_cases h0 : p = 0
  · subst h0
    have HB := Lib.hid (bk_new2 w (.cells #[.int .i64 0, .slice A0 n0 c0, .slice A1 n1 c1, .int .i64 s0, .int .i64 s1] 36) [.int .i64 0, .slice A0 n0 c0, .slice A1 n1 c1, .int .i64 s0, .int .i64 s1] 36)
    go_enter Tryd.func60, Tryd.ntmps60
    go_wp2
    refine bodyPost_ret_by (results_row_tmp rfl _ _ (w.heap.size + 1) 36 _ _ rfl HB.out Tryd.underlying36 rfl info_disk) rfl ?_
    exact ⟨rfl, ((Below.refl _ _).alloc (Nat.le_refl _) _).alloc (by simp) _⟩
  · by_cases h1 : 0 < p
    · have g0 : (p == 0) = false := by simp [h0]
      have hw : IntKind.i64.wrap (p - 1) = p - 1 := by simp only [IntKind.wrap, IntKind.bits, IntKind.signed]; simp; omega
      have HB := Lib.hid (bk_new2 w (.cells #[.int .i64 (p - 1), .slice A0 n0 c0, .slice A1 n1 c1, .int .i64 s0, .int .i64 s1] 36) [.int .i64 (p - 1), .slice A0 n0 c0, .slice A1 n1 c1, .int .i64 s0, .int .i64 s1] 36)
      have HD := Lib.hid (show drawn p = p - 1 by simp [drawn, h1])
      have HE := Lib.hid (show (if p = 0 then (40 : Int) else 0) = 0 by simp [h0])
      rw [HD.out, HE.out]
      clear h0
      go_enter Tryd.func60, Tryd.ntmps60
      go_wp2
      refine bodyPost_ret_by (results_row_tmp rfl _ _ (w.heap.size + 1) 36 _ _ rfl HB.out Tryd.underlying36 rfl info_disk) rfl ?_
      exact ⟨rfl, ((Below.refl _ _).alloc (Nat.le_refl _) _).alloc (by simp) _⟩
    · have g0 : (p == 0) = false := by simp [h0]
      have HD := Lib.hid (show drawn p = p by simp [drawn, h1])
      have HE := Lib.hid (show (if p = 0 then (40 : Int) else 0) = 0 by simp [h0])
      have HB := Lib.hid (bk_new2 w (.cells #[.int .i64 p, .slice A0 n0 c0, .slice A1 n1 c1, .int .i64 s0, .int .i64 s1] 36) [.int .i64 p, .slice A0 n0 c0, .slice A1 n1 c1, .int .i64 s0, .int .i64 s1] 36)
      rw [HD.out, HE.out]
      clear h0
      go_enter Tryd.func60, Tryd.ntmps60
      go_wp2
      refine bodyPost_ret_by (results_row_tmp rfl _ _ (w.heap.size + 1) 36 _ _ rfl HB.out Tryd.underlying36 rfl info_disk) rfl ?_
      exact ⟨rfl, ((Below.refl _ _).alloc (Nat.le_refl _) _).alloc (by simp) _⟩
/-- an area's bytes as a call hands them back -/
def ReadS (l : List UInt8) (er : Int) (w : World) (e : Ending) (w' : World) : Prop := ∃ A n c, e = .returned (.tuple #[.slice A n c, .int .i64 er]) ∧ Sl w' A n c l ∧ Below w.heap.size w w'
theorem refRead (p s0 s1 a : Int) (A0 A1 : Option Addr) (n0 c0 n1 c1 : Nat) (l0 l1 : List UInt8) (w : World) (h0 : Sl w A0 n0 c0 l0) (h1 : Sl w A1 n1 c1 l1) (b0 : n0 ≤ 1099511627776) (b1 : n1 ≤ 1099511627776) :
    Calls Tryd.prog 46 #[.agg #[.int .i64 p, .slice A0 n0 c0, .slice A1 n1 c1, .int .i64 s0, .int .i64 s1], .int .i64 a] w (ReadS (PD.read ⟨p, l0, l1, s0, s1⟩ a).1 (PD.read ⟨p, l0, l1, s0, s1⟩ a).2 w) := by
  have hb := (Below.refl w.heap.size w).alloc (Nat.le_refl _) (.cells #[.int .i64 p, .slice A0 n0 c0, .slice A1 n1 c1, .int .i64 s0, .int .i64 s1] 36)
  have HB := Lib.hid hb
  have HA := Lib.hid (refArea a (w.alloc (.cells #[.int .i64 p, .slice A0 n0 c0, .slice A1 n1 c1, .int .i64 s0, .int .i64 s1] 36)))
  have HC0 := Lib.hid (copyBytes_any A0 n0 c0 l0 _ (h0.below hb).rd b0)
  have HC1 := Lib.hid (copyBytes_any A1 n1 c1 l1 _ (h1.below hb).rd b1)
  have HL0 := Lib.hid h0.len
  have HL1 := Lib.hid h1.len
  clear hb h0 h1
  by_cases a0 : a = 0
  · subst a0
    have HK := Lib.hid (show known 0 = true from rfl)
    have HR := Lib.hid (show PD.read ⟨p, l0, l1, s0, s1⟩ 0 = (l0, 0) from rfl)
    rw [HR.out]
    go_enter Tryd.func46, Tryd.ntmps46
    go_wp2_with fail
    refine HA.out.mono ?_
    rintro e w1 ⟨rfl, rfl⟩
    rw [HK.out]
    go_wp2_with fail
    refine HC0.out.mono ?_
    rintro e w1 ⟨A, n, c, rfl, ho, hbb⟩
    have HO := Lib.hid ho
    have HBB := Lib.hid hbb
    clear ho hbb
    go_wp2_with fail
    go_ret2
    exact ⟨A, n, c, rfl, Sl.own HO.out, below_next HB.out HBB.out HB.out.size⟩
  · by_cases a1 : a = 1
    · subst a1
      have HK := Lib.hid (show known 1 = true from rfl)
      have HR := Lib.hid (show PD.read ⟨p, l0, l1, s0, s1⟩ 1 = (l1, 0) from rfl)
      rw [HR.out]
      clear a0
      go_enter Tryd.func46, Tryd.ntmps46
      go_wp2_with fail
      refine HA.out.mono ?_
      rintro e w1 ⟨rfl, rfl⟩
      rw [HK.out]
      go_wp2_with fail
      refine HC1.out.mono ?_
      rintro e w1 ⟨A, n, c, rfl, ho, hbb⟩
      have HO := Lib.hid ho
      have HBB := Lib.hid hbb
      clear ho hbb
      go_wp2_with fail
      go_ret2
      exact ⟨A, n, c, rfl, Sl.own HO.out, below_next HB.out HBB.out HB.out.size⟩
    · have HK := Lib.hid (show known a = false by simp [known, a0, a1])
      have HR := Lib.hid (show PD.read ⟨p, l0, l1, s0, s1⟩ a = ([], 41) by unfold PD.read; rw [HK.out]; rfl)
      rw [HR.out]
      clear a0 a1
      go_enter Tryd.func46, Tryd.ntmps46
      go_wp2_with fail
      refine HA.out.mono ?_
      rintro e w1 ⟨rfl, rfl⟩
      rw [HK.out]
      go_wp2_with fail
      go_ret2
      exact ⟨none, 0, 0, rfl, Sl.nil_ _, HB.out⟩
end Go.Proofs.YtmiejaohkgemnaaDoor
