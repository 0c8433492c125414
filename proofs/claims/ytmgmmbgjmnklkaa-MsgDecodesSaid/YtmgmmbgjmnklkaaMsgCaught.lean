/-
  The program's catching of a panic. Walks; no statement.
-/
import Derived.Test.YtmgmmbgjmnklkaaMsgRead5
import Derived.Defers
import Derived.Recover
namespace Go.Proofs.Ytmgmmbgjmnklkaa
set_option maxRecDepth 100000
open Go.RowKit
open Pk
set_option linter.unusedVariables false

theorem catchB_panic (p : Addr) (x : Int) (k : Int) (older : List PanicEntry) (w : World) (hc : w.cell? p = some (.int .i64 x)) (hz : w.frozen? p = false) :
    CallsD Try.prog 104 #[.pointer (some p)] (.panicking ({ v := .iface 32 (.int .i64 k), recovered := false } :: older)) w fun e u' w' =>
      e = .returned (.tuple #[]) ∧ u' = .panicking ({ v := .iface 32 (.int .i64 k), recovered := true } :: older) ∧ w' = w.setCell p (.int .i64 k) := by
  refine callsD_of_wpS Try.func104 rfl fun c₀ cs hu => ?_
  apply wpS_seq
  apply wpS_region
  have hta : ∀ w, (Instr.typeAssert (.iface 32 (.int .i64 k)) 20 32 true).run Try.prog w = .ok (.tuple #[.int .i64 k, .bool true]) w := fun w => by rfl
  simp [wpOpsS, go_sem, recoverD, hu, Try.ntmps104, Exit.thenS, hta]
  apply wpS_seq
  apply wpS_region
  simp [wpOpsS, go_sem, Exit.thenS]
  refine wpS_cond (t := true) (by simp [Act.eval, Array.replicate]) ?_
  simp only [if_true]
  apply wpS_region
  simp [wpOpsS, go_sem, hc, hz, bodyPostS, results, Try.results104]
theorem catchB_idle (p : Addr) (w : World) :
    CallsD Try.prog 104 #[.pointer (some p)] .returning w fun e u' w' => e = .returned (.tuple #[]) ∧ u' = .returning ∧ w' = w := by
  refine callsD_of_wpS Try.func104 rfl fun c₀ cs hu => ?_
  apply wpS_seq
  apply wpS_region
  have hta : ∀ w, (Instr.typeAssert .nilIface 20 32 true).run Try.prog w = .ok (.tuple #[.int .i64 0, .bool false]) w := fun w => by rfl
  simp [wpOpsS, go_sem, recoverD, hu, Try.ntmps104, Exit.thenS, hta]
  apply wpS_seq
  apply wpS_region
  simp [wpOpsS, go_sem, Exit.thenS]
  refine wpS_cond (t := false) (by simp [Act.eval, Array.replicate]) ?_
  simp only [Bool.false_eq_true, if_false]
  refine wpS_of_wp (wp_skip ?_)
  cases c₀
  simp_all [bodyPostS, results, Try.results104]

theorem catchM_panic (p : Addr) (x : Int) (k : Int) (older : List PanicEntry) (w : World) (hc : w.cell? p = some (.int .i64 x)) (hz : w.frozen? p = false) :
    CallsD Try.prog 113 #[.pointer (some p)] (.panicking ({ v := .iface 32 (.int .i64 k), recovered := false } :: older)) w fun e u' w' =>
      e = .returned (.tuple #[]) ∧ u' = .panicking ({ v := .iface 32 (.int .i64 k), recovered := true } :: older) ∧ w' = w.setCell p (.int .i64 k) := by
  refine callsD_of_wpS Try.func113 rfl fun c₀ cs hu => ?_
  apply wpS_seq
  apply wpS_region
  have hta : ∀ w, (Instr.typeAssert (.iface 32 (.int .i64 k)) 20 32 true).run Try.prog w = .ok (.tuple #[.int .i64 k, .bool true]) w := fun w => by rfl
  simp [wpOpsS, go_sem, recoverD, hu, Try.ntmps113, Exit.thenS, hta]
  apply wpS_seq
  apply wpS_region
  simp [wpOpsS, go_sem, Exit.thenS]
  refine wpS_cond (t := true) (by simp [Act.eval, Array.replicate]) ?_
  simp only [if_true]
  apply wpS_region
  simp [wpOpsS, go_sem, hc, hz, bodyPostS, results, Try.results113]
theorem catchM_idle (p : Addr) (w : World) :
    CallsD Try.prog 113 #[.pointer (some p)] .returning w fun e u' w' => e = .returned (.tuple #[]) ∧ u' = .returning ∧ w' = w := by
  refine callsD_of_wpS Try.func113 rfl fun c₀ cs hu => ?_
  apply wpS_seq
  apply wpS_region
  have hta : ∀ w, (Instr.typeAssert .nilIface 20 32 true).run Try.prog w = .ok (.tuple #[.int .i64 0, .bool false]) w := fun w => by rfl
  simp [wpOpsS, go_sem, recoverD, hu, Try.ntmps113, Exit.thenS, hta]
  apply wpS_seq
  apply wpS_region
  simp [wpOpsS, go_sem, Exit.thenS]
  refine wpS_cond (t := false) (by simp [Act.eval, Array.replicate]) ?_
  simp only [Bool.false_eq_true, if_false]
  refine wpS_of_wp (wp_skip ?_)
  cases c₀
  simp_all [bodyPostS, results, Try.results113]

theorem catchL_panic (p : Addr) (x : Int) (k : Int) (older : List PanicEntry) (w : World) (hc : w.cell? p = some (.int .i64 x)) (hz : w.frozen? p = false) :
    CallsD Try.prog 119 #[.pointer (some p)] (.panicking ({ v := .iface 32 (.int .i64 k), recovered := false } :: older)) w fun e u' w' =>
      e = .returned (.tuple #[]) ∧ u' = .panicking ({ v := .iface 32 (.int .i64 k), recovered := true } :: older) ∧ w' = w.setCell p (.int .i64 k) := by
  refine callsD_of_wpS Try.func119 rfl fun c₀ cs hu => ?_
  apply wpS_seq
  apply wpS_region
  have hta : ∀ w, (Instr.typeAssert (.iface 32 (.int .i64 k)) 20 32 true).run Try.prog w = .ok (.tuple #[.int .i64 k, .bool true]) w := fun w => by rfl
  simp [wpOpsS, go_sem, recoverD, hu, Try.ntmps119, Exit.thenS, hta]
  apply wpS_seq
  apply wpS_region
  simp [wpOpsS, go_sem, Exit.thenS]
  refine wpS_cond (t := true) (by simp [Act.eval, Array.replicate]) ?_
  simp only [if_true]
  apply wpS_region
  simp [wpOpsS, go_sem, hc, hz, bodyPostS, results, Try.results119]
theorem catchL_idle (p : Addr) (w : World) :
    CallsD Try.prog 119 #[.pointer (some p)] .returning w fun e u' w' => e = .returned (.tuple #[]) ∧ u' = .returning ∧ w' = w := by
  refine callsD_of_wpS Try.func119 rfl fun c₀ cs hu => ?_
  apply wpS_seq
  apply wpS_region
  have hta : ∀ w, (Instr.typeAssert .nilIface 20 32 true).run Try.prog w = .ok (.tuple #[.int .i64 0, .bool false]) w := fun w => by rfl
  simp [wpOpsS, go_sem, recoverD, hu, Try.ntmps119, Exit.thenS, hta]
  apply wpS_seq
  apply wpS_region
  simp [wpOpsS, go_sem, Exit.thenS]
  refine wpS_cond (t := false) (by simp [Act.eval, Array.replicate]) ?_
  simp only [Bool.false_eq_true, if_false]
  refine wpS_of_wp (wp_skip ?_)
  cases c₀
  simp_all [bodyPostS, results, Try.results119]

theorem catchE_panic (p : Addr) (x : Int) (k : Int) (older : List PanicEntry) (w : World) (hc : w.cell? p = some (.int .i64 x)) (hz : w.frozen? p = false) :
    CallsD Try.prog 123 #[.pointer (some p)] (.panicking ({ v := .iface 32 (.int .i64 k), recovered := false } :: older)) w fun e u' w' =>
      e = .returned (.tuple #[]) ∧ u' = .panicking ({ v := .iface 32 (.int .i64 k), recovered := true } :: older) ∧ w' = w.setCell p (.int .i64 k) := by
  refine callsD_of_wpS Try.func123 rfl fun c₀ cs hu => ?_
  apply wpS_seq
  apply wpS_region
  have hta : ∀ w, (Instr.typeAssert (.iface 32 (.int .i64 k)) 20 32 true).run Try.prog w = .ok (.tuple #[.int .i64 k, .bool true]) w := fun w => by rfl
  simp [wpOpsS, go_sem, recoverD, hu, Try.ntmps123, Exit.thenS, hta]
  apply wpS_seq
  apply wpS_region
  simp [wpOpsS, go_sem, Exit.thenS]
  refine wpS_cond (t := true) (by simp [Act.eval, Array.replicate]) ?_
  simp only [if_true]
  apply wpS_region
  simp [wpOpsS, go_sem, hc, hz, bodyPostS, results, Try.results123]
theorem catchE_idle (p : Addr) (w : World) :
    CallsD Try.prog 123 #[.pointer (some p)] .returning w fun e u' w' => e = .returned (.tuple #[]) ∧ u' = .returning ∧ w' = w := by
  refine callsD_of_wpS Try.func123 rfl fun c₀ cs hu => ?_
  apply wpS_seq
  apply wpS_region
  have hta : ∀ w, (Instr.typeAssert .nilIface 20 32 true).run Try.prog w = .ok (.tuple #[.int .i64 0, .bool false]) w := fun w => by rfl
  simp [wpOpsS, go_sem, recoverD, hu, Try.ntmps123, Exit.thenS, hta]
  apply wpS_seq
  apply wpS_region
  simp [wpOpsS, go_sem, Exit.thenS]
  refine wpS_cond (t := false) (by simp [Act.eval, Array.replicate]) ?_
  simp only [Bool.false_eq_true, if_false]
  refine wpS_of_wp (wp_skip ?_)
  cases c₀
  simp_all [bodyPostS, results, Try.results123]

/-- what the call that is caught answers -/
def Does (OK : Value → World → Prop) (BAD : Int → Prop) (w : World) (e : Ending) (w' : World) : Prop := Below w.heap.size w w' ∧ ((∃ v, e = .returned v ∧ OK v w') ∨ (∃ k, e = Pn k ∧ BAD k))
theorem caughtB_any (cb : Nat) (p1 p2 p3 : Addr) (w : World) (OK : Value → World → Prop) (BAD : Int → Prop)
    (hcb : ∀ args w, (callFunc cb args).run Try.prog w = .ok (.enter cb args) w)
    (H : Calls Try.prog cb #[.pointer (some p1), .pointer (some p2), .pointer (some p3)] (w.alloc (.cells #[.int .i64 81] 32)) (Does OK BAD (w.alloc (.cells #[.int .i64 81] 32)))) :
    Calls Try.prog 67 #[.func (.func cb) #[] #[.pointer (some p1), .pointer (some p2), .pointer (some p3)]] w fun e w' => Below w.heap.size w w' ∧
      ((∃ v w2, e = .returned (.tuple #[v, .int .i64 0]) ∧ OK v w2 ∧ w2.grownBy w' (some w.heap.size)) ∨ (∃ k, e = .returned (.tuple #[.slice none 0 0, .int .i64 k]) ∧ BAD k)) := by
  have hmf : ∀ (fn : Fn) (first cap : Array Value) (w : World), (Instr.makeFunc fn first cap).run Try.prog w = .ok (.func fn first cap) w := fun _ _ _ _ => rfl
  have HH := Lib.hid H
  clear H
  go_enter_defers Try.func67, Try.ntmps67
  go_wp2_with fail
  refine HH.out.mono ?_
  rintro e w2 ⟨hb, ⟨v, rfl, hv⟩ | ⟨k, rfl, hk⟩⟩
  · have HB2 := Lib.hid (below_next ((Below.refl w.heap.size w).alloc (Nat.le_refl _) (.cells #[.int .i64 81] 32)) hb (by simp))
    have HV := Lib.hid hv
    have HK := Lib.hid ((Bk.new w 32 [.int .i64 81]).kept hb)
    have k0 := HK.out.at_ (i := 0) rfl
    have z0 := HK.out.frozen 0
    clear hb hv
    go_wp2_with fail
    have hc : (w2.setCell ⟨w.heap.size, 0, none⟩ (.int .i64 0)).cell? ⟨w.heap.size, 0, none⟩ = some (.int .i64 0) := (HK.out.set 0 (.int .i64 0)).at_ (i := 0) rfl
    refine leaves_cons (f := 104) (args := #[.pointer (some ⟨w.heap.size, 0, none⟩)]) (by simp) (by simp [go_sem]) ?_
    refine (catchB_idle _ _).mono ?_
    rintro e u' w3 ⟨rfl, rfl, rfl⟩
    refine ⟨.tuple #[v, .int .i64 0], ?_, HB2.out.grown (grown_set (grown_refl w2 (some w.heap.size)) 0 (.int .i64 0)) HB2.out.size (fun g hg => by cases hg; omega), .inl ⟨v, w2, rfl, HV.out, grown_set (grown_refl w2 (some w.heap.size)) 0 (.int .i64 0)⟩⟩
    simp [results, Try.results67, go_sem, hc]
  · have HB2 := Lib.hid (below_next ((Below.refl w.heap.size w).alloc (Nat.le_refl _) (.cells #[.int .i64 81] 32)) hb (by simp))
    have HKB := Lib.hid hk
    have HK := Lib.hid ((Bk.new w 32 [.int .i64 81]).kept hb)
    clear hb hk
    have hc : (w2.setCell ⟨w.heap.size, 0, none⟩ (.int .i64 k)).cell? ⟨w.heap.size, 0, none⟩ = some (.int .i64 k) := (HK.out.set 0 (.int .i64 k)).at_ (i := 0) rfl
    refine leaves_cons (f := 104) (args := #[.pointer (some ⟨w.heap.size, 0, none⟩)]) (by simp) (by simp [go_sem]) ?_
    refine (catchB_panic ⟨w.heap.size, 0, none⟩ 81 k [] w2 (HK.out.at_ (i := 0) rfl) (HK.out.frozen 0)).mono ?_
    rintro e u' w3 ⟨rfl, rfl, rfl⟩
    refine ⟨.tuple #[.slice none 0 0, .int .i64 k], ?_, HB2.out.grown (grown_set (grown_refl w2 (some w.heap.size)) 0 (.int .i64 k)) HB2.out.size (fun g hg => by cases hg; omega), .inr ⟨k, rfl, HKB.out⟩⟩
    simp [results, Try.results67, go_sem, hc]

theorem info1_M : (Try.prog.info? 28).map (·.size) = some 13 := by kernel_rfl
theorem info1_L : (Try.prog.info? 46).map (·.size) = some 5 := by kernel_rfl
theorem info1_E : (Try.prog.info? 24).map (·.size) = some 4 := by kernel_rfl
/-- what a call hands back that has a struct and a number, both in boxes -/
theorem load_err {w : World} {g : Nat} {t : TypeId} {v : Value} (h : Bk w g t [v]) : (loadVar 32 ⟨g, 0, none⟩).run Try.prog w = .ok v w := by
  have hc := h.at_ (i := 0) rfl
  simp [go_sem, hc]
theorem results_rows {P : Program} {fn : Func} {p p2 : Tmp} {ty te : TypeId} (h : fn.results = #[.cell p ty, .cell p2 te]) (tmps : Array Value) (w : World) (g : Nat) (t : TypeId) (cs : List Value) (d : TypeDesc) (g2 : Nat) (t2 : TypeId) (v : Value)
    (hp : tmps.getD p undef = .pointer (some ⟨g, 0, none⟩)) (hg : Bk w g t cs)
    (hu : P.underlying ty = some d) (hd : (match d with | .struct _ | .array _ _ => true | _ => false) = true) (hi : (P.info? ty).map (·.size) = some cs.toArray.size)
    (hp2 : tmps.getD p2 undef = .pointer (some ⟨g2, 0, none⟩)) (hl : (loadVar te ⟨g2, 0, none⟩).run P w = .ok v w) :
    (results fn tmps).run P w = .ok (.tuple #[.agg cs.toArray, v]) w := by
  have e : (results fn tmps).run P w = ((asAddr (tmps.getD p undef)).run P w).andThen fun a w1 => ((loadVar ty a).run P w1).andThen fun x w2 => ((asAddr (tmps.getD p2 undef)).run P w2).andThen fun b w3 => ((loadVar te b).run P w3).andThen fun y w4 => .ok (.tuple #[x, y]) w4 := by
    simp only [results, h]
    simp [Sem.run_bind, Result.andThen]
  rw [e, hp, hp2]
  simp only [asAddr, Sem.run_pure, Result.andThen_ok, run_loadVar_row w g t ty cs.toArray (0, 0) d hg hu hd hi]
  simp only [hl, Result.andThen_ok]

/-- what the call that is caught answers -/
def DoesM (OK : Mg → Mad → World → Prop) (BAD : Int → Prop) (w : World) (e : Ending) (w' : World) : Prop := Below w.heap.size w w' ∧ ((∃ (m : Mg) (q : Mad), e = .returned (.agg #[.int .i64 m.kind, .int .i64 m.view, .int .i64 m.seq, .int .i64 m.client, .int .i64 m.stamp, .int .i64 m.e.c, .int .i64 m.e.s, .int .i64 m.e.t, .slice q.ea m.e.dig.length q.ec, .slice q.ga m.dig.length q.gc, .slice q.da m.data.length q.dc, .slice q.pa m.proof.length q.pc, .slice q.va m.proven.length q.vc]) ∧ OK m q w') ∨ (∃ k, e = Pn k ∧ BAD k))
/-- what has turned lies from block B on -/
def TurnedM (w w2 w' : World) : Prop := ∀ F : Nat → Prop, (∀ b, F b → w.heap.size + 2 ≤ b) → Kp F w2 w'
set_option maxHeartbeats 1600000 in
theorem caughtM_any (cb : Nat) (p1 p2 p3 : Addr) (w : World) (OK : Mg → Mad → World → Prop) (BAD : Int → Prop)
    (hcb : ∀ args w, (callFunc cb args).run Try.prog w = .ok (.enter cb args) w)
    (H : Calls Try.prog cb #[.pointer (some p1), .pointer (some p2), .pointer (some p3)] ((w.alloc (.cells #[.int .i64 0, .int .i64 0, .int .i64 0, .int .i64 0, .int .i64 0, .int .i64 0, .int .i64 0, .int .i64 0, .slice none 0 0, .slice none 0 0, .slice none 0 0, .slice none 0 0, .slice none 0 0] 28)).alloc (.cells #[.int .i64 81] 32)) (DoesM OK BAD ((w.alloc (.cells #[.int .i64 0, .int .i64 0, .int .i64 0, .int .i64 0, .int .i64 0, .int .i64 0, .int .i64 0, .int .i64 0, .slice none 0 0, .slice none 0 0, .slice none 0 0, .slice none 0 0, .slice none 0 0] 28)).alloc (.cells #[.int .i64 81] 32)))) :
    Calls Try.prog 82 #[.func (.func cb) #[] #[.pointer (some p1), .pointer (some p2), .pointer (some p3)]] w fun e w' => Below w.heap.size w w' ∧
      ((∃ (m : Mg) (q : Mad) (w2 : World), e = .returned (.tuple #[.agg #[.int .i64 m.kind, .int .i64 m.view, .int .i64 m.seq, .int .i64 m.client, .int .i64 m.stamp, .int .i64 m.e.c, .int .i64 m.e.s, .int .i64 m.e.t, .slice q.ea m.e.dig.length q.ec, .slice q.ga m.dig.length q.gc, .slice q.da m.data.length q.dc, .slice q.pa m.proof.length q.pc, .slice q.va m.proven.length q.vc], .int .i64 0]) ∧ OK m q w2 ∧ TurnedM w w2 w') ∨ (∃ k, e = .returned (.tuple #[.agg #[.int .i64 0, .int .i64 0, .int .i64 0, .int .i64 0, .int .i64 0, .int .i64 0, .int .i64 0, .int .i64 0, .slice none 0 0, .slice none 0 0, .slice none 0 0, .slice none 0 0, .slice none 0 0], .int .i64 k]) ∧ BAD k)) := by
  have hmf : ∀ (fn : Fn) (first cap : Array Value) (w : World), (Instr.makeFunc fn first cap).run Try.prog w = .ok (.func fn first cap) w := fun _ _ _ _ => rfl
  have HH := Lib.hid H
  have hB0 := ((Below.refl w.heap.size w).alloc (Nat.le_refl _) (.cells #[.int .i64 0, .int .i64 0, .int .i64 0, .int .i64 0, .int .i64 0, .int .i64 0, .int .i64 0, .int .i64 0, .slice none 0 0, .slice none 0 0, .slice none 0 0, .slice none 0 0, .slice none 0 0] 28)).alloc (by simp) (.cells #[.int .i64 81] 32)
  have HB0 := Lib.hid hB0
  have HK0 := Lib.hid ((Bk.new w 28 [.int .i64 0, .int .i64 0, .int .i64 0, .int .i64 0, .int .i64 0, .int .i64 0, .int .i64 0, .int .i64 0, .slice none 0 0, .slice none 0 0, .slice none 0 0, .slice none 0 0, .slice none 0 0]).alloc (.cells #[.int .i64 81] 32))
  have he := Bk.new (w.alloc (.cells #[.int .i64 0, .int .i64 0, .int .i64 0, .int .i64 0, .int .i64 0, .int .i64 0, .int .i64 0, .int .i64 0, .slice none 0 0, .slice none 0 0, .slice none 0 0, .slice none 0 0, .slice none 0 0] 28)) 32 [.int .i64 81]
  rw [show (w.alloc (.cells #[.int .i64 0, .int .i64 0, .int .i64 0, .int .i64 0, .int .i64 0, .int .i64 0, .int .i64 0, .int .i64 0, .slice none 0 0, .slice none 0 0, .slice none 0 0, .slice none 0 0, .slice none 0 0] 28)).heap.size = w.heap.size + 1 by simp] at he
  have HE0 := Lib.hid he
  clear H hB0 he
  go_enter_defers Try.func82, Try.ntmps82
  go_wp2_with fail
  refine HH.out.mono ?_
  rintro e w2 ⟨hb, ⟨m, q, rfl, hv⟩ | ⟨k, rfl, hk⟩⟩
  · have HB2 := Lib.hid (below_next HB0.out hb HB0.out.size)
    have HV := Lib.hid hv
    have HK := Lib.hid (HK0.out.kept hb)
    have HE := Lib.hid (HE0.out.kept hb)
    have e0 := HE.out.at_ (i := 0) rfl
    have f0 := HE.out.frozen 0
    have k0 := HK.out.at_ (i := 0) rfl
    have z0 := HK.out.frozen 0
    have k1 := HK.out.at_ (i := 1) rfl
    have z1 := HK.out.frozen 1
    have k2 := HK.out.at_ (i := 2) rfl
    have z2 := HK.out.frozen 2
    have k3 := HK.out.at_ (i := 3) rfl
    have z3 := HK.out.frozen 3
    have k4 := HK.out.at_ (i := 4) rfl
    have z4 := HK.out.frozen 4
    have k5 := HK.out.at_ (i := 5) rfl
    have z5 := HK.out.frozen 5
    have k6 := HK.out.at_ (i := 6) rfl
    have z6 := HK.out.frozen 6
    have k7 := HK.out.at_ (i := 7) rfl
    have z7 := HK.out.frozen 7
    have k8 := HK.out.at_ (i := 8) rfl
    have z8 := HK.out.frozen 8
    have k9 := HK.out.at_ (i := 9) rfl
    have z9 := HK.out.frozen 9
    have k10 := HK.out.at_ (i := 10) rfl
    have z10 := HK.out.frozen 10
    have k11 := HK.out.at_ (i := 11) rfl
    have z11 := HK.out.frozen 11
    have k12 := HK.out.at_ (i := 12) rfl
    have z12 := HK.out.frozen 12
    clear hb hv
    go_wp2_with fail
    have kb := (((((((((((((HK.out.set 0 (.int .i64 m.kind)).set 1 (.int .i64 m.view)).set 2 (.int .i64 m.seq)).set 3 (.int .i64 m.client)).set 4 (.int .i64 m.stamp)).set 5 (.int .i64 m.e.c)).set 6 (.int .i64 m.e.s)).set 7 (.int .i64 m.e.t)).set 8 (.slice q.ea m.e.dig.length q.ec)).set 9 (.slice q.ga m.dig.length q.gc)).set 10 (.slice q.da m.data.length q.dc)).set 11 (.slice q.pa m.proof.length q.pc)).set 12 (.slice q.va m.proven.length q.vc)).far (p := ⟨w.heap.size + 1, 0, none⟩) (by show w.heap.size ≠ w.heap.size + 1; omega) (.int .i64 0)
    have ke := (((((((((((((HE.out.far (p := ⟨w.heap.size, 0, none⟩) (by show w.heap.size + 1 ≠ w.heap.size; omega) (.int .i64 m.kind)).far (p := ⟨w.heap.size, 1, none⟩) (by show w.heap.size + 1 ≠ w.heap.size; omega) (.int .i64 m.view)).far (p := ⟨w.heap.size, 2, none⟩) (by show w.heap.size + 1 ≠ w.heap.size; omega) (.int .i64 m.seq)).far (p := ⟨w.heap.size, 3, none⟩) (by show w.heap.size + 1 ≠ w.heap.size; omega) (.int .i64 m.client)).far (p := ⟨w.heap.size, 4, none⟩) (by show w.heap.size + 1 ≠ w.heap.size; omega) (.int .i64 m.stamp)).far (p := ⟨w.heap.size, 5, none⟩) (by show w.heap.size + 1 ≠ w.heap.size; omega) (.int .i64 m.e.c)).far (p := ⟨w.heap.size, 6, none⟩) (by show w.heap.size + 1 ≠ w.heap.size; omega) (.int .i64 m.e.s)).far (p := ⟨w.heap.size, 7, none⟩) (by show w.heap.size + 1 ≠ w.heap.size; omega) (.int .i64 m.e.t)).far (p := ⟨w.heap.size, 8, none⟩) (by show w.heap.size + 1 ≠ w.heap.size; omega) (.slice q.ea m.e.dig.length q.ec)).far (p := ⟨w.heap.size, 9, none⟩) (by show w.heap.size + 1 ≠ w.heap.size; omega) (.slice q.ga m.dig.length q.gc)).far (p := ⟨w.heap.size, 10, none⟩) (by show w.heap.size + 1 ≠ w.heap.size; omega) (.slice q.da m.data.length q.dc)).far (p := ⟨w.heap.size, 11, none⟩) (by show w.heap.size + 1 ≠ w.heap.size; omega) (.slice q.pa m.proof.length q.pc)).far (p := ⟨w.heap.size, 12, none⟩) (by show w.heap.size + 1 ≠ w.heap.size; omega) (.slice q.va m.proven.length q.vc)).set 0 (.int .i64 0)
    have gr := (grown_set (grown_set (grown_set (grown_set (grown_set (grown_set (grown_set (grown_set (grown_set (grown_set (grown_set (grown_set (grown_set (grown_refl w2 (some w.heap.size)) 0 (.int .i64 m.kind)) 1 (.int .i64 m.view)) 2 (.int .i64 m.seq)) 3 (.int .i64 m.client)) 4 (.int .i64 m.stamp)) 5 (.int .i64 m.e.c)) 6 (.int .i64 m.e.s)) 7 (.int .i64 m.e.t)) 8 (.slice q.ea m.e.dig.length q.ec)) 9 (.slice q.ga m.dig.length q.gc)) 10 (.slice q.da m.data.length q.dc)) 11 (.slice q.pa m.proof.length q.pc)) 12 (.slice q.va m.proven.length q.vc))
    have gr2 := grown_set (grown_refl (((((((((((((w2.setCell ⟨w.heap.size, 0, none⟩ (.int .i64 m.kind)).setCell ⟨w.heap.size, 1, none⟩ (.int .i64 m.view)).setCell ⟨w.heap.size, 2, none⟩ (.int .i64 m.seq)).setCell ⟨w.heap.size, 3, none⟩ (.int .i64 m.client)).setCell ⟨w.heap.size, 4, none⟩ (.int .i64 m.stamp)).setCell ⟨w.heap.size, 5, none⟩ (.int .i64 m.e.c)).setCell ⟨w.heap.size, 6, none⟩ (.int .i64 m.e.s)).setCell ⟨w.heap.size, 7, none⟩ (.int .i64 m.e.t)).setCell ⟨w.heap.size, 8, none⟩ (.slice q.ea m.e.dig.length q.ec)).setCell ⟨w.heap.size, 9, none⟩ (.slice q.ga m.dig.length q.gc)).setCell ⟨w.heap.size, 10, none⟩ (.slice q.da m.data.length q.dc)).setCell ⟨w.heap.size, 11, none⟩ (.slice q.pa m.proof.length q.pc)).setCell ⟨w.heap.size, 12, none⟩ (.slice q.va m.proven.length q.vc)) (some (w.heap.size + 1))) 0 (.int .i64 0)
    have hb3 := (HB2.out.grown gr HB2.out.size (fun g hg => by cases hg; omega)).grown gr2 (by have := HB2.out.size; simpa using this) (fun g hg => by cases hg; omega)
    have hkp : TurnedM w w2 ((((((((((((((w2.setCell ⟨w.heap.size, 0, none⟩ (.int .i64 m.kind)).setCell ⟨w.heap.size, 1, none⟩ (.int .i64 m.view)).setCell ⟨w.heap.size, 2, none⟩ (.int .i64 m.seq)).setCell ⟨w.heap.size, 3, none⟩ (.int .i64 m.client)).setCell ⟨w.heap.size, 4, none⟩ (.int .i64 m.stamp)).setCell ⟨w.heap.size, 5, none⟩ (.int .i64 m.e.c)).setCell ⟨w.heap.size, 6, none⟩ (.int .i64 m.e.s)).setCell ⟨w.heap.size, 7, none⟩ (.int .i64 m.e.t)).setCell ⟨w.heap.size, 8, none⟩ (.slice q.ea m.e.dig.length q.ec)).setCell ⟨w.heap.size, 9, none⟩ (.slice q.ga m.dig.length q.gc)).setCell ⟨w.heap.size, 10, none⟩ (.slice q.da m.data.length q.dc)).setCell ⟨w.heap.size, 11, none⟩ (.slice q.pa m.proof.length q.pc)).setCell ⟨w.heap.size, 12, none⟩ (.slice q.va m.proven.length q.vc)).setCell ⟨w.heap.size + 1, 0, none⟩ (.int .i64 0)) := fun F hF =>
      ⟨by simp, fun b hb hl => (gr2.block b (by simpa using hl) (by intro e; injection e with e; have := hF b hb; omega)).trans (gr.block b hl (by intro e; injection e with e; have := hF b hb; omega))⟩
    refine leaves_cons (f := 113) (args := #[.pointer (some ⟨w.heap.size + 1, 0, none⟩)]) (by simp) (by simp [go_sem]) ?_
    refine (catchM_idle _ _).mono ?_
    rintro e u' w3 ⟨rfl, rfl, rfl⟩
    refine ⟨.tuple #[.agg #[.int .i64 m.kind, .int .i64 m.view, .int .i64 m.seq, .int .i64 m.client, .int .i64 m.stamp, .int .i64 m.e.c, .int .i64 m.e.s, .int .i64 m.e.t, .slice q.ea m.e.dig.length q.ec, .slice q.ga m.dig.length q.gc, .slice q.da m.data.length q.dc, .slice q.pa m.proof.length q.pc, .slice q.va m.proven.length q.vc], .int .i64 0], ?_, hb3, .inl ⟨m, q, w2, rfl, HV.out, hkp⟩⟩
    exact results_rows rfl _ _ w.heap.size 28 _ _ (w.heap.size + 1) 32 (.int .i64 0) rfl kb Try.underlying28 rfl info1_M rfl (load_err ke)
  · have HB2 := Lib.hid (below_next HB0.out hb HB0.out.size)
    have HKB := Lib.hid hk
    have HK := Lib.hid (HK0.out.kept hb)
    have HE := Lib.hid (HE0.out.kept hb)
    clear hb hk
    have kb := HK.out.far (p := ⟨w.heap.size + 1, 0, none⟩) (by show w.heap.size ≠ w.heap.size + 1; omega) (.int .i64 k)
    have ke := HE.out.set 0 (.int .i64 k)
    refine leaves_cons (f := 113) (args := #[.pointer (some ⟨w.heap.size + 1, 0, none⟩)]) (by simp) (by simp [go_sem]) ?_
    refine (catchM_panic ⟨w.heap.size + 1, 0, none⟩ 81 k [] w2 (HE.out.at_ (i := 0) rfl) (HE.out.frozen 0)).mono ?_
    rintro e u' w3 ⟨rfl, rfl, rfl⟩
    refine ⟨.tuple #[.agg #[.int .i64 0, .int .i64 0, .int .i64 0, .int .i64 0, .int .i64 0, .int .i64 0, .int .i64 0, .int .i64 0, .slice none 0 0, .slice none 0 0, .slice none 0 0, .slice none 0 0, .slice none 0 0], .int .i64 k], ?_, HB2.out.grown (grown_set (grown_refl w2 (some (w.heap.size + 1))) 0 (.int .i64 k)) HB2.out.size (fun g hg => by cases hg; omega), .inr ⟨k, rfl, HKB.out⟩⟩
    exact results_rows rfl _ _ w.heap.size 28 _ _ (w.heap.size + 1) 32 (.int .i64 k) rfl kb Try.underlying28 rfl info1_M rfl (load_err ke)

/-- what the call that is caught answers -/
def DoesL (OK : Lt → Option Addr → Nat → Option Addr → Nat → World → Prop) (BAD : Int → Prop) (w : World) (e : Ending) (w' : World) : Prop := Below w.heap.size w w' ∧ ((∃ (x : Lt) (A : Option Addr) (c : Nat) (B : Option Addr) (d : Nat), e = .returned (.agg #[.int .i64 x.f1, .int .i64 x.f2, .int .i64 x.r, .slice A x.body.length c, .slice B x.tags.length d]) ∧ OK x A c B d w') ∨ (∃ k, e = Pn k ∧ BAD k))
/-- what has turned lies from block B on -/
def TurnedL (w w2 w' : World) : Prop := ∀ F : Nat → Prop, (∀ b, F b → w.heap.size + 2 ≤ b) → Kp F w2 w'
set_option maxHeartbeats 1600000 in
theorem caughtL_any (cb : Nat) (p1 p2 p3 : Addr) (w : World) (OK : Lt → Option Addr → Nat → Option Addr → Nat → World → Prop) (BAD : Int → Prop)
    (hcb : ∀ args w, (callFunc cb args).run Try.prog w = .ok (.enter cb args) w)
    (H : Calls Try.prog cb #[.pointer (some p1), .pointer (some p2), .pointer (some p3)] ((w.alloc (.cells #[.int .i64 0, .int .i64 0, .int .i64 0, .slice none 0 0, .slice none 0 0] 46)).alloc (.cells #[.int .i64 81] 32)) (DoesL OK BAD ((w.alloc (.cells #[.int .i64 0, .int .i64 0, .int .i64 0, .slice none 0 0, .slice none 0 0] 46)).alloc (.cells #[.int .i64 81] 32)))) :
    Calls Try.prog 99 #[.func (.func cb) #[] #[.pointer (some p1), .pointer (some p2), .pointer (some p3)]] w fun e w' => Below w.heap.size w w' ∧
      ((∃ (x : Lt) (A : Option Addr) (c : Nat) (B : Option Addr) (d : Nat) (w2 : World), e = .returned (.tuple #[.agg #[.int .i64 x.f1, .int .i64 x.f2, .int .i64 x.r, .slice A x.body.length c, .slice B x.tags.length d], .int .i64 0]) ∧ OK x A c B d w2 ∧ TurnedL w w2 w') ∨ (∃ k, e = .returned (.tuple #[.agg #[.int .i64 0, .int .i64 0, .int .i64 0, .slice none 0 0, .slice none 0 0], .int .i64 k]) ∧ BAD k)) := by
  have hmf : ∀ (fn : Fn) (first cap : Array Value) (w : World), (Instr.makeFunc fn first cap).run Try.prog w = .ok (.func fn first cap) w := fun _ _ _ _ => rfl
  have HH := Lib.hid H
  have hB0 := ((Below.refl w.heap.size w).alloc (Nat.le_refl _) (.cells #[.int .i64 0, .int .i64 0, .int .i64 0, .slice none 0 0, .slice none 0 0] 46)).alloc (by simp) (.cells #[.int .i64 81] 32)
  have HB0 := Lib.hid hB0
  have HK0 := Lib.hid ((Bk.new w 46 [.int .i64 0, .int .i64 0, .int .i64 0, .slice none 0 0, .slice none 0 0]).alloc (.cells #[.int .i64 81] 32))
  have he := Bk.new (w.alloc (.cells #[.int .i64 0, .int .i64 0, .int .i64 0, .slice none 0 0, .slice none 0 0] 46)) 32 [.int .i64 81]
  rw [show (w.alloc (.cells #[.int .i64 0, .int .i64 0, .int .i64 0, .slice none 0 0, .slice none 0 0] 46)).heap.size = w.heap.size + 1 by simp] at he
  have HE0 := Lib.hid he
  clear H hB0 he
  go_enter_defers Try.func99, Try.ntmps99
  go_wp2_with fail
  refine HH.out.mono ?_
  rintro e w2 ⟨hb, ⟨x, A, c, B, d, rfl, hv⟩ | ⟨k, rfl, hk⟩⟩
  · have HB2 := Lib.hid (below_next HB0.out hb HB0.out.size)
    have HV := Lib.hid hv
    have HK := Lib.hid (HK0.out.kept hb)
    have HE := Lib.hid (HE0.out.kept hb)
    have e0 := HE.out.at_ (i := 0) rfl
    have f0 := HE.out.frozen 0
    have k0 := HK.out.at_ (i := 0) rfl
    have z0 := HK.out.frozen 0
    have k1 := HK.out.at_ (i := 1) rfl
    have z1 := HK.out.frozen 1
    have k2 := HK.out.at_ (i := 2) rfl
    have z2 := HK.out.frozen 2
    have k3 := HK.out.at_ (i := 3) rfl
    have z3 := HK.out.frozen 3
    have k4 := HK.out.at_ (i := 4) rfl
    have z4 := HK.out.frozen 4
    clear hb hv
    go_wp2_with fail
    have kb := (((((HK.out.set 0 (.int .i64 x.f1)).set 1 (.int .i64 x.f2)).set 2 (.int .i64 x.r)).set 3 (.slice A x.body.length c)).set 4 (.slice B x.tags.length d)).far (p := ⟨w.heap.size + 1, 0, none⟩) (by show w.heap.size ≠ w.heap.size + 1; omega) (.int .i64 0)
    have ke := (((((HE.out.far (p := ⟨w.heap.size, 0, none⟩) (by show w.heap.size + 1 ≠ w.heap.size; omega) (.int .i64 x.f1)).far (p := ⟨w.heap.size, 1, none⟩) (by show w.heap.size + 1 ≠ w.heap.size; omega) (.int .i64 x.f2)).far (p := ⟨w.heap.size, 2, none⟩) (by show w.heap.size + 1 ≠ w.heap.size; omega) (.int .i64 x.r)).far (p := ⟨w.heap.size, 3, none⟩) (by show w.heap.size + 1 ≠ w.heap.size; omega) (.slice A x.body.length c)).far (p := ⟨w.heap.size, 4, none⟩) (by show w.heap.size + 1 ≠ w.heap.size; omega) (.slice B x.tags.length d)).set 0 (.int .i64 0)
    have gr := (grown_set (grown_set (grown_set (grown_set (grown_set (grown_refl w2 (some w.heap.size)) 0 (.int .i64 x.f1)) 1 (.int .i64 x.f2)) 2 (.int .i64 x.r)) 3 (.slice A x.body.length c)) 4 (.slice B x.tags.length d))
    have gr2 := grown_set (grown_refl (((((w2.setCell ⟨w.heap.size, 0, none⟩ (.int .i64 x.f1)).setCell ⟨w.heap.size, 1, none⟩ (.int .i64 x.f2)).setCell ⟨w.heap.size, 2, none⟩ (.int .i64 x.r)).setCell ⟨w.heap.size, 3, none⟩ (.slice A x.body.length c)).setCell ⟨w.heap.size, 4, none⟩ (.slice B x.tags.length d)) (some (w.heap.size + 1))) 0 (.int .i64 0)
    have hb3 := (HB2.out.grown gr HB2.out.size (fun g hg => by cases hg; omega)).grown gr2 (by have := HB2.out.size; simpa using this) (fun g hg => by cases hg; omega)
    have hkp : TurnedL w w2 ((((((w2.setCell ⟨w.heap.size, 0, none⟩ (.int .i64 x.f1)).setCell ⟨w.heap.size, 1, none⟩ (.int .i64 x.f2)).setCell ⟨w.heap.size, 2, none⟩ (.int .i64 x.r)).setCell ⟨w.heap.size, 3, none⟩ (.slice A x.body.length c)).setCell ⟨w.heap.size, 4, none⟩ (.slice B x.tags.length d)).setCell ⟨w.heap.size + 1, 0, none⟩ (.int .i64 0)) := fun F hF =>
      ⟨by simp, fun b hb hl => (gr2.block b (by simpa using hl) (by intro e; injection e with e; have := hF b hb; omega)).trans (gr.block b hl (by intro e; injection e with e; have := hF b hb; omega))⟩
    refine leaves_cons (f := 119) (args := #[.pointer (some ⟨w.heap.size + 1, 0, none⟩)]) (by simp) (by simp [go_sem]) ?_
    refine (catchL_idle _ _).mono ?_
    rintro e u' w3 ⟨rfl, rfl, rfl⟩
    refine ⟨.tuple #[.agg #[.int .i64 x.f1, .int .i64 x.f2, .int .i64 x.r, .slice A x.body.length c, .slice B x.tags.length d], .int .i64 0], ?_, hb3, .inl ⟨x, A, c, B, d, w2, rfl, HV.out, hkp⟩⟩
    exact results_rows rfl _ _ w.heap.size 46 _ _ (w.heap.size + 1) 32 (.int .i64 0) rfl kb Try.underlying46 rfl info1_L rfl (load_err ke)
  · have HB2 := Lib.hid (below_next HB0.out hb HB0.out.size)
    have HKB := Lib.hid hk
    have HK := Lib.hid (HK0.out.kept hb)
    have HE := Lib.hid (HE0.out.kept hb)
    clear hb hk
    have kb := HK.out.far (p := ⟨w.heap.size + 1, 0, none⟩) (by show w.heap.size ≠ w.heap.size + 1; omega) (.int .i64 k)
    have ke := HE.out.set 0 (.int .i64 k)
    refine leaves_cons (f := 119) (args := #[.pointer (some ⟨w.heap.size + 1, 0, none⟩)]) (by simp) (by simp [go_sem]) ?_
    refine (catchL_panic ⟨w.heap.size + 1, 0, none⟩ 81 k [] w2 (HE.out.at_ (i := 0) rfl) (HE.out.frozen 0)).mono ?_
    rintro e u' w3 ⟨rfl, rfl, rfl⟩
    refine ⟨.tuple #[.agg #[.int .i64 0, .int .i64 0, .int .i64 0, .slice none 0 0, .slice none 0 0], .int .i64 k], ?_, HB2.out.grown (grown_set (grown_refl w2 (some (w.heap.size + 1))) 0 (.int .i64 k)) HB2.out.size (fun g hg => by cases hg; omega), .inr ⟨k, rfl, HKB.out⟩⟩
    exact results_rows rfl _ _ w.heap.size 46 _ _ (w.heap.size + 1) 32 (.int .i64 k) rfl kb Try.underlying46 rfl info1_L rfl (load_err ke)

/-- what the call that is caught answers -/
def DoesE (OK : En → Option Addr → Nat → World → Prop) (BAD : Int → Prop) (w : World) (e : Ending) (w' : World) : Prop := Below w.heap.size w w' ∧ ((∃ (x : En) (A : Option Addr) (c : Nat), e = .returned (.agg #[.int .i64 x.c, .int .i64 x.s, .int .i64 x.t, .slice A x.dig.length c]) ∧ OK x A c w') ∨ (∃ k, e = Pn k ∧ BAD k))
/-- what has turned lies from block B on -/
def TurnedE (w w2 w' : World) : Prop := ∀ F : Nat → Prop, (∀ b, F b → w.heap.size + 2 ≤ b) → Kp F w2 w'
set_option maxHeartbeats 1600000 in
theorem caughtE_any (cb : Nat) (p1 p2 p3 : Addr) (w : World) (OK : En → Option Addr → Nat → World → Prop) (BAD : Int → Prop)
    (hcb : ∀ args w, (callFunc cb args).run Try.prog w = .ok (.enter cb args) w)
    (H : Calls Try.prog cb #[.pointer (some p1), .pointer (some p2), .pointer (some p3)] ((w.alloc (.cells #[.int .i64 0, .int .i64 0, .int .i64 0, .slice none 0 0] 24)).alloc (.cells #[.int .i64 81] 32)) (DoesE OK BAD ((w.alloc (.cells #[.int .i64 0, .int .i64 0, .int .i64 0, .slice none 0 0] 24)).alloc (.cells #[.int .i64 81] 32)))) :
    Calls Try.prog 102 #[.func (.func cb) #[] #[.pointer (some p1), .pointer (some p2), .pointer (some p3)]] w fun e w' => Below w.heap.size w w' ∧
      ((∃ (x : En) (A : Option Addr) (c : Nat) (w2 : World), e = .returned (.tuple #[.agg #[.int .i64 x.c, .int .i64 x.s, .int .i64 x.t, .slice A x.dig.length c], .int .i64 0]) ∧ OK x A c w2 ∧ TurnedE w w2 w') ∨ (∃ k, e = .returned (.tuple #[.agg #[.int .i64 0, .int .i64 0, .int .i64 0, .slice none 0 0], .int .i64 k]) ∧ BAD k)) := by
  have hmf : ∀ (fn : Fn) (first cap : Array Value) (w : World), (Instr.makeFunc fn first cap).run Try.prog w = .ok (.func fn first cap) w := fun _ _ _ _ => rfl
  have HH := Lib.hid H
  have hB0 := ((Below.refl w.heap.size w).alloc (Nat.le_refl _) (.cells #[.int .i64 0, .int .i64 0, .int .i64 0, .slice none 0 0] 24)).alloc (by simp) (.cells #[.int .i64 81] 32)
  have HB0 := Lib.hid hB0
  have HK0 := Lib.hid ((Bk.new w 24 [.int .i64 0, .int .i64 0, .int .i64 0, .slice none 0 0]).alloc (.cells #[.int .i64 81] 32))
  have he := Bk.new (w.alloc (.cells #[.int .i64 0, .int .i64 0, .int .i64 0, .slice none 0 0] 24)) 32 [.int .i64 81]
  rw [show (w.alloc (.cells #[.int .i64 0, .int .i64 0, .int .i64 0, .slice none 0 0] 24)).heap.size = w.heap.size + 1 by simp] at he
  have HE0 := Lib.hid he
  clear H hB0 he
  go_enter_defers Try.func102, Try.ntmps102
  go_wp2_with fail
  refine HH.out.mono ?_
  rintro e w2 ⟨hb, ⟨x, A, c, rfl, hv⟩ | ⟨k, rfl, hk⟩⟩
  · have HB2 := Lib.hid (below_next HB0.out hb HB0.out.size)
    have HV := Lib.hid hv
    have HK := Lib.hid (HK0.out.kept hb)
    have HE := Lib.hid (HE0.out.kept hb)
    have e0 := HE.out.at_ (i := 0) rfl
    have f0 := HE.out.frozen 0
    have k0 := HK.out.at_ (i := 0) rfl
    have z0 := HK.out.frozen 0
    have k1 := HK.out.at_ (i := 1) rfl
    have z1 := HK.out.frozen 1
    have k2 := HK.out.at_ (i := 2) rfl
    have z2 := HK.out.frozen 2
    have k3 := HK.out.at_ (i := 3) rfl
    have z3 := HK.out.frozen 3
    clear hb hv
    go_wp2_with fail
    have kb := ((((HK.out.set 0 (.int .i64 x.c)).set 1 (.int .i64 x.s)).set 2 (.int .i64 x.t)).set 3 (.slice A x.dig.length c)).far (p := ⟨w.heap.size + 1, 0, none⟩) (by show w.heap.size ≠ w.heap.size + 1; omega) (.int .i64 0)
    have ke := ((((HE.out.far (p := ⟨w.heap.size, 0, none⟩) (by show w.heap.size + 1 ≠ w.heap.size; omega) (.int .i64 x.c)).far (p := ⟨w.heap.size, 1, none⟩) (by show w.heap.size + 1 ≠ w.heap.size; omega) (.int .i64 x.s)).far (p := ⟨w.heap.size, 2, none⟩) (by show w.heap.size + 1 ≠ w.heap.size; omega) (.int .i64 x.t)).far (p := ⟨w.heap.size, 3, none⟩) (by show w.heap.size + 1 ≠ w.heap.size; omega) (.slice A x.dig.length c)).set 0 (.int .i64 0)
    have gr := (grown_set (grown_set (grown_set (grown_set (grown_refl w2 (some w.heap.size)) 0 (.int .i64 x.c)) 1 (.int .i64 x.s)) 2 (.int .i64 x.t)) 3 (.slice A x.dig.length c))
    have gr2 := grown_set (grown_refl ((((w2.setCell ⟨w.heap.size, 0, none⟩ (.int .i64 x.c)).setCell ⟨w.heap.size, 1, none⟩ (.int .i64 x.s)).setCell ⟨w.heap.size, 2, none⟩ (.int .i64 x.t)).setCell ⟨w.heap.size, 3, none⟩ (.slice A x.dig.length c)) (some (w.heap.size + 1))) 0 (.int .i64 0)
    have hb3 := (HB2.out.grown gr HB2.out.size (fun g hg => by cases hg; omega)).grown gr2 (by have := HB2.out.size; simpa using this) (fun g hg => by cases hg; omega)
    have hkp : TurnedE w w2 (((((w2.setCell ⟨w.heap.size, 0, none⟩ (.int .i64 x.c)).setCell ⟨w.heap.size, 1, none⟩ (.int .i64 x.s)).setCell ⟨w.heap.size, 2, none⟩ (.int .i64 x.t)).setCell ⟨w.heap.size, 3, none⟩ (.slice A x.dig.length c)).setCell ⟨w.heap.size + 1, 0, none⟩ (.int .i64 0)) := fun F hF =>
      ⟨by simp, fun b hb hl => (gr2.block b (by simpa using hl) (by intro e; injection e with e; have := hF b hb; omega)).trans (gr.block b hl (by intro e; injection e with e; have := hF b hb; omega))⟩
    refine leaves_cons (f := 123) (args := #[.pointer (some ⟨w.heap.size + 1, 0, none⟩)]) (by simp) (by simp [go_sem]) ?_
    refine (catchE_idle _ _).mono ?_
    rintro e u' w3 ⟨rfl, rfl, rfl⟩
    refine ⟨.tuple #[.agg #[.int .i64 x.c, .int .i64 x.s, .int .i64 x.t, .slice A x.dig.length c], .int .i64 0], ?_, hb3, .inl ⟨x, A, c, w2, rfl, HV.out, hkp⟩⟩
    exact results_rows rfl _ _ w.heap.size 24 _ _ (w.heap.size + 1) 32 (.int .i64 0) rfl kb Try.underlying24 rfl info1_E rfl (load_err ke)
  · have HB2 := Lib.hid (below_next HB0.out hb HB0.out.size)
    have HKB := Lib.hid hk
    have HK := Lib.hid (HK0.out.kept hb)
    have HE := Lib.hid (HE0.out.kept hb)
    clear hb hk
    have kb := HK.out.far (p := ⟨w.heap.size + 1, 0, none⟩) (by show w.heap.size ≠ w.heap.size + 1; omega) (.int .i64 k)
    have ke := HE.out.set 0 (.int .i64 k)
    refine leaves_cons (f := 123) (args := #[.pointer (some ⟨w.heap.size + 1, 0, none⟩)]) (by simp) (by simp [go_sem]) ?_
    refine (catchE_panic ⟨w.heap.size + 1, 0, none⟩ 81 k [] w2 (HE.out.at_ (i := 0) rfl) (HE.out.frozen 0)).mono ?_
    rintro e u' w3 ⟨rfl, rfl, rfl⟩
    refine ⟨.tuple #[.agg #[.int .i64 0, .int .i64 0, .int .i64 0, .slice none 0 0], .int .i64 k], ?_, HB2.out.grown (grown_set (grown_refl w2 (some (w.heap.size + 1))) 0 (.int .i64 k)) HB2.out.size (fun g hg => by cases hg; omega), .inr ⟨k, rfl, HKB.out⟩⟩
    exact results_rows rfl _ _ w.heap.size 24 _ _ (w.heap.size + 1) 32 (.int .i64 k) rfl kb Try.underlying24 rfl info1_E rfl (load_err ke)
end Go.Proofs.Ytmgmmbgjmnklkaa
