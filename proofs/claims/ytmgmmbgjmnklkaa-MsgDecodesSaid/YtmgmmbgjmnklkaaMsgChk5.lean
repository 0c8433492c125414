/-
  The program's check that what a kind doesn't have is zero: a map, from which some keys are taken, ranged over. A walk; no statement.
-/
import Derived.Test.YtmgmmbgjmnklkaaMsgChk4
import Derived.Test.YtmgmmbgjmnklkaaMCut
import Derived.Maps.OwnSet
import Derived.Maps.RangeWalk
namespace Go.Proofs.Ytmgmmbgjmnklkaa
set_option maxRecDepth 100000
open Go.RowKit
open Pk
set_option linter.unusedVariables false

/-- a number of 64 bits -/
def I64 (v : Int) : Prop := -9223372036854775808 ≤ v ∧ v ≤ 9223372036854775807
theorem I64.wf {v : Int} (h : I64 v) : (Lit.int .i64 v).wf = true := WalkArith.wf_i64 (by unfold I64 at h; omega)
/-- a message's numbers are of 64 bits -/
structure Mg.wf (m : Mg) : Prop where
  view : I64 m.view
  seq : I64 m.seq
  client : I64 m.client
  stamp : I64 m.stamp
  c : I64 m.e.c
  s : I64 m.e.s
  t : I64 m.e.t
theorem or_i64 (a b : Int) : I64 (bits .or .i64 a b) := by
  show I64 (IntKind.i64.wrap _)
  unfold I64
  rw [IntKind.wrap_i64]
  omega
theorem or_zero {a b : Int} (ha : I64 a) (hb : I64 b) : bits .or .i64 a b = 0 ↔ (a = 0 ∧ b = 0) := by
  unfold I64 at ha hb
  have hz : ∀ x : Int, -9223372036854775808 ≤ x → x ≤ 9223372036854775807 → (BitVec.ofInt 64 x = 0#64 ↔ x = 0) := by
    intro x h1 h2
    constructor
    · intro h
      have h6 := congrArg BitVec.toNat h
      rw [BitVec.toNat_ofInt] at h6
      have h7 : ((2 ^ 64 : Nat) : Int) = 18446744073709551616 := by decide
      rw [h7] at h6
      have h8 : (x % 18446744073709551616).toNat = 0 := h6
      omega
    · rintro rfl; rfl
  have hor : bits .or .i64 a b = IntKind.i64.wrap ((BitVec.ofInt 64 a ||| BitVec.ofInt 64 b).toNat : Int) := rfl
  rw [hor]
  have hw : IntKind.i64.wrap ((BitVec.ofInt 64 a ||| BitVec.ofInt 64 b).toNat : Int) = 0 ↔ BitVec.ofInt 64 a ||| BitVec.ofInt 64 b = 0#64 := by
    generalize BitVec.ofInt 64 a ||| BitVec.ofInt 64 b = x
    have hx := x.isLt
    rw [IntKind.wrap_i64]
    constructor
    · intro h
      apply BitVec.eq_of_toNat_eq
      show x.toNat = 0
      omega
    · intro h
      rw [h]
      simp
  rw [hw, BitVec.or_eq_zero_iff, hz a ha.1 ha.2, hz b hb.1 hb.2]
def orE (m : Mg) : Int := bits .or .i64 (bits .or .i64 (bits .or .i64 m.e.c m.e.s) m.e.t) (m.e.dig.length : Int)
/-- what is told of a part: 0 just if it is zero -/
def Mg.val (m : Mg) (p : Nat) : Int :=
  match p with
  | 0 => m.view
  | 1 => m.seq
  | 2 => m.client
  | 3 => m.stamp
  | 4 => orE m
  | 5 => (m.dig.length : Int)
  | 6 => (m.data.length : Int)
  | 7 => (m.proof.length : Int)
  | _ => (m.proven.length : Int)
theorem val_zero {m : Mg} (h : m.wf) (hl : m.e.dig.length ≤ maxLen) (p : Nat) : m.val p = 0 ↔ m.partNo p = true := by
  match p with
  | 0 => simp [Mg.val, Mg.partNo]
  | 1 => simp [Mg.val, Mg.partNo]
  | 2 => simp [Mg.val, Mg.partNo]
  | 3 => simp [Mg.val, Mg.partNo]
  | 4 =>
    have hd : I64 (m.e.dig.length : Int) := by unfold maxLen at hl; unfold I64; omega
    show orE m = 0 ↔ _
    unfold orE
    rw [or_zero (or_i64 _ _) hd, or_zero (or_i64 _ _) h.t, or_zero h.c h.s]
    simp [Mg.partNo, and_assoc]
  | 5 => simp [Mg.val, Mg.partNo]
  | 6 => simp [Mg.val, Mg.partNo]
  | 7 => simp [Mg.val, Mg.partNo]
  | k + 8 => simp [Mg.val, Mg.partNo]

/-- a key -/
def kp (p : Nat) : Lit := .int .i64 (p : Int)
theorem kp_inj {p r : Nat} (h : kp p = kp r) : p = r := by unfold kp at h; injection h with _ h; omega
theorem kp_key (p : Nat) : WideAt.IsKeyLit (kp p) := trivial
/-- the map holds just the parts of S -/
structure MapIs (m : Mg) (D : DataW Unit) (S : Nat → Bool) : Prop where
  map : Maps.IsMap D
  has : ∀ kl, Maps.has D kl = true → ∃ p, p < 9 ∧ S p = true ∧ kl = kp p ∧ ∀ z, D.atKey kl z = .lit (.int .i64 (m.val p))
  all : ∀ p, p < 9 → S p = true → Maps.has D (kp p) = true
theorem MapIs.empty (m : Mg) : MapIs m (.map []) fun _ => false := ⟨Maps.isMap_empty, fun kl h => by simp [Maps.has] at h, fun p _ h => by cases h⟩
theorem MapIs.put {m : Mg} {D : DataW Unit} {S S' : Nat → Bool} (h : MapIs m D S) (p : Nat) (hp : p < 9) (hS : ∀ r, S' r = (S r || decide (r = p))) : MapIs m (D.put (kp p) (.lit (.int .i64 (m.val p)))) S' := by
  refine ⟨h.map.put _ _, fun kl hk => ?_, fun r hr hs => ?_⟩
  · by_cases e : kl = kp p
    · subst e
      exact ⟨p, hp, by rw [hS]; simp, rfl, fun z => Maps.atKey_put_same h.map (kp_key p) _ _⟩
    · rw [Maps.has_put_other e] at hk
      obtain ⟨r, hr, hs, rfl, ha⟩ := h.has kl hk
      exact ⟨r, hr, by rw [hS, hs]; rfl, rfl, fun z => by rw [Maps.atKey_put_other e]; exact ha z⟩
  · by_cases e : r = p
    · subst e; exact Maps.has_put_same h.map (kp_key r) _
    · rw [Maps.has_put_other (fun q => e (kp_inj q))]
      rw [hS] at hs
      exact h.all r hr (by simpa [e] using hs)
theorem MapIs.del {m : Mg} {D : DataW Unit} {S S' : Nat → Bool} (h : MapIs m D S) (p : Nat) (hS : ∀ r, S' r = (S r && !decide (r = p))) : MapIs m (D.del (kp p)) S' := by
  refine ⟨h.map.del _, fun kl hk => ?_, fun r hr hs => ?_⟩
  · by_cases e : kl = kp p
    · subst e
      rw [Maps.has_del_same] at hk
      cases hk
    · rw [Maps.has_del_other e] at hk
      obtain ⟨r, hr, hs, rfl, ha⟩ := h.has kl hk
      exact ⟨r, hr, by rw [hS, hs]; simp; rintro rfl; exact e rfl, rfl, fun z => by rw [Maps.atKey_del_other e]; exact ha z⟩
  · rw [hS] at hs
    simp at hs
    rw [Maps.has_del_other (fun q => hs.2 (kp_inj q))]
    exact h.all r hr hs.1
/-- the map as it is laid -/
def allD (m : Mg) : DataW Unit :=
  (((((((((DataW.map []).put (.int .i64 0) (.lit (.int .i64 m.view))).put (.int .i64 1) (.lit (.int .i64 m.seq))).put (.int .i64 2) (.lit (.int .i64 m.client))).put (.int .i64 3) (.lit (.int .i64 m.stamp))).put (.int .i64 4) (.lit (.int .i64 (orE m)))).put
    (.int .i64 5) (.lit (.int .i64 (m.dig.length : Int)))).put (.int .i64 6) (.lit (.int .i64 (m.data.length : Int)))).put (.int .i64 7) (.lit (.int .i64 (m.proof.length : Int)))).put (.int .i64 8) (.lit (.int .i64 (m.proven.length : Int)))
theorem allD_is (m : Mg) : MapIs m (allD m) fun p => !([] : List Nat).contains p := by
  have h0 := (MapIs.empty m).put 0 (by omega) (fun _ => rfl)
  have h1 := h0.put 1 (by omega) (fun _ => rfl)
  have h2 := h1.put 2 (by omega) (fun _ => rfl)
  have h3 := h2.put 3 (by omega) (fun _ => rfl)
  have h4 := h3.put 4 (by omega) (fun _ => rfl)
  have h5 := h4.put 5 (by omega) (fun _ => rfl)
  have h6 := h5.put 6 (by omega) (fun _ => rfl)
  have h7 := h6.put 7 (by omega) (fun _ => rfl)
  have h8 := h7.put 8 (by omega) (fun _ => rfl)
  refine ⟨h8.map, fun kl hk => ?_, fun p hp _ => h8.all p hp ?_⟩
  · obtain ⟨p, hp, _, e, ha⟩ := h8.has kl hk
    exact ⟨p, hp, by simp, e, ha⟩
  · simp; omega

theorem lawP : Maps.Keyed Try.prog 104 := Maps.int_keyed Try.underlying104
/-- a map's literal: one entry -/
theorem wpList_insert_own {H : Type} {P : Program} (w : World) {ops : Array Oper} {rest : List Oper} {o : Oper} {a : Act} {Q : Exit → Act → World → Prop}
    (hg : o.guard = none) (m x v : Operand) (t : TypeId) (hop : o.op = Op.insert t m x v)
    (k e : TypeId) (K : Maps.Keyed P k) (ht : P.underlying t = some (.map k e)) (R : Value → Option (DataW H × List MemPlace)) (b n : Nat) (D : DataW H)
    (hm : a.eval m = .map (some b)) (hown : w.ownsMap P k R b n D) (hn : n < maxLen) (key val : Value) (kl : Lit) (hx : a.eval x = key) (hv : a.eval v = val) (hkey : keyOf P k key = some kl)
    (d : DataW H) (ps : List MemPlace) (hval : R val = some (d, ps))
    (hK : ∀ w', w'.ownsMap P k R b (n + 1) (D.put kl d) → w.grownBy w' (some b) → wpList P ops Q rest (a.put o.dst undef) w') :
    wpList P ops Q (o :: rest) a w := by
  refine wpList_plain hg fun K' hK' => ?_
  obtain ⟨w', hrun, r1, r2⟩ := hown.update K ht hn hkey hval
  unfold Oper.wp
  simp [execOp, hop, hm, hx, hv, hrun, Result.andThen]
  exact hK' _ _ (hK w' r1 r2)

set_option maxHeartbeats 3200000 in
theorem checkEmpty_any (m : Mg) (q : Mad) (ps : List Nat) (A : Option Addr) (c : Nat) (w : World) (hp : ∀ p ∈ ps, p < 9) (hpn : ps.length ≤ 9) (h : Rd w A ps.length (ps.map pv)) (hwf : m.wf) (hel : m.e.dig.length ≤ maxLen) (hgl : m.dig.length ≤ maxLen) (hdl : m.data.length ≤ maxLen)
    (hpl : m.proof.length ≤ maxLen) (hvl : m.proven.length ≤ maxLen) : Calls Try.prog 71 #[.agg #[.int .i64 m.kind, .int .i64 m.view, .int .i64 m.seq, .int .i64 m.client, .int .i64 m.stamp, .int .i64 m.e.c, .int .i64 m.e.s, .int .i64 m.e.t, .slice q.ea m.e.dig.length q.ec, .slice q.ga m.dig.length q.gc, .slice q.da m.data.length q.dc, .slice q.pa m.proof.length q.pc, .slice q.va m.proven.length q.vc], .slice A ps.length c] w (Chk (restOk m ps) 81 w) := by
  have HV := Lib.hid (val_zero hwf hel)
  have V0 := Lib.hid hwf.view.wf
  have V1 := Lib.hid hwf.seq.wf
  have V2 := Lib.hid hwf.client.wf
  have V3 := Lib.hid hwf.stamp.wf
  have V4 := Lib.hid (show (Lit.int .i64 (orE m)).wf = true from (or_i64 _ _).wf)
  have V5 := Lib.hid (show (Lit.int .i64 (m.dig.length : Int)).wf = true from I64.wf (by unfold maxLen at hgl; unfold I64; omega))
  have V6 := Lib.hid (show (Lit.int .i64 (m.data.length : Int)).wf = true from I64.wf (by unfold maxLen at hdl; unfold I64; omega))
  have V7 := Lib.hid (show (Lit.int .i64 (m.proof.length : Int)).wf = true from I64.wf (by unfold maxLen at hpl; unfold I64; omega))
  have V8 := Lib.hid (show (Lit.int .i64 (m.proven.length : Int)).wf = true from I64.wf (by unfold maxLen at hvl; unfold I64; omega))
  have HB := Lib.hid ((((Below.refl w.heap.size w).alloc (Nat.le_refl _) (.cells #[.int .i64 m.kind, .int .i64 m.view, .int .i64 m.seq, .int .i64 m.client, .int .i64 m.stamp, .int .i64 m.e.c, .int .i64 m.e.s, .int .i64 m.e.t, .slice q.ea m.e.dig.length q.ec, .slice q.ga m.dig.length q.gc, .slice q.da m.data.length q.dc, .slice q.pa m.proof.length q.pc, .slice q.va m.proven.length q.vc] 28)).alloc (by simp) (.cells #[.int .i64 m.e.c, .int .i64 m.e.s, .int .i64 m.e.t, .slice q.ea m.e.dig.length q.ec] 24)).alloc (by simp; omega) (.map #[] 0))
  have km := Lib.hid (((Bk.new w 28 [.int .i64 m.kind, .int .i64 m.view, .int .i64 m.seq, .int .i64 m.client, .int .i64 m.stamp, .int .i64 m.e.c, .int .i64 m.e.s, .int .i64 m.e.t, .slice q.ea m.e.dig.length q.ec, .slice q.ga m.dig.length q.gc, .slice q.da m.data.length q.dc, .slice q.pa m.proof.length q.pc, .slice q.va m.proven.length q.vc]).alloc (.cells #[.int .i64 m.e.c, .int .i64 m.e.s, .int .i64 m.e.t, .slice q.ea m.e.dig.length q.ec] 24)).alloc (.map #[] 0))
  have ke := Lib.hid (show Bk (((w.alloc (.cells #[.int .i64 m.kind, .int .i64 m.view, .int .i64 m.seq, .int .i64 m.client, .int .i64 m.stamp, .int .i64 m.e.c, .int .i64 m.e.s, .int .i64 m.e.t, .slice q.ea m.e.dig.length q.ec, .slice q.ga m.dig.length q.gc, .slice q.da m.data.length q.dc, .slice q.pa m.proof.length q.pc, .slice q.va m.proven.length q.vc] 28)).alloc (.cells #[.int .i64 m.e.c, .int .i64 m.e.s, .int .i64 m.e.t, .slice q.ea m.e.dig.length q.ec] 24)).alloc (.map #[] 0)) (w.heap.size + 1) 24 [.int .i64 m.e.c, .int .i64 m.e.s, .int .i64 m.e.t, .slice q.ea m.e.dig.length q.ec] by
    have := (Bk.new (w.alloc (.cells #[.int .i64 m.kind, .int .i64 m.view, .int .i64 m.seq, .int .i64 m.client, .int .i64 m.stamp, .int .i64 m.e.c, .int .i64 m.e.s, .int .i64 m.e.t, .slice q.ea m.e.dig.length q.ec, .slice q.ga m.dig.length q.gc, .slice q.da m.data.length q.dc, .slice q.pa m.proof.length q.pc, .slice q.va m.proven.length q.vc] 28)) 24 [.int .i64 m.e.c, .int .i64 m.e.s, .int .i64 m.e.t, .slice q.ea m.e.dig.length q.ec]).alloc (.map #[] 0)
    simpa using this)
  have hown : (((w.alloc (.cells #[.int .i64 m.kind, .int .i64 m.view, .int .i64 m.seq, .int .i64 m.client, .int .i64 m.stamp, .int .i64 m.e.c, .int .i64 m.e.s, .int .i64 m.e.t, .slice q.ea m.e.dig.length q.ec, .slice q.ga m.dig.length q.gc, .slice q.da m.data.length q.dc, .slice q.pa m.proof.length q.pc, .slice q.va m.proven.length q.vc] 28)).alloc (.cells #[.int .i64 m.e.c, .int .i64 m.e.s, .int .i64 m.e.t, .slice q.ea m.e.dig.length q.ec] 24)).alloc (.map #[] 0)).ownsMap Try.prog 104 (plainElem (H := Unit) Try.prog 3) (w.heap.size + 2) 0 (.map []) := by
    have := World.ownsMap_made (H := Unit) ((w.alloc (.cells #[.int .i64 m.kind, .int .i64 m.view, .int .i64 m.seq, .int .i64 m.client, .int .i64 m.stamp, .int .i64 m.e.c, .int .i64 m.e.s, .int .i64 m.e.t, .slice q.ea m.e.dig.length q.ec, .slice q.ga m.dig.length q.gc, .slice q.da m.data.length q.dc, .slice q.pa m.proof.length q.pc, .slice q.va m.proven.length q.vc] 28)).alloc (.cells #[.int .i64 m.e.c, .int .i64 m.e.s, .int .i64 m.e.t, .slice q.ea m.e.dig.length q.ec] 24)) Try.prog 104 (plainElem (H := Unit) Try.prog 3)
    simpa using this
  have HOWN := Lib.hid hown
  have HR := Lib.hid h
  have HP := Lib.hid hp
  have hmm := @run_makeMap Try.prog
  clear hown h hp hwf hel hgl hdl hpl hvl
  go_enter Try.func71, Try.ntmps71
  go_wp2_with (first
    | (refine wpList_insert_own _ rfl _ _ _ 143 rfl 104 3 lawP Try.underlying143 (plainElem (H := Unit) Try.prog 3) (w.heap.size + 2) _ _ rfl HOWN.out (by simp [maxLen]) _ _ _ rfl rfl (Maps.keyOf_int_mk Try.underlying104 (by decide)) _ [] (plainElem_int Try.underlying3 (by first | exact V0.out | exact V1.out | exact V2.out | exact V3.out | exact V4.out | exact V5.out | exact V6.out | exact V7.out | exact V8.out)) ?_
       intro w1 hown1 hg1
       replace HOWN := Lib.hid hown1
       replace km := Lib.hid (km.out.grown hg1 (by simp))
       replace ke := Lib.hid (ke.out.grown hg1 (by simp))
       replace HB := Lib.hid (HB.out.grown hg1 (by have := HB.out.size; omega) (fun j hj => by cases hj; omega))
       replace c2 := km.out.at_ (i := 2) rfl
       replace c3 := km.out.at_ (i := 3) rfl
       replace c4 := km.out.at_ (i := 4) rfl
       replace c9 := km.out.at_ (i := 9) rfl
       replace c10 := km.out.at_ (i := 10) rfl
       replace c11 := km.out.at_ (i := 11) rfl
       replace c12 := km.out.at_ (i := 12) rfl
       replace d0 := ke.out.at_ (i := 0) rfl
       replace d1 := ke.out.at_ (i := 1) rfl
       replace d2 := ke.out.at_ (i := 2) rfl
       replace d3 := ke.out.at_ (i := 3) rfl
       clear hown1 hg1)
    | fail)
  obtain ⟨b, hb2⟩ : ∃ b, b = w.heap.size + 2 := ⟨_, rfl⟩
  rw [← hb2] at HOWN ⊢
  have HBB := Lib.hid (show w.heap.size ≤ b by omega)
  have HM0 : Hid (w1.ownsMap Try.prog 104 (plainElem (H := Unit) Try.prog 3) b 9 (allD m)) := HOWN
  have HD := Lib.hid (allD_is m)
  clear hb2 HOWN km ke c2 c3 c4 c9 c10 c11 c12 d0 d1 d2 d3
  go_loopw [48] (fun i wr => ∃ (k : Nat) (D : DataW Unit), k ≤ ps.length ∧ i = .int .i64 k ∧ wr.ownsMap Try.prog 104 (plainElem (H := Unit) Try.prog 3) b 9 D ∧ MapIs m D (fun p => !(ps.take k).contains p) ∧ Below w.heap.size w wr) (fun i _ => ps.length - (intOf i).toNat)
  case atStart => exact ⟨0, _, by omega, rfl, HM0.out, HD.out, HB.out⟩
  case round =>
    obtain ⟨k, D, hk, rfl, hm, hd, hb⟩ := hrel
    have HM := Lib.hid hm
    have HD := Lib.hid hd
    have HBW := Lib.hid hb
    clear hd
    by_cases hlt : k < ps.length
    · obtain ⟨a, rfl, hab, hca⟩ := (HR.out.below hb).at_ hlt
      have gx : (ps.map pv).getD k undef = .int .i64 (ps[k] : Int) := by simp [pv, hlt]
      rw [gx] at hca
      have y1 : (0 : Int) ≤ (k : Int) := by omega
      have y2 : (k : Int) < (ps.length : Int) := by omega
      have HWF := Lib.hid (show (Lit.int .i64 (ps[k] : Int)).wf = true from I64.wf (by have := HP.out ps[k] (List.getElem_mem hlt); unfold I64; omega))
      have HD2 := Lib.hid (HD.out.del ps[k] (S' := fun p => !(ps.take (k + 1)).contains p) (fun r => by
        show (!(ps.take (k + 1)).contains r) = (!(ps.take k).contains r && !decide (r = ps[k]))
        rw [List.take_succ_eq_append_getElem hlt]
        generalize ps.take k = L
        generalize ps[k] = x
        by_cases e : r = x <;> simp [e]))
      generalize ps[k] = p at *
      clear gx hab hm hb
      go_wp2_with (first
        | (at_delete; refine wpList_delete_own _ rfl _ _ 143 104 rfl 3 lawP Try.underlying143 (plainElem (H := Unit) Try.prog 3) b 9 D rfl HM.out _ _ rfl (Maps.keyOf_int_mk Try.underlying104 HWF.out) ?_; intro w2 hown2 hturn2; go_frame)
        | fail)
      have HB2 := Lib.hid (HBW.out.grown hturn2.grown HBW.out.size (fun j hj => by cases hj; exact HBB.out))
      have HM2 := Lib.hid hown2
      clear hturn2 hown2
      go_wp2_with fail
      go_roundw
      case rel => exact ⟨k + 1, _, by omega, by go_num, HM2.out, HD2.out, HB2.out⟩
      case measure => simp [intOf]; omega
    · have e : ps.take k = ps := List.take_of_length_le (by omega)
      rw [e] at HD
      clear e hm hb
      go_wp2_with (first
        | (at_range; refine wpList_range_own _ rfl _ 143 rfl 104 3 lawP Try.underlying143 (plainElem (H := Unit) Try.prog 3) b 9 D rfl HM.out ?_; intro w2 hrg2 hg2 hs2)
        | fail)
      go_frame
      have HRG := Lib.hid hrg2
      have HB2 := Lib.hid (HBW.out.grown hg2 HBW.out.size (fun j hj => by cases hj))
      obtain ⟨r, hr⟩ : ∃ r, r = wr.heap.size := ⟨_, rfl⟩
      rw [← hr] at HRG ⊢
      have HRB := Lib.hid (show w.heap.size ≤ r by have := HBW.out.size; omega)
      clear hrg2 hg2 hs2 hr
      go_loopw [9] (fun _ wx => ∃ (left : Lit → Bool) (cnt : Nat), wx.ranges Try.prog 104 (plainElem (H := Unit) Try.prog 3) b r 9 D left cnt ∧ (∀ kl, left kl = true → Maps.has D kl = true) ∧ (∀ p, p < 9 → (!ps.contains p) = true → left (kp p) = false → m.val p = 0) ∧ Below w.heap.size w wx)
        (fun _ wx => wx.rangeLeft b r)
      case atStart => exact ⟨_, _, HRG.out, fun _ h => h, fun p hp hs hl => (by rw [HD.out.all p hp hs] at hl; cases hl), HB2.out⟩
      case round =>
        obtain ⟨left, cnt, hrg, hlf, hz, hbx⟩ := hrel
        have HLF := Lib.hid hlf
        have HZ := Lib.hid hz
        have HBX := Lib.hid hbx
        have HRX := Lib.hid hrg
        clear hlf hz hbx hrg
        go_wp2_with (first
          | (at_next; refine wpList_next_ranges_ii _ rfl _ rfl 104 3 .i64 .i64 lawP Try.underlying104 Try.underlying3 b r 9 _ _ _ rfl HRX.out ?_ ?_)
          | fail)
        · intro _ hl0
          have HOK := Lib.hid (show restOk m ps = true by
            unfold restOk
            rw [List.all_eq_true]
            intro p hp
            have hp9 : p < 9 := by simpa using hp
            by_cases hs : ps.contains p = true
            · rw [hs]; rfl
            · have := HZ.out p hp9 (by simpa using hs) (hl0 _)
              rw [(HV.out p).1 this]; simp)
          go_wp2_with fail
          go_end0
          exact Chk.yes HOK.out HBX.out
        · intro x c' w3 cnt3 hwx hwc hlx hat hrg3 hlt3 hg3 hs3 hen
          obtain ⟨p, hp9, hsp, he, hval⟩ := HD.out.has _ (HLF.out _ hlx)
          have hc : c' = m.val p := by
            have h1 := hat .nil
            rw [hval .nil] at h1
            injection h1 with h1
            injection h1 with _ h1
            exact h1.symm
          have HB3 := Lib.hid (HBX.out.grown hg3 HBX.out.size (fun j hj => by cases hj; exact HRB.out))
          have HR3 := Lib.hid hrg3
          have HLT := Lib.hid hlt3
          have HE := Lib.hid he
          have HS := Lib.hid hsp
          have HC := Lib.hid hc
          clear hrg3 hg3 hs3 hat hwx hwc hlx hlt3 hval he hsp hc
          by_cases h0 : c' = 0
          · subst h0
            go_wp2_with fail
            refine (need_yes _).mono ?_
            rintro e w4 ⟨rfl, rfl⟩
            go_wp2_with fail
            go_roundw
            case rel =>
              refine ⟨_, cnt3, HR3.out, fun kl hk => HLF.out kl ?_, fun s hs9 hss hl => ?_, HB3.out⟩
              · simp at hk; exact hk.1
              · by_cases es : s = p
                · subst es; exact HC.out.symm
                · refine HZ.out s hs9 hss ?_
                  rw [HE.out] at hl
                  rw [Maps.sameKey_ne (fun q => es (kp_inj q))] at hl
                  simpa using hl
            case measure => rw [HR3.out.left_eq, HRX.out.left_eq]; exact HLT.out
          · have hb0 : (c' == 0) = false := by rw [beq_eq_false_iff_ne]; exact h0
            have HNO := Lib.hid (show restOk m ps = false by
              unfold restOk
              rw [List.all_eq_false]
              refine ⟨p, by simpa using hp9, ?_⟩
              have hn : m.partNo p = false := by
                cases hh : m.partNo p with
                | false => rfl
                | true => exact absurd (HC.out.trans ((HV.out p).2 hh)) h0
              have := HS.out
              simp at this
              simp [hn, this])
            go_wp2_with fail
            refine (need_no _).mono ?_
            rintro e w4 ⟨rfl, rfl⟩
            exact ⟨rfl, Chk.no HNO.out HB3.out⟩

/-- checkMsg's answer -/
def ChkM (m : Mg) (w : World) (e : Ending) (w' : World) : Prop :=
  Below w.heap.size w w' ∧ ((kindB m.kind = false ∧ e = Pn 80) ∨ (kindB m.kind = true ∧ m.ok = false ∧ e = Pn 81) ∨ (kindB m.kind = true ∧ m.ok = true ∧ e = .returned (.tuple #[])))
theorem parts_lt (k : Int) : ∀ p ∈ partsN k, p < 9 := by
  by_cases h : kindB k = true
  · rcases kind_cases h with rfl | rfl | rfl | rfl | rfl | rfl | rfl | rfl | rfl | rfl | rfl | rfl | rfl | rfl <;> decide
  · rw [(parts_kind k).2 (by simpa using h)]; intro p hp; cases hp
theorem parts_len (k : Int) : (partsN k).length ≤ 4 := by
  by_cases h : kindB k = true
  · rcases kind_cases h with rfl | rfl | rfl | rfl | rfl | rfl | rfl | rfl | rfl | rfl | rfl | rfl | rfl | rfl <;> decide
  · rw [(parts_kind k).2 (by simpa using h)]; simp
theorem checkMsg_any (m : Mg) (q : Mad) (F : Nat → Prop) (w : World) (h : MgR F w m q) (hwf : m.wf) : Calls Try.prog 37 #[.agg #[.int .i64 m.kind, .int .i64 m.view, .int .i64 m.seq, .int .i64 m.client, .int .i64 m.stamp, .int .i64 m.e.c, .int .i64 m.e.s, .int .i64 m.e.t, .slice q.ea m.e.dig.length q.ec, .slice q.ga m.dig.length q.gc, .slice q.da m.data.length q.dc, .slice q.pa m.proof.length q.pc, .slice q.va m.proven.length q.vc]] w (ChkM m w) := by
  have HB := Lib.hid ((Below.refl w.heap.size w).alloc (Nat.le_refl _) (.cells #[.int .i64 m.kind, .int .i64 m.view, .int .i64 m.seq, .int .i64 m.client, .int .i64 m.stamp, .int .i64 m.e.c, .int .i64 m.e.s, .int .i64 m.e.t, .slice q.ea m.e.dig.length q.ec, .slice q.ga m.dig.length q.gc, .slice q.da m.data.length q.dc, .slice q.pa m.proof.length q.pc, .slice q.va m.proven.length q.vc] 28))
  have HK := Lib.hid (Bk.new w 28 [.int .i64 m.kind, .int .i64 m.view, .int .i64 m.seq, .int .i64 m.client, .int .i64 m.stamp, .int .i64 m.e.c, .int .i64 m.e.s, .int .i64 m.e.t, .slice q.ea m.e.dig.length q.ec, .slice q.ga m.dig.length q.gc, .slice q.da m.data.length q.dc, .slice q.pa m.proof.length q.pc, .slice q.va m.proven.length q.vc])
  have HR := Lib.hid (h.below HB.out)
  have HP := Lib.hid (partsOf_any m.kind (w.alloc (.cells #[.int .i64 m.kind, .int .i64 m.view, .int .i64 m.seq, .int .i64 m.client, .int .i64 m.stamp, .int .i64 m.e.c, .int .i64 m.e.s, .int .i64 m.e.t, .slice q.ea m.e.dig.length q.ec, .slice q.ga m.dig.length q.gc, .slice q.da m.data.length q.dc, .slice q.pa m.proof.length q.pc, .slice q.va m.proven.length q.vc] 28)))
  have HL := Lib.hid (parts_lt m.kind)
  have HN := Lib.hid (parts_len m.kind)
  have HW := Lib.hid hwf
  have HOK := Lib.hid (show m.ok = ((partsN m.kind).all m.partOk && restOk m (partsN m.kind)) from rfl)
  clear h hwf
  unfold PartsP at HP
  generalize partsN m.kind = ps at *
  go_enter Try.func37, Try.ntmps37
  go_wp2_with fail
  refine HP.out.mono ?_
  rintro e w1 ⟨hb1, ⟨hk, a, rfl, hr1, ha⟩ | ⟨hk, rfl⟩⟩
  · have HB1 := Lib.hid (below_next HB.out hb1 HB.out.size)
    have HK1 := Lib.hid (HK.out.kept hb1)
    have HR1 := Lib.hid (HR.out.below hb1)
    have HPS := Lib.hid hr1
    have HKB := Lib.hid hk
    clear hb1 hr1 ha hk
    go_wp2_with fail
    go_loopw [10] (fun i wr => ∃ (k : Nat), k ≤ ps.length ∧ i = .int .i64 k ∧ Bk wr w.heap.size 28 [.int .i64 m.kind, .int .i64 m.view, .int .i64 m.seq, .int .i64 m.client, .int .i64 m.stamp, .int .i64 m.e.c, .int .i64 m.e.s, .int .i64 m.e.t, .slice q.ea m.e.dig.length q.ec, .slice q.ga m.dig.length q.gc, .slice q.da m.data.length q.dc, .slice q.pa m.proof.length q.pc, .slice q.va m.proven.length q.vc] ∧ MgR F wr m q ∧ Rd wr (some a) ps.length (ps.map pv) ∧ (ps.take k).all m.partOk = true ∧ Below w.heap.size w wr) (fun i _ => ps.length - (intOf i).toNat)
    case atStart => exact ⟨0, by omega, rfl, HK1.out, HR1.out, HPS.out, by simp, HB1.out⟩
    case round =>
      obtain ⟨k, hk, rfl, kb, hrm, hrp, hall, hb⟩ := hrel
      have HKW := Lib.hid kb
      have HRW := Lib.hid hrm
      have HPW := Lib.hid hrp
      have HA := Lib.hid hall
      have HBW := Lib.hid hb
      have c0 := kb.at_ (i := 0) rfl
      have c1 := kb.at_ (i := 1) rfl
      have c2 := kb.at_ (i := 2) rfl
      have c3 := kb.at_ (i := 3) rfl
      have c4 := kb.at_ (i := 4) rfl
      have c5 := kb.at_ (i := 5) rfl
      have c6 := kb.at_ (i := 6) rfl
      have c7 := kb.at_ (i := 7) rfl
      have c8 := kb.at_ (i := 8) rfl
      have c9 := kb.at_ (i := 9) rfl
      have c10 := kb.at_ (i := 10) rfl
      have c11 := kb.at_ (i := 11) rfl
      have c12 := kb.at_ (i := 12) rfl
      clear kb hrm hall hb
      by_cases hlt : k < ps.length
      · obtain ⟨a', ea, hab, hca⟩ := hrp.at_ hlt
        obtain rfl := Option.some.inj ea
        have hx : ps[k]? = some ps[k] := List.getElem?_eq_getElem hlt
        have gx : (ps.map pv).getD k undef = .int .i64 (ps[k] : Int) := by simp [pv, hlt]
        rw [gx] at hca
        have hmem := HL.out ps[k] (List.getElem_mem hlt)
        have HX := Lib.hid hx
        have HC := Lib.hid (checkPart_any m q ps[k] hmem F wr HRW.out)
        unfold pv at HC
        generalize ps[k] = p at *
        have y1 : (0 : Int) ≤ (k : Int) := by omega
        have y2 : (k : Int) < (ps.length : Int) := by omega
        have y3 : ps.length ≤ 4 := HN.out
        clear hx gx hmem hrp hab ea
        go_wp2_with fail
        refine HC.out.mono ?_
        rintro e w2 ⟨hb2, ⟨hd, rfl⟩ | ⟨hd, rfl⟩⟩
        · have HB2 := Lib.hid (below_next HBW.out hb2 HBW.out.size)
          have HK2 := Lib.hid (HKW.out.kept hb2)
          have HR2 := Lib.hid (HRW.out.below hb2)
          have HP2 := Lib.hid (HPW.out.below hb2)
          have HD := Lib.hid hd
          clear hb2 hd
          go_wp2_with fail
          go_roundw
          case rel => exact ⟨k + 1, by omega, by go_num, HK2.out, HR2.out, HP2.out, all_take_next HA.out HX.out HD.out, HB2.out⟩
          case measure => simp [intOf]; omega
        · refine ⟨rfl, below_next HBW.out hb2 HBW.out.size, .inr (.inl ⟨HKB.out, ?_, rfl⟩)⟩
          rw [HOK.out, all_not HX.out hd]
          rfl
      · have e : ps.take k = ps := List.take_of_length_le (by omega)
        have HA := Lib.hid (show ps.all m.partOk = true by have := HA.out; rwa [e] at this)
        have HC := Lib.hid (checkEmpty_any m q ps (some a) ps.length wr HL.out (by have := HN.out; omega) HPW.out HW.out (Nat.le_trans HRW.out.e.sl.1 HRW.out.e.sl.2.1) (Nat.le_trans HRW.out.g.sl.1 HRW.out.g.sl.2.1) (Nat.le_trans HRW.out.d.sl.1 HRW.out.d.sl.2.1) (Nat.le_trans HRW.out.p.1 HRW.out.p.2.1) (Nat.le_trans HRW.out.v.1 HRW.out.v.2.1))
        clear e hrp
        go_wp2_with fail
        refine HC.out.mono ?_
        rintro e w2 ⟨hb2, ⟨hd, rfl⟩ | ⟨hd, rfl⟩⟩
        · have HB2 := Lib.hid (below_next HBW.out hb2 HBW.out.size)
          have HO := Lib.hid (show m.ok = true by rw [HOK.out, HA.out, hd]; rfl)
          clear hb2 hd
          go_wp2_with fail
          go_end0
          exact ⟨HB2.out, .inr (.inr ⟨HKB.out, HO.out, rfl⟩)⟩
        · exact ⟨rfl, below_next HBW.out hb2 HBW.out.size, .inr (.inl ⟨HKB.out, by rw [HOK.out, hd, Bool.and_false], rfl⟩)⟩
  · exact ⟨rfl, below_next HB.out hb1 HB.out.size, .inl ⟨hk, rfl⟩⟩
end Go.Proofs.Ytmgmmbgjmnklkaa
