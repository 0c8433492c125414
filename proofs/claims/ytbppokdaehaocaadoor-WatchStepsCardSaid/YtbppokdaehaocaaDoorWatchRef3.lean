/-
  The reference's watches: Fire. A walk; no statement.
-/
import Derived.Test.YtbppokdaehaocaaDoorWatchRef2
import Derived.Test.YtbppokdaehaocaaDoorWatchTake
namespace Go.Proofs.YtbppokdaehaocaaDoor
set_option maxRecDepth 100000
open Go.RowKit
set_option linter.unusedVariables false

theorem Parted.below {p : Wt → Bool} {t : List Wt} {w wr wy : World} {k n1 c1 n2 c2 : Nat} {A1 A2 : Option Addr} (h : Parted p t w wr k A1 n1 c1 A2 n2 c2) (hb : Below wr.heap.size wr wy) : Parted p t w wy k A1 n1 c1 A2 n2 c2 :=
  ⟨h.1.below hb, h.2.1.below hb, h.2.2.1, h.2.2.2.trans (hb.mono h.2.2.2.size)⟩
theorem has_next {p : List UInt8} {ps : List (List UInt8)} {k : Nat} (hk : k < ps.length) : decide (p ∈ ps.take (k + 1)) = (decide (p ∈ ps.take k) || decide (ps.getD k [] = p)) := by
  rw [take_snocD ps [] k hk, Bool.eq_iff_iff]
  simp
  constructor
  · rintro (h | h)
    · exact .inl h
    · exact .inr h.symm
  · rintro (h | h)
    · exact .inl h
    · exact .inr h.symm
/-- what the reference's Fire leaves: the table as a value, and what was fired -/
def RefF (t' xs : List Wt) (w : World) (e : Ending) (w' : World) : Prop :=
  Below w.heap.size w w' ∧ ∃ A c A2 c2, e = .returned (.tuple #[.agg #[.slice A t'.length c], .slice A2 xs.length c2]) ∧ RdS RWt (From w.heap.size) w' A c t' ∧ RdS RWt (From w.heap.size) w' A2 c2 xs
set_option maxHeartbeats 12800000 in
theorem refFireW_any (A : Option Addr) (c : Nat) (t : List Wt) (F : Nat → Prop) (kind : Int) (PA : Option Addr) (pn pc : Nat) (ps : List (List UInt8)) (w : World) (h : RdS RWt F w A c t) (hn : t.length ≤ 1000) (hps : RdT w PA pn ps) (hpn : pn ≤ 140737488355328) :
    Calls Tryd.prog 16 #[.agg #[.slice A t.length c], .int .i64 kind, .slice PA pn pc] w (RefF (wLeft kind ps t) (wFired kind ps t) w) := by
  obtain ⟨W2, hW2⟩ : ∃ W2, W2 = (w.alloc (.cells #[.slice A t.length c] 29)).alloc (.cells #[.slice none 0 0] 29) := ⟨_, rfl⟩
  have hb2 : Below w.heap.size w W2 := by rw [hW2]; exact ((Below.refl w.heap.size w).alloc (Nat.le_refl _) _).alloc (by simp) _
  have hs2 : W2.heap.size = w.heap.size + 2 := by rw [hW2]; simp
  have K0 : Bk W2 w.heap.size 29 [.slice A t.length c] := by rw [hW2]; exact (Bk.new w 29 [.slice A t.length c]).alloc _
  have K1 : Bk W2 (w.heap.size + 1) 29 [.slice none 0 0] := by rw [hW2]; exact bk_new2 w _ [.slice none 0 0] _
  have HKW := Lib.hid (fun X (hX : Below W2.heap.size W2 X) => (⟨(K0.kept hX).at_ rfl, (K1.kept hX).frozen 0, (K0.kept hX).frozen 0, K1.kept hX, K0.kept hX, hb2.trans (hX.mono (by omega))⟩ :
    X.cell? ⟨w.heap.size, 0, none⟩ = some (.slice A t.length c) ∧ X.frozen? ⟨w.heap.size + 1, 0, none⟩ = false ∧ X.frozen? ⟨w.heap.size, 0, none⟩ = false ∧ Bk X (w.heap.size + 1) 29 [.slice none 0 0] ∧ Bk X w.heap.size 29 [.slice A t.length c] ∧ Below w.heap.size w X))
  have HX := Lib.hid h
  have HPS := Lib.hid hps
  have HWE := Lib.hid hW2
  have HS2 := Lib.hid hs2
  obtain ⟨n, hnl⟩ : ∃ n, n = t.length := ⟨_, rfl⟩
  have HL := Lib.hid hnl.symm
  have hn1 : n ≤ 1000 := by omega
  rw [← hnl] at HKW HWE
  rw [← hnl]
  have hP0 : Parted (wHit kind ps) t W2 ((W2.alloc (.cells #[] 31)).alloc (.cells #[] 31)) 0 (some ⟨W2.heap.size, 0, none⟩) 0 0 (some ⟨W2.heap.size + 1, 0, none⟩) 0 0 := by
    refine ⟨(ownW_empty W2).alloc _, ?_, fun b hb e => ?_, ((Below.refl _ _).alloc (Nat.le_refl _) _).alloc (by simp) _⟩
    · have := (ownW_empty (W2.alloc (.cells #[] 31))).more (base' := W2.heap.size) (by simp)
      rw [show (W2.alloc (.cells #[] 31)).heap.size = W2.heap.size + 1 by simp] at this
      exact this
    · have h1 : W2.heap.size = b := Option.some.inj hb
      have h2 : W2.heap.size + 1 = b := Option.some.inj e
      omega
  rw [hs2] at hP0
  have HP0 := Lib.hid hP0
  clear h hW2 hb2 hs2 K0 K1 hnl hn hps hP0
  go_enter Tryd.func16, Tryd.ntmps16
  go_wp2_with fail
  rw [← HWE.out]
  go_wp2_with fail
  go_loopw [8, 9, 10] (fun so sl si wr => ∃ (A1 : Option Addr) (n1 c1 : Nat) (A2 : Option Addr) (n2 c2 i : Nat), i ≤ n ∧ so = .slice A1 n1 c1 ∧ sl = .slice A2 n2 c2 ∧ si = .int .i64 i ∧ Parted (wHit kind ps) t W2 wr i A1 n1 c1 A2 n2 c2) (fun _ _ si _ => n - (intOf si).toNat)
  case atStart => exact ⟨_, 0, 0, _, 0, 0, 0, by omega, rfl, rfl, rfl, HP0.out⟩
  case round =>
    obtain ⟨A1, n1, c1, A2, n2, c2, i, hi, rfl, rfl, rfl, hpt⟩ := hrel
    obtain ⟨j0, z1, z0, -, -, hbw⟩ := HKW.out wr hpt.2.2.2
    have hls := hpt.lens
    by_cases hlt : i < n
    · have hix : i < t.length := by have := HL.out; omega
      have hy : t[i]? = some t[i] := List.getElem?_eq_getElem hix
      have HY := Lib.hid hy
      have HRX := Lib.hid (fun W (hW : Below W2.heap.size W2 W) => (HX.out.below (HKW.out W hW).2.2.2.2.2).wt3 hy)
      generalize t[i] = x at *
      have HPT := Lib.hid hpt
      have HLT := Lib.hid hlt
      have y1 : (0 : Int) ≤ (i : Int) := by omega
      have y2 : (i : Int) < (n : Int) := by omega
      have y3 : n1 ≤ 1000 := by have := HL.out; omega
      have y4 : n2 ≤ 1000 := by have := HL.out; omega
      clear hpt hlt hy hix hls hi hbw z0 z1
      go_wp2_with fail
      go_loopw [11, 12] (fun sb sk wy => ∃ (k : Nat) (bt : Bool), k ≤ pn ∧ sk = .int .i64 k ∧ sb = .bool bt ∧ bt = decide (x.path ∈ ps.take k) ∧ Below wr.heap.size wr wy) (fun _ sk _ => pn - (intOf sk).toNat)
      case atStart => exact ⟨0, false, by omega, rfl, rfl, by simp, Below.refl _ _⟩
      case round =>
        rename World => wy
        obtain ⟨k, bt, hk, rfl, rfl, hbt, hby⟩ := hrel
        have hpy := HPT.out.below hby
        obtain ⟨j1, z1, z0, -, -, hbw⟩ := HKW.out wy hpy.2.2.2
        obtain ⟨a1, rfl, _, d0, d1, d2⟩ := HRX.out wy hpy.2.2.2
        by_cases hlt3 : k < pn
        · obtain ⟨a3, rfl, _, g0⟩ := (HPS.out.below hbw).at_ hlt3
          have HTK := Lib.hid (has_next (p := x.path) (ps := ps) (k := k) (by have := HPS.out.len; omega))
          generalize ps.getD k [] = p at *
          have y5 : (0 : Int) ≤ (k : Int) := by omega
          have y6 : (k : Int) < (pn : Int) := by omega
          have HBY := Lib.hid hby
          have HLT3 := Lib.hid hlt3
          have HBT := Lib.hid hbt
          clear hby hlt3 hbt j0 hpy hbw z0 z1
          cases bt with
          | true =>
            have HBT2 := Lib.hid (show true = decide (x.path ∈ ps.take (k + 1)) by rw [HTK.out, ← HBT.out]; rfl)
            go_upto_region 10 with fail
            go_quiet (fail)
            go_wp2_with fail
            go_roundw
            case rel => exact ⟨k + 1, true, HLT3.out, by go_num, rfl, HBT2.out, below_drewN HBY.out nq⟩
            case measure => have := HLT3.out; simp [intOf]; omega
          | false =>
            by_cases hxp : p = x.path
            · have HBT2 := Lib.hid (show true = decide (x.path ∈ ps.take (k + 1)) by rw [HTK.out, ← HBT.out, decide_eq_true hxp]; rfl)
              have q1 : (p == x.path) = true := by simpa using hxp
              clear hxp
              go_upto_region 10 with fail
              go_quiet (fail)
              go_wp2_with fail
              go_roundw
              case rel => exact ⟨k + 1, true, HLT3.out, by go_num, rfl, HBT2.out, below_drewN HBY.out nq⟩
              case measure => have := HLT3.out; simp [intOf]; omega
            · have HBT2 := Lib.hid (show false = decide (x.path ∈ ps.take (k + 1)) by rw [HTK.out, ← HBT.out, decide_eq_false hxp]; rfl)
              have q1 : (p == x.path) = false := by simpa using hxp
              clear hxp
              go_upto_region 10 with fail
              go_quiet (fail)
              go_wp2_with fail
              go_roundw
              case rel => exact ⟨k + 1, false, HLT3.out, by go_num, rfl, HBT2.out, below_drewN HBY.out nq⟩
              case measure => have := HLT3.out; simp [intOf]; omega
        · rw [List.take_of_length_le (by have := HPS.out.len; omega)] at hbt
          have HPY := Lib.hid hpy
          have HBT := Lib.hid hbt
          have hsz := hpy.2.2.2.size
          have HBA := Lib.hid ((Below.refl wy.heap.size wy).alloc (Nat.le_refl _) (.cells #[.int .i64 x.client, .int .i64 x.kind, .string ⟨x.path.toArray⟩] 31))
          clear hby hbt hpy hbw j0 z0 z1
          cases bt with
          | true =>
            by_cases hkx : x.kind = kind
            · have HH := Lib.hid (show wHit kind ps x = true by unfold wHit; rw [decide_eq_true_eq]; exact ⟨hkx, by simpa using HBT.out.symm⟩)
              have q2 : (x.kind == kind) = true := by simpa using hkx
              clear hkx
              go_wp2_with (at_builtin; refine wpList_app_wt rfl _ _ rfl W2.heap.size A1 n1 c1 _ rfl (HPY.out.1.alloc _) ⟨wy.heap.size, 0, none⟩ x rfl (news_wt wy x) (by omega) (by simp; omega) ?_; intro A4 c4 w4 HO4 HG4 HR4)
              go_roundw
              case rel => exact ⟨A4, n1 + 1, c4, A2, n2, c2, i + 1, HLT.out, rfl, rfl, by go_num, HPY.out.one HY.out HH.out HBA.out HO4.out HG4.out HR4.out⟩
              case measure => have := HLT.out; simp [intOf]; omega
            · have HH := Lib.hid (show wHit kind ps x = false by unfold wHit; rw [decide_eq_false_iff_not]; exact fun h => hkx h.1)
              have q2 : (x.kind == kind) = false := by simpa using hkx
              clear hkx
              go_wp2_with (at_builtin; refine wpList_app_wt rfl _ _ rfl W2.heap.size A2 n2 c2 _ rfl (HPY.out.2.1.alloc _) ⟨wy.heap.size, 0, none⟩ x rfl (news_wt wy x) (by omega) (by simp; omega) ?_; intro A4 c4 w4 HO4 HG4 HR4)
              go_roundw
              case rel => exact ⟨A1, n1, c1, A4, n2 + 1, c4, i + 1, HLT.out, rfl, rfl, by go_num, HPY.out.two HY.out HH.out HBA.out HO4.out HG4.out HR4.out⟩
              case measure => have := HLT.out; simp [intOf]; omega
          | false =>
            have HH := Lib.hid (show wHit kind ps x = false by unfold wHit; rw [decide_eq_false_iff_not]; exact fun h => by have := HBT.out; simp at this; exact this h.2)
            go_wp2_with (at_builtin; refine wpList_app_wt rfl _ _ rfl W2.heap.size A2 n2 c2 _ rfl (HPY.out.2.1.alloc _) ⟨wy.heap.size, 0, none⟩ x rfl (news_wt wy x) (by omega) (by simp; omega) ?_; intro A4 c4 w4 HO4 HG4 HR4)
            go_roundw
            case rel => exact ⟨A1, n1, c1, A4, n2 + 1, c4, i + 1, HLT.out, rfl, rfl, by go_num, HPY.out.two HY.out HH.out HBA.out HO4.out HG4.out HR4.out⟩
            case measure => have := HLT.out; simp [intOf]; omega
    · have HE := Lib.hid (show t.take i = t from List.take_of_length_le (by have := HL.out; omega))
      obtain ⟨-, -, -, kr, ks, -⟩ := HKW.out wr hpt.2.2.2
      have HKR := Lib.hid kr
      have HBW := Lib.hid hbw
      have HPT := Lib.hid hpt
      have m2 := kr.at_ (i := 0) rfl
      clear hpt hls kr ks hbw hi
      go_wp2_with fail
      have kk := (HKR.out.far (p := ⟨w.heap.size, 0, none⟩) (by show w.heap.size + 1 ≠ w.heap.size; omega) (.slice A2 n2 c2)).set 0 (.slice A2 n2 c2)
      refine bodyPost_ret_by (results_row_tmp rfl _ _ (w.heap.size + 1) 29 _ _ rfl kk Tryd.underlying29 rfl info_rtab1) rfl ?_
      have hp2 := HPT.out
      rw [Parted, HE.out] at hp2
      obtain ⟨o1, o2, hap, hb⟩ := hp2
      have hs := HS2.out
      have l1 := o1.len
      have l2 := o2.len
      have g0 := grown_set (grown_refl wr (some w.heap.size)) 0 (.slice A2 n2 c2)
      have g1 := grown_set (grown_refl (wr.setCell ⟨w.heap.size, 0, none⟩ (.slice A2 n2 c2)) (some (w.heap.size + 1))) 0 (.slice A2 n2 c2)
      have hb3 := (HBW.out.grown g0 HBW.out.size (fun b hb => Nat.le_of_eq (Option.some.inj hb))).grown g1 (by have := HBW.out.size; have := g0.size; omega) (fun b hb => by have := Option.some.inj hb; omega)
      refine ⟨hb3, A2, c2, A1, c1, by rw [show (wLeft kind ps t).length = n2 from l2, show (wFired kind ps t).length = n1 from l1]; rfl, ?_, ?_⟩
      · have q := World.ownsRow.kept (World.ownsRow.kept o2 g0 (.inr fun e => by have := o2.block _ e; omega)) g1 (.inr fun e => by have := o2.block _ e; omega)
        exact OwnW.rds (show OwnW _ W2.heap.size A2 n2 c2 _ from q) fun b hb => (by unfold From; omega)
      · have q := World.ownsRow.kept (World.ownsRow.kept o1 g0 (.inr fun e => by have := o1.block _ e; omega)) g1 (.inr fun e => by have := o1.block _ e; omega)
        exact OwnW.rds (show OwnW _ W2.heap.size A1 n1 c1 _ from q) fun b hb => (by unfold From; omega)
end Go.Proofs.YtbppokdaehaocaaDoor
