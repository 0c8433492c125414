/-
  The reference's watches: Drop. A walk; no statement.
-/
import Derived.Test.YtbppokdaehaocaaDoorWatchRef3
namespace Go.Proofs.YtbppokdaehaocaaDoor
set_option maxRecDepth 100000
open Go.RowKit
set_option linter.unusedVariables false

theorem int_next {z : Int} {cs : List Int} {k : Nat} (hk : k < cs.length) : decide (z ∈ cs.take (k + 1)) = (decide (z ∈ cs.take k) || decide (cs.getD k 0 = z)) := by
  rw [take_snocD cs 0 k hk, Bool.eq_iff_iff]
  simp
  constructor
  · rintro (h | h)
    · exact .inl h
    · exact .inr h.symm
  · rintro (h | h)
    · exact .inl h
    · exact .inr h.symm
/-- the reference's table as a value alone -/
def RefD (t' : List Wt) (w : World) (e : Ending) (w' : World) : Prop := Below w.heap.size w w' ∧ ∃ A c, e = .returned (.agg #[.slice A t'.length c]) ∧ RdS RWt (From w.heap.size) w' A c t'
set_option maxHeartbeats 12800000 in
theorem refDropW_any (A : Option Addr) (c : Nat) (t : List Wt) (F : Nat → Prop) (CA : Option Addr) (cn cc : Nat) (cs : List Int) (w : World) (h : RdS RWt F w A c t) (hn : t.length ≤ 1000) (hcs : Rd w CA cn (cs.map (.int .i64 ·))) (hcn : cn ≤ 140737488355328) :
    Calls Tryd.prog 22 #[.agg #[.slice A t.length c], .slice CA cn cc] w (RefD (wDrop cs t) w) := by
  obtain ⟨W2, hW2⟩ : ∃ W2, W2 = (w.alloc (.cells #[.slice A t.length c] 29)).alloc (.cells #[.slice none 0 0] 29) := ⟨_, rfl⟩
  have hb2 : Below w.heap.size w W2 := by rw [hW2]; exact ((Below.refl w.heap.size w).alloc (Nat.le_refl _) _).alloc (by simp) _
  have hs2 : W2.heap.size = w.heap.size + 2 := by rw [hW2]; simp
  have K0 : Bk W2 w.heap.size 29 [.slice A t.length c] := by rw [hW2]; exact (Bk.new w 29 [.slice A t.length c]).alloc _
  have K1 : Bk W2 (w.heap.size + 1) 29 [.slice none 0 0] := by rw [hW2]; exact bk_new2 w _ [.slice none 0 0] _
  have HKW := Lib.hid (fun X (hX : Below W2.heap.size W2 X) => (⟨(K0.kept hX).at_ rfl, (K1.kept hX).frozen 0, (K0.kept hX).frozen 0, K1.kept hX, K0.kept hX, hb2.trans (hX.mono (by omega))⟩ :
    X.cell? ⟨w.heap.size, 0, none⟩ = some (.slice A t.length c) ∧ X.frozen? ⟨w.heap.size + 1, 0, none⟩ = false ∧ X.frozen? ⟨w.heap.size, 0, none⟩ = false ∧ Bk X (w.heap.size + 1) 29 [.slice none 0 0] ∧ Bk X w.heap.size 29 [.slice A t.length c] ∧ Below w.heap.size w X))
  have HX := Lib.hid h
  have HPS := Lib.hid hcs
  have HCL := Lib.hid (show cs.length = cn by simpa using hcs.1)
  have HWE := Lib.hid hW2
  have HS2 := Lib.hid hs2
  obtain ⟨n, hnl⟩ : ∃ n, n = t.length := ⟨_, rfl⟩
  have HL := Lib.hid hnl.symm
  have hn1 : n ≤ 1000 := by omega
  rw [← hnl] at HKW HWE
  rw [← hnl]
  have hP0 : OwnW (W2.alloc (.cells #[] 31)) W2.heap.size (some ⟨W2.heap.size, 0, none⟩) 0 0 [] ∧ Below W2.heap.size W2 (W2.alloc (.cells #[] 31)) := ⟨ownW_empty W2, (Below.refl _ _).alloc (Nat.le_refl _) _⟩
  rw [hs2] at hP0
  have HP0 := Lib.hid hP0
  clear h hW2 hb2 hs2 K0 K1 hnl hn hcs hP0
  go_enter Tryd.func22, Tryd.ntmps22
  go_wp2_with fail
  rw [← HWE.out]
  go_wp2_with fail
  go_loopw [5, 6] (fun sl si wr => ∃ (A1 : Option Addr) (n1 c1 i : Nat), i ≤ n ∧ sl = .slice A1 n1 c1 ∧ si = .int .i64 i ∧ OwnW wr (w.heap.size + 2) A1 n1 c1 (wDrop cs (t.take i)) ∧ Below (w.heap.size + 2) W2 wr) (fun _ si _ => n - (intOf si).toNat)
  case atStart => exact ⟨_, 0, 0, 0, by omega, rfl, rfl, HP0.out.1, HP0.out.2⟩
  case round =>
    obtain ⟨A1, n1, c1, i, hi, rfl, rfl, ho, hb0⟩ := hrel
    have hb : Below W2.heap.size W2 wr := by rw [HS2.out]; exact hb0
    obtain ⟨j0, z1, z0, -, -, hbw⟩ := HKW.out wr hb
    have hls : n1 ≤ t.length := by
      have h1 := ho.len
      have h2 := List.length_filter_le (fun x : Wt => !decide (x.client ∈ cs)) (t.take i)
      rw [List.length_take] at h2
      unfold wDrop at h1
      omega
    by_cases hlt : i < n
    · have hix : i < t.length := by have := HL.out; omega
      have hy : t[i]? = some t[i] := List.getElem?_eq_getElem hix
      have HFN := Lib.hid (show wDrop cs (t.take (i + 1)) = wDrop cs (t.take i) ++ if (!decide (t[i].client ∈ cs)) = true then [t[i]] else [] from filter_next (p := fun x : Wt => !decide (x.client ∈ cs)) hy)
      have HRX := Lib.hid (fun W (hW : Below W2.heap.size W2 W) => (HX.out.below (HKW.out W hW).2.2.2.2.2).wt3 hy)
      generalize t[i] = x at *
      have HO := Lib.hid ho
      have HB := Lib.hid hb
      have HLT := Lib.hid hlt
      have y1 : (0 : Int) ≤ (i : Int) := by omega
      have y2 : (i : Int) < (n : Int) := by omega
      have y3 : n1 ≤ 1000 := by have := HL.out; omega
      clear ho hb hb0 hlt hy hix hls hi hbw z0 z1
      go_wp2_with fail
      go_loopw [7, 8] (fun sb sk wy => ∃ (k : Nat) (bt : Bool), k ≤ cn ∧ sk = .int .i64 k ∧ sb = .bool bt ∧ bt = decide (x.client ∈ cs.take k) ∧ Below wr.heap.size wr wy) (fun _ sk _ => cn - (intOf sk).toNat)
      case atStart => exact ⟨0, false, by omega, rfl, rfl, by simp, Below.refl _ _⟩
      case round =>
        rename World => wy
        obtain ⟨k, bt, hk, rfl, rfl, hbt, hby⟩ := hrel
        have hby2 := HB.out.trans (hby.mono HB.out.size)
        obtain ⟨j1, z1, z0, -, -, hbw⟩ := HKW.out wy hby2
        obtain ⟨a1, rfl, _, d0, d1, d2⟩ := HRX.out wy hby2
        by_cases hlt3 : k < cn
        · obtain ⟨a3, rfl, _, g9⟩ := Rd.at_ (HPS.out.below hbw) hlt3
          have HTK := Lib.hid (int_next (z := x.client) (cs := cs) (k := k) (by have := HCL.out; omega))
          have g0 : wy.cell? (a3.add k) = some (.int .i64 (cs.getD k 0)) := by
            rw [g9]
            have := HCL.out
            simp [List.getD, show k < cs.length by omega]
          clear g9
          generalize cs.getD k 0 = p at *
          have y5 : (0 : Int) ≤ (k : Int) := by omega
          have y6 : (k : Int) < (cn : Int) := by omega
          have HBY := Lib.hid hby
          have HLT3 := Lib.hid hlt3
          have HBT := Lib.hid hbt
          clear hby hby2 hlt3 hbt j0 hbw z0 z1
          cases bt with
          | true =>
            have HBT2 := Lib.hid (show true = decide (x.client ∈ cs.take (k + 1)) by rw [HTK.out, ← HBT.out]; rfl)
            go_upto_region 9 with fail
            go_quiet (fail)
            go_wp2_with fail
            go_roundw
            case rel => exact ⟨k + 1, true, HLT3.out, by go_num, rfl, HBT2.out, below_drewN HBY.out nq⟩
            case measure => have := HLT3.out; simp [intOf]; omega
          | false =>
            by_cases hxp : p = x.client
            · have HBT2 := Lib.hid (show true = decide (x.client ∈ cs.take (k + 1)) by rw [HTK.out, ← HBT.out, decide_eq_true hxp]; rfl)
              have q1 : (p == x.client) = true := by simpa using hxp
              clear hxp
              go_upto_region 9 with fail
              go_quiet (fail)
              go_wp2_with fail
              go_roundw
              case rel => exact ⟨k + 1, true, HLT3.out, by go_num, rfl, HBT2.out, below_drewN HBY.out nq⟩
              case measure => have := HLT3.out; simp [intOf]; omega
            · have HBT2 := Lib.hid (show false = decide (x.client ∈ cs.take (k + 1)) by rw [HTK.out, ← HBT.out, decide_eq_false hxp]; rfl)
              have q1 : (p == x.client) = false := by simpa using hxp
              clear hxp
              go_upto_region 9 with fail
              go_quiet (fail)
              go_wp2_with fail
              go_roundw
              case rel => exact ⟨k + 1, false, HLT3.out, by go_num, rfl, HBT2.out, below_drewN HBY.out nq⟩
              case measure => have := HLT3.out; simp [intOf]; omega
        · rw [List.take_of_length_le (by have := HCL.out; omega)] at hbt
          have HBT := Lib.hid hbt
          have HBY := Lib.hid hby
          have HOY := Lib.hid (HO.out.below hby)
          have hsz : w.heap.size + 2 ≤ wy.heap.size := by have := hby2.size; rw [HS2.out] at this; exact this
          have HBZ := Lib.hid (show Below (w.heap.size + 2) W2 wy by rw [← HS2.out]; exact hby2)
          clear hby hby2 hbt hbw j0 z0 z1
          cases bt with
          | true =>
            have HFN2 := Lib.hid (show wDrop cs (t.take (i + 1)) = wDrop cs (t.take i) by rw [HFN.out, if_neg (by rw [← HBT.out]; simp), List.append_nil])
            go_wp2_with fail
            go_roundw
            case rel => exact ⟨A1, n1, c1, i + 1, HLT.out, rfl, by go_num, by rw [HFN2.out]; exact HOY.out, HBZ.out⟩
            case measure => have := HLT.out; simp [intOf]; omega
          | false =>
            have HFN2 := Lib.hid (show wDrop cs (t.take (i + 1)) = wDrop cs (t.take i) ++ [x] by rw [HFN.out, if_pos (by rw [← HBT.out]; rfl)])
            go_wp2_with (at_builtin; refine wpList_app_wt rfl _ _ rfl (w.heap.size + 2) A1 n1 c1 _ rfl (HOY.out.alloc _) ⟨wy.heap.size, 0, none⟩ x rfl (news_wt wy x) (by omega) (by simp; omega) ?_; intro A4 c4 w4 HO4 HG4 HR4)
            go_roundw
            case rel => exact ⟨A4, n1 + 1, c4, i + 1, HLT.out, rfl, by go_num, by rw [HFN2.out]; exact HO4.out, (HBZ.out.alloc hsz _).grown HG4.out (by simp; omega) (fun b hb => HOY.out.block b hb)⟩
            case measure => have := HLT.out; simp [intOf]; omega
    · have HE := Lib.hid (show t.take i = t from List.take_of_length_le (by have := HL.out; omega))
      obtain ⟨-, -, -, kr, ks, -⟩ := HKW.out wr hb
      have HKR := Lib.hid kr
      have HBW := Lib.hid hbw
      have HO := Lib.hid ho
      have m2 := kr.at_ (i := 0) rfl
      clear ho hb hb0 hls kr ks hbw hi
      go_wp2_with fail
      have kk := (HKR.out.far (p := ⟨w.heap.size, 0, none⟩) (by show w.heap.size + 1 ≠ w.heap.size; omega) (.slice A1 n1 c1)).set 0 (.slice A1 n1 c1)
      refine bodyPost_ret_by (results_row1 rfl _ _ (w.heap.size + 1) 29 _ _ rfl kk Tryd.underlying29 rfl info_rtab1) rfl ?_
      have o1 := HO.out
      rw [HE.out] at o1
      have l1 := o1.len
      have g0 := grown_set (grown_refl wr (some w.heap.size)) 0 (.slice A1 n1 c1)
      have g1 := grown_set (grown_refl (wr.setCell ⟨w.heap.size, 0, none⟩ (.slice A1 n1 c1)) (some (w.heap.size + 1))) 0 (.slice A1 n1 c1)
      have hb3 := (HBW.out.grown g0 HBW.out.size (fun b hb => Nat.le_of_eq (Option.some.inj hb))).grown g1 (by have := HBW.out.size; have := g0.size; omega) (fun b hb => by have := Option.some.inj hb; omega)
      refine ⟨hb3, A1, c1, by rw [l1]; rfl, ?_⟩
      have q := World.ownsRow.kept (World.ownsRow.kept o1 g0 (.inr fun e => by have := o1.block _ e; omega)) g1 (.inr fun e => by have := o1.block _ e; omega)
      exact OwnW.rds (show OwnW _ (w.heap.size + 2) A1 n1 c1 _ from q) fun b hb => (by unfold From; omega)
end Go.Proofs.YtbppokdaehaocaaDoor
