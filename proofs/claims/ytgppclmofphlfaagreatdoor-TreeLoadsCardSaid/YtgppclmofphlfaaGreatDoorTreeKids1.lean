/-
  The iterator over a node's children. Walks; no statement.
-/
import Derived.Test.YtgppclmofphlfaaGreatDoorTreeIter
namespace Go.Proofs.YtgppclmofphlfaaGreatDoor
set_option maxRecDepth 100000
open Go.RowKit Go.Shelf
set_option linter.unusedVariables false
attribute [local go_sem] Oper.semAt_some

theorem tKids_take (q : List UInt8) (t : List Lf) (k : Nat) (x : Lf) (h : t[k]? = some x) : tKids q (t.take (k + 1)) = tKids q (t.take k) ++ (if parentP x.path = some q then [x.path] else []) := by
  obtain ⟨hk, e⟩ := List.getElem?_eq_some_iff.1 h
  rw [List.take_add_one, h]
  exact tKids_snoc q _ x
theorem tKids_pre (q : List UInt8) (t : List Lf) (k : Nat) : tKids q (t.take k) <+: tKids q t := by
  unfold tKids
  exact ((List.take_prefix k t).filter _).map _
/-- a path, no longer than a path may be -/
abbrev P64 := { l : List UInt8 // l.length ≤ 64 }
set_option maxRecDepth 100000 in
set_option maxHeartbeats 4000000 in
theorem kids1_in (n l n0 B b1 b2 g : Nat) (t : List Lf) (F : Nat → Prop) (q : List UInt8) (J Jx : List P64 → World → Prop) (w W : World) (hn0 : n0 = w.heap.size) (hE : Env w) (hb0 : Below n0 w W)
    (hJ : AbidesFrom W.heap.size J)
    (hY : ∀ pre x W, J pre W → pre.length < (tKids q t).length → YieldAt Fence.wide (n - 1) Tryz.prog l #[.string ⟨x.1.toArray⟩] W fun e W' =>
      (e = .returned (.bool true) ∧ J (pre ++ [x]) W' ∧ KpB n0 B W W') ∨ (e = .returned (.bool false) ∧ Jx (pre ++ [x]) W'))
    (h1 : W.cell? ⟨b1, 0, none⟩ = some (.pointer (some ⟨g, 0, none⟩))) (h2 : W.cell? ⟨b2, 0, none⟩ = some (.string ⟨q.toArray⟩)) (hT : TreeAt F W g t) (hn : t.length ≤ 1000)
    (hH : ∀ k, Hold B W k → k = B) (hB : B < W.heap.size) (hB2 : b2 ≠ B) (h0 : J [] W) :
    CallsIn Fence.wide n Tryz.prog 69 #[.func (.yield l) #[] #[], .pointer (some ⟨b1, 0, none⟩), .pointer (some ⟨b2, 0, none⟩)] W fun e W' => (∃ v, e = .returned v) ∧
      ((∃ ys : List P64, ys.map (·.1) = tKids q t ∧ J ys W') ∨ (∃ pre : List P64, pre.map (·.1) <+: tKids q t ∧ Jx pre W')) := by
  have HP := Lib.hid (paths_any g t F W hT hn)
  have hb2l : b2 < W.heap.size := World.block_lt_of_cell? _ _ h2
  clear hT
  refine callsIn_of_wp Tryz.func69 rfl trivial ?_ rfl
  simp only [Tryz.ntmps69, List.size_toArray, List.length_cons, List.length_nil, Nat.reduceAdd, Nat.reduceSub, Array.replicate_succ, Array.replicate_zero, List.push_toArray, List.append_toArray, List.nil_append, List.cons_append]
  gi_wp2_with fail
  refine ⟨trivial, (fun h => by cases h), (callsIn_wide.2 HP.out).mono ?_⟩
  rintro e w2 ⟨A, c, rfl, ho, hb2⟩
  have HR := Lib.hid ho.rd
  have HOB := Lib.hid (fun a (e : A = some a) (h : 0 < t.length) => show W.heap.size ≤ a.block by
    obtain ⟨h3, h4⟩ := ho
    rcases h4 with ⟨e1, _⟩ | ⟨g', cap, cur, e1, hg, _⟩
    · injection e1 with e1 e2; omega
    · injection e1 with e1; rw [e] at e1; obtain rfl := Option.some.inj e1; exact hg)
  have HJ2 := Lib.hid (show J [] w2 from hJ [] W w2 none h0 (grown_of_below hb2 none) (fun r e => by cases e))
  have HB2 := Lib.hid (show Below n0 w w2 from hb0.trans (hb2.mono (by rw [hn0]; have := hb0.size; omega)))
  have hs2 := hb2.size
  have HH := Lib.hid (fun k (h : Hold B w2 k) => show k = B from hH k ((hold_same (World.cell?_of_block (w := W) (hb2.block B hB)) k).1 h))
  have h22 : w2.cell? ⟨b2, 0, none⟩ = some (.string ⟨q.toArray⟩) := (World.cell?_of_block (w := W) (hb2.block b2 hb2l)).trans h2
  have HJA := Lib.hid hJ
  have HYY := Lib.hid hY
  have HEE := Lib.hid hE
  have HNN := Lib.hid hn0
  have H22 := Lib.hid h22
  have HBW := Lib.hid hB
  have HSW := Lib.hid (show n0 ≤ W.heap.size by rw [hn0]; have := hb0.size; omega)
  clear ho hb2 h1 h2 h0 hH hJ hY hb0 h22 hE hn0
  gi_wp2
  gi_loopw [11] (fun i wr => ∃ k : Nat, k ≤ t.length ∧ i = .int .i64 k ∧ (∃ pre : List P64, pre.map (·.1) = tKids q (t.take k) ∧ J pre wr) ∧ KpB n0 B w2 wr) (fun i _ => t.length - (intOf i).toNat)
  case atStart => exact ⟨0, Nat.zero_le _, rfl, ⟨[], rfl, HJ2.out⟩, KpB.refl _ _ _⟩
  case round =>
    obtain ⟨k, hk, rfl, ⟨pre, hpre, hJs⟩, hkp⟩ := hrel
    by_cases hlt : k < t.length
    · obtain ⟨x, hx⟩ : ∃ x, t[k]? = some x := ⟨_, List.getElem?_eq_getElem hlt⟩
      have HKP := Lib.hid hkp
      have hrd : RdT wr A t.length (t.map (·.path)) := hkp.rdT HR.out fun a e h0 hh => by have := HH.out _ hh; have := HOB.out a e h0; have := HBW.out; omega
      obtain ⟨a, rfl, hab, hac⟩ := hrd.at_ hlt
      have hac2 : wr.cell? (a.add k) = some (.string ⟨x.path.toArray⟩) := by rw [hac]; simp [List.getD, hx]
      have hq : wr.cell? ⟨b2, 0, none⟩ = some (.string ⟨q.toArray⟩) := hkp.cell H22.out fun hh => hB2 (HH.out _ hh)
      have HQ := Lib.hid hq
      have HE2 := Lib.hid (show Env wr from HEE.out.below (by have := HNN.out; subst this; exact HB2.out.trans hkp.be))
      have HPA := Lib.hid (parent_any ⟨x.path.toArray⟩ wr HE2.out)
      have HX := Lib.hid hx
      have HJS := Lib.hid hJs
      have HPRE := Lib.hid hpre
      clear hkp hrd hab hac hJs hx hpre
      gi_wp2_with fail
      cases hp : parentP x.path with
      | none =>
        have HS := Lib.hid (show tKids q (t.take (k + 1)) = tKids q (t.take k) by rw [tKids_take q t k x HX.out, hp]; simp)
        rw [hp] at HPA
        clear hp
        refine ⟨trivial, (fun h => by cases h), (callsIn_wide.2 HPA.out).mono ?_⟩
        rintro e w3 ⟨rfl, hb3⟩
        have HJ3 := Lib.hid (show J pre w3 from HJA.out _ wr w3 none HJS.out (grown_of_below hb3 none) (fun r e => by cases e))
        have HK3 := Lib.hid (show KpB n0 B w2 w3 from HKP.out.trans (KpB.of_below hb3 (by have := HBW.out; have := HKP.out.be.size; omega) (by have := HSW.out; have := HKP.out.be.size; omega)))
        clear hb3 hac2 hq
        unfold optV
        gi_wp2
        refine ⟨fun _ h => (by cases h), ?_⟩
        gi_wp2
        go_roundw
        case rel => exact ⟨k + 1, by omega, by go_num, ⟨pre, by rw [HS.out]; exact HPRE.out, HJ3.out⟩, HK3.out⟩
        case measure => simp [intOf]; omega
      | some up =>
        rw [hp] at HPA
        by_cases hu : up = q
        · have HS := Lib.hid (show tKids q (t.take (k + 1)) = tKids q (t.take k) ++ [x.path] by rw [tKids_take q t k x HX.out, hp, hu]; simp)
          have HL := Lib.hid (show (tKids q (t.take k)).length < (tKids q t).length by
            have h1 := (tKids_pre q t (k + 1)).length_le
            rw [HS.out, List.length_append] at h1
            simp at h1; omega)
          have HX64 := Lib.hid (parent_le hp)
          have HPL := Lib.hid (show pre.length < (tKids q t).length by rw [← List.length_map (f := fun x : P64 => x.1), HPRE.out]; exact HL.out)
          have he : (up == q) = true := by simpa using hu
          subst hu
          clear hp
          refine ⟨trivial, (fun h => by cases h), (callsIn_wide.2 HPA.out).mono ?_⟩
          rintro e w3 ⟨rfl, hb3⟩
          have HK3 := Lib.hid (show KpB n0 B w2 w3 from HKP.out.trans (KpB.of_below hb3 (by have := HBW.out; have := HKP.out.be.size; omega) (by have := HSW.out; have := HKP.out.be.size; omega)))
          have q3 : w3.cell? ⟨b2, 0, none⟩ = some (.string ⟨up.toArray⟩) := HK3.out.cell H22.out fun hh => hB2 (HH.out _ hh)
          obtain ⟨fn, tmps, assign, body, hy, hR⟩ := HYY.out pre ⟨x.path, HX64.out⟩ w3 (show J pre w3 from HJA.out _ wr w3 none HJS.out (grown_of_below hb3 none) (fun r e => by cases e)) HPL.out
          dsimp only at hy
          have HRR := Lib.hid hR
          clear hb3 hac2 hq hR
          unfold optV
          gi_wp2
          refine ⟨(fun h => by cases h), HRR.out.mono ?_⟩
          rintro e w4 (⟨rfl, hJ4, hk4⟩ | ⟨rfl, hJx4⟩)
          · have HJ4 := Lib.hid hJ4
            have HK4 := Lib.hid (HK3.out.trans hk4)
            clear hJ4 hk4 q3 hy
            gi_wp2
            go_roundw
            case rel => exact ⟨k + 1, by omega, by go_num, ⟨_, by rw [HS.out, List.map_append, HPRE.out]; rfl, HJ4.out⟩, HK4.out⟩
            case measure => simp [intOf]; omega
          · have HJ4 := Lib.hid hJx4
            clear hJx4 q3 hy
            gi_wp2
            refine bodyPost_ret (results_none rfl _ _ _) rfl ?_
            exact ⟨⟨_, rfl⟩, .inr ⟨_, by rw [List.map_append, HPRE.out, show [(⟨x.path, HX64.out⟩ : P64)].map (·.1) = [x.path] from rfl, ← HS.out]; exact tKids_pre up t (k + 1), HJ4.out⟩⟩
        · have HS := Lib.hid (show tKids q (t.take (k + 1)) = tKids q (t.take k) by rw [tKids_take q t k x HX.out, hp]; simp [hu])
          have he : (up == q) = false := by simpa using hu
          clear hp hu
          refine ⟨trivial, (fun h => by cases h), (callsIn_wide.2 HPA.out).mono ?_⟩
          rintro e w3 ⟨rfl, hb3⟩
          have HJ3 := Lib.hid (show J pre w3 from HJA.out _ wr w3 none HJS.out (grown_of_below hb3 none) (fun r e => by cases e))
          have HK3 := Lib.hid (show KpB n0 B w2 w3 from HKP.out.trans (KpB.of_below hb3 (by have := HBW.out; have := HKP.out.be.size; omega) (by have := HSW.out; have := HKP.out.be.size; omega)))
          have q3 : w3.cell? ⟨b2, 0, none⟩ = some (.string ⟨q.toArray⟩) := HK3.out.cell H22.out fun hh => hB2 (HH.out _ hh)
          clear hb3 hac2 hq
          unfold optV
          gi_wp2
          refine ⟨fun _ h => (by cases h), ?_⟩
          gi_wp2
          go_roundw
          case rel => exact ⟨k + 1, by omega, by go_num, ⟨pre, by rw [HS.out]; exact HPRE.out, HJ3.out⟩, HK3.out⟩
          case measure => simp [intOf]; omega
    · obtain rfl : k = t.length := by omega
      gi_wp2
      go_end0
      exact ⟨⟨_, rfl⟩, .inl ⟨_, by rw [hpre, List.take_length], hJs⟩⟩
/-- the iterator over node q's children, as a value -/
theorem kids_stops (n B b1 b2 g : Nat) (t : List Lf) (F : Nat → Prop) (q : List UInt8) (w w0 : World) (hE : Env w) (hb0 : Below w.heap.size w w0)
    (h1 : w0.cell? ⟨b1, 0, none⟩ = some (.pointer (some ⟨g, 0, none⟩))) (h2 : w0.cell? ⟨b2, 0, none⟩ = some (.string ⟨q.toArray⟩)) (hT : TreeAt F w0 g t) (hn : t.length ≤ 1000)
    (hH : ∀ k, Hold B w0 k → k = B) (hB : B < w0.heap.size) (hB2 : b2 ≠ B) :
    SeqStopsK Fence.wide n Tryz.prog 69 #[.pointer (some ⟨b1, 0, none⟩), .pointer (some ⟨b2, 0, none⟩)] (fun x : P64 => #[.string ⟨x.1.toArray⟩]) (KpB w.heap.size B) (fun ys => ys.map (·.1) = tKids q t) (fun pre => pre.map (·.1) <+: tKids q t) (tKids q t).length w0 := fun l J Jx W hW hJ hJx hY h0 =>
  kids1_in n l w.heap.size B b1 b2 g t F q J Jx w W rfl hE (hb0.trans (hW.mono hb0.size)) hJ hY
    ((hW.cell (p := ⟨b1, 0, none⟩) (World.block_lt_of_cell? _ _ h1)).trans h1) ((hW.cell (p := ⟨b2, 0, none⟩) (World.block_lt_of_cell? _ _ h2)).trans h2) (hT.below hW) hn
    (fun k h => hH k ((hold_same (hW.cell (p := ⟨B, 0, none⟩) hB) k).1 h)) (Nat.lt_of_lt_of_le hB hW.size) hB2 h0
theorem kids_any (g : Nat) (p : ByteArray) (w : World) : Calls Tryz.prog 49 #[.pointer (some ⟨g, 0, none⟩), .string p] w fun e w' =>
    e = .returned (.func (.func 69) #[] #[.pointer (some ⟨w.heap.size, 0, none⟩), .pointer (some ⟨w.heap.size + 1, 0, none⟩)]) ∧
    w' = (w.alloc (.cells #[.pointer (some ⟨g, 0, none⟩)] 26)).alloc (.cells #[.string p] 9) := by
  go_enter Tryz.func49, Tryz.ntmps49
  go_wp2
  go_ret
  exact ⟨rfl, rfl⟩
end Go.Proofs.YtgppclmofphlfaaGreatDoor
