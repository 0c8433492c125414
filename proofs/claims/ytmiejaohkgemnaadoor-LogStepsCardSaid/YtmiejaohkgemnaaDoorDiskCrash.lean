/-
  The disk's Crash. Walks; no statement.
-/
import Derived.Test.YtmiejaohkgemnaaDoorDiskSync
import Derived.Deep.RegionHeld3
namespace Go.Proofs.YtmiejaohkgemnaaDoor
open Go.RowKit
set_option linter.unusedVariables false
set_option maxRecDepth 100000

def NewAt (p : Int) (w : World) (e : Ending) (w' : World) : Prop :=
  e = .returned (.pointer (some ⟨w.heap.size, 0, none⟩)) ∧ Bk w' w.heap.size 73 [.slice none 0 0, .int .i64 0, .slice none 0 0, .int .i64 0, .int .i64 p] ∧ Below w.heap.size w w' ∧ w'.heap.size = w.heap.size + 1
theorem new_at (p : Int) (w : World) : Calls Tryd.prog 13 #[.int .i64 p] w (NewAt p w) := by
  have HB := Lib.hid (Bk.new w 73 [.slice none 0 0, .int .i64 0, .slice none 0 0, .int .i64 0, .int .i64 p])
  go_enter Tryd.func13, Tryd.ntmps13
  go_wp2_with fail
  go_ret
  exact ⟨rfl, HB.out, (Below.refl _ _).alloc (Nat.le_refl _) _, by simp⟩
theorem left_eq (l : List UInt8) (s k : Int) (hs : 0 ≤ s) (hl : s ≤ l.length) : (PD.left l s k : Int) = s + min (max k 0) (l.length - s) := by
  unfold PD.left
  split <;> split <;> omega
theorem left_le (l : List UInt8) (s k : Int) (hs : 0 ≤ s) (hl : s ≤ l.length) : PD.left l s k ≤ l.length := by
  have := left_eq l s k hs hl
  omega
theorem info_content : (Tryd.prog.info? 70).map (·.size) = some 2 := by kernel_rfl
theorem info_content' : ∃ i, Tryd.prog.info? 70 = some i ∧ i.size = 2 := by
  have := info_content
  cases h : Tryd.prog.info? 70 with
  | none => rw [h] at this; cases this
  | some i => rw [h] at this; exact ⟨i, rfl, by simpa using this⟩
theorem index_0 (a b c d : Value) (w : World) : (Instr.index 71 (.agg #[a, b, c, d]) (.int .i64 0)).run Tryd.prog w = .ok (.agg #[a, b]) w := by
  obtain ⟨i, hi, hs⟩ := info_content'
  simp [Instr.index, asIntOf, run_underlying Tryd.underlying71, sizeOf, typeInfo, hi, hs, part]
theorem index_1 (a b c d : Value) (w : World) : (Instr.index 71 (.agg #[a, b, c, d]) (.int .i64 1)).run Tryd.prog w = .ok (.agg #[c, d]) w := by
  obtain ⟨i, hi, hs⟩ := info_content'
  simp [Instr.index, asIntOf, run_underlying Tryd.underlying71, sizeOf, typeInfo, hi, hs, part]
/-- how the loop over the areas stands -/
def CrAt (w : World) (g : Nat) (l0 l1 : List UInt8) (p : Int) (wr : World) : Prop :=
  ∃ B0 m0 e0 B1 m1 e1, Bk wr g 73 [.slice B0 m0 e0, .int .i64 l0.length, .slice B1 m1 e1, .int .i64 l1.length, .int .i64 p] ∧ OwnB wr w.heap.size B0 m0 e0 l0 ∧ OwnB wr w.heap.size B1 m1 e1 l1 ∧
    (∀ b, (Value.slice B0 m0 e0).ownBlock = some b → (Value.slice B1 m1 e1).ownBlock ≠ some b) ∧ Below w.heap.size w wr
theorem CrAt.drew {w wr : World} {g : Nat} {l0 l1 : List UInt8} {p : Int} (h : CrAt w g l0 l1 p wr) : CrAt w g l0 l1 p wr.drew := by
  obtain ⟨B0, m0, e0, B1, m1, e1, kb, ho0, ho1, hap, hb⟩ := h
  exact ⟨B0, m0, e0, B1, m1, e1, kb, ho0, ho1, hap, below_drew hb⟩
theorem cr_0 {w wr w4 : World} {g base m c m0 e0 m1 e1 : Nat} {A B0 B1 : Option Addr} {s0 p : Int} {r0 l1 : List UInt8} (kb : Bk wr g 73 [.slice B0 m0 e0, .int .i64 s0, .slice B1 m1 e1, .int .i64 l1.length, .int .i64 p])
    (ho1 : OwnB wr w.heap.size B1 m1 e1 l1) (hbl : Below w.heap.size w wr) (h4 : Below wr.heap.size wr w4) (ho : OwnB w4 base A m c r0) (hbase : wr.heap.size ≤ base) (hg : w.heap.size ≤ g) :
    CrAt w g r0 l1 p ((w4.setCell ⟨g, 0, none⟩ (.slice A m c)).setCell ⟨g, 1, none⟩ (.int .i64 (m : Int))) := by
  have k4 := kb.kept h4
  have hgr := grown_set (grown_set (grown_refl w4 (some g)) 0 (.slice A m c)) 1 (.int .i64 (m : Int))
  have hlen := ho.len
  refine ⟨A, m, c, B1, m1, e1, by rw [hlen]; exact (k4.set 0 (.slice A m c)).set 1 (.int .i64 (m : Int)), (ho.more (Nat.le_trans hbl.size hbase)).off k4 (by decide) hgr, (ho1.below h4).off k4 (by decide) hgr, fun b e e1 => ?_, below_set (below_set (below_next hbl h4 hbl.size) hg 0 _) hg 1 _⟩
  have h1 := ho.block b e
  have h2 := (World.ownsRow.lt ho1 b e1).2
  omega
theorem cr_1 {w wr w4 : World} {g base m c m0 e0 m1 e1 : Nat} {A B0 B1 : Option Addr} {s1 p : Int} {l0 r1 : List UInt8} (kb : Bk wr g 73 [.slice B0 m0 e0, .int .i64 l0.length, .slice B1 m1 e1, .int .i64 s1, .int .i64 p])
    (ho0 : OwnB wr w.heap.size B0 m0 e0 l0) (hbl : Below w.heap.size w wr) (h4 : Below wr.heap.size wr w4) (ho : OwnB w4 base A m c r1) (hbase : wr.heap.size ≤ base) (hg : w.heap.size ≤ g) :
    CrAt w g l0 r1 p ((w4.setCell ⟨g, 2, none⟩ (.slice A m c)).setCell ⟨g, 3, none⟩ (.int .i64 (m : Int))) := by
  have k4 := kb.kept h4
  have hgr := grown_set (grown_set (grown_refl w4 (some g)) 2 (.slice A m c)) 3 (.int .i64 (m : Int))
  have hlen := ho.len
  refine ⟨B0, m0, e0, A, m, c, by rw [hlen]; exact (k4.set 2 (.slice A m c)).set 3 (.int .i64 (m : Int)), (ho0.below h4).off k4 (by decide) hgr, (ho.more (Nat.le_trans hbl.size hbase)).off k4 (by decide) hgr, fun b e e1 => ?_, below_set (below_set (below_next hbl h4 hbl.size) hg 2 _) hg 3 _⟩
  have h1 := ho.block b e1
  have h2 := (World.ownsRow.lt ho0 b e).2
  omega
set_option maxHeartbeats 1000000 in
theorem disk_crash (g : Nat) (P : PD) (F : Nat → Prop) (A : Option Addr) (n c : Nat) (keeps : List Int) (p : Int) (w : World) (h : Dk w F g P) (hR : Rd w A n (keeps.map iv)) (hm : n ≤ maxLen)
    (hw : ∀ x ∈ keeps, -9223372036854775808 ≤ x ∧ x ≤ 9223372036854775807) (hp : -9223372036854775808 ≤ p ∧ p ≤ 9223372036854775807) (b0 : P.d0.length ≤ 1099511627776) (b1 : P.d1.length ≤ 1099511627776) :
    Calls Tryd.prog 25 #[.pointer (some ⟨g, 0, none⟩), .slice A n c, .int .i64 p] w (Made (P.crash keeps p) w) := by
  obtain ⟨A0, n0, c0, A1, n1, c1, h⟩ := h
  unfold maxLen at hm
  have hkl : keeps.length = n := by simpa using hR.1
  obtain ⟨x0, hx0⟩ : ∃ x, x = keeps.getD 0 0 := ⟨_, rfl⟩
  obtain ⟨x1, hx1⟩ : ∃ x, x = keeps.getD 1 0 := ⟨_, rfl⟩
  have hw0 : -9223372036854775808 ≤ x0 ∧ x0 ≤ 9223372036854775807 := by
    rw [hx0]
    by_cases hk : 0 < keeps.length
    · exact hw _ (getD_mem hk)
    · rw [List.getD, List.getElem?_eq_none (by omega)]; simp
  have hw1 : -9223372036854775808 ≤ x1 ∧ x1 ≤ 9223372036854775807 := by
    rw [hx1]
    by_cases hk : 1 < keeps.length
    · exact hw _ (getD_mem hk)
    · rw [List.getD, List.getElem?_eq_none (by omega)]; simp
  have hf := h.fine
  unfold PD.Fine at hf
  obtain ⟨f1, f2, f3, f4⟩ := hf
  obtain ⟨r0, hr0⟩ : ∃ r, r = P.d0.take (PD.left P.d0 P.s0 x0) := ⟨_, rfl⟩
  obtain ⟨r1, hr1⟩ : ∃ r, r = P.d1.take (PD.left P.d1 P.s1 x1) := ⟨_, rfl⟩
  have HRL0 := Lib.hid (show r0.length = PD.left P.d0 P.s0 x0 by rw [hr0, List.length_take]; have := left_le P.d0 P.s0 x0 f1 f2; omega)
  have HLV0 := Lib.hid (left_eq P.d0 P.s0 x0 f1 f2)
  have HMN0 := Lib.hid (left_le P.d0 P.s0 x0 f1 f2)
  have HRL1 := Lib.hid (show r1.length = PD.left P.d1 P.s1 x1 by rw [hr1, List.length_take]; have := left_le P.d1 P.s1 x1 f3 f4; omega)
  have HLV1 := Lib.hid (left_eq P.d1 P.s1 x1 f3 f4)
  have HMN1 := Lib.hid (left_le P.d1 P.s1 x1 f3 f4)
  have HRV0 := Lib.hid hr0
  have HRV1 := Lib.hid hr1
  have HPC := Lib.hid (show P.crash keeps p = ⟨p, r0, r1, r0.length, r1.length⟩ by rw [hr0, hr1, hx0, hx1]; rfl)
  rw [HPC.out]
  have l0 := h.r0.len
  have l1 := h.r1.len
  obtain ⟨q0, q1, q2, q3, q4⟩ := h.bk.five
  have HH := Lib.hid h
  have HRD := Lib.hid hR
  have HKL := Lib.hid hkl
  have HX0 := Lib.hid hx0
  have HX1 := Lib.hid hx1
  have HN := Lib.hid (new_at p w)
  have HP := Lib.hid hp
  rw [l0] at f2
  rw [l1] at f4
  have HL0 := Lib.hid l0
  have HL1 := Lib.hid l1
  have b0 : n0 ≤ 1099511627776 := by rw [← HL0.out]; exact b0
  have b1 : n1 ≤ 1099511627776 := by rw [← HL1.out]; exact b1
  have HCAP0 := Lib.hid (own_cap h.r0).1
  have HCAP1 := Lib.hid (own_cap h.r1).1
  clear h hR hw hkl hx0 hx1 hr0 hr1 hp l0 l1
  generalize PD.left P.d0 P.s0 x0 = m0 at *
  generalize PD.left P.d1 P.s1 x1 = m1 at *
  rw [HL0.out] at HLV0 HMN0
  rw [HL1.out] at HLV1 HMN1
  obtain ⟨a0, ha0⟩ : ∃ a : Nat, P.s0 = a := ⟨P.s0.toNat, by omega⟩
  obtain ⟨a1, ha1⟩ : ∃ a : Nat, P.s1 = a := ⟨P.s1.toNat, by omega⟩
  rw [ha0] at f1 f2 HLV0 q1
  rw [ha1] at f3 f4 HLV1 q3
  have HA0 := Lib.hid ha0
  have HA1 := Lib.hid ha1
  clear ha0 ha1
  go_enter Tryd.func25, Tryd.ntmps25
  go_wp2_with fail
  refine HN.out.mono ?_
  rintro e w1 ⟨rfl, kb, hb, hs⟩
  have hk := HH.out.kept hb
  have HHK := Lib.hid hk
  have HB := Lib.hid hb
  have HKB := Lib.hid kb
  have HAT := Lib.hid (show CrAt w w.heap.size [] [] p w1 from ⟨none, 0, 0, none, 0, 0, kb, OwnB.nil_ _ _, OwnB.nil_ _ _, by simp [Value.ownBlock], hb⟩)
  clear q0 q1 q2 q3 q4
  obtain ⟨q0, q1, q2, q3, q4⟩ := hk.bk.five
  rw [HA0.out] at q1
  rw [HA1.out] at q3
  clear kb hk hb hs
  go_wp2_with fail
  clear q0 q1 q2 q3 q4
  go_loopw [17] (fun i wr => ∃ k : Nat, k ≤ 2 ∧ i = .int .i64 k ∧ CrAt w w.heap.size (if 0 < k then r0 else []) (if 1 < k then r1 else []) p wr) (fun i _ => 2 - (intOf i).toNat)
  case atStart => exact ⟨0, by omega, rfl, HAT.out⟩
  case round =>
    obtain ⟨k, hk, rfl, hcr⟩ := hrel
    have hkc : k = 0 ∨ k = 1 ∨ k = 2 := by omega
    clear hk
    rcases hkc with rfl | rfl | rfl
    · have hcr : CrAt w w.heap.size [] [] p wr := by simpa using hcr
      obtain ⟨B0, p0, e0, B1, p1, e1, kb, ho0, ho1, hap, hbl⟩ := hcr
      have KB := Lib.hid kb
      have HO0 := Lib.hid ho0
      have HO1 := Lib.hid ho1
      have HLT := Lib.hid kb.lt
      have hix := index_0 (.slice A0 n0 c0) (.int .i64 (a0 : Int)) (.slice A1 n1 c1) (.int .i64 (a1 : Int)) wr
      have wa : IntKind.i64.wrap ((n0 : Int) - (a0 : Int)) = (n0 : Int) - (a0 : Int) := by simp only [IntKind.wrap, IntKind.bits, IntKind.signed]; simp; omega
      clear ho0 ho1 hap
      by_cases hn : 0 < n
      · have y : (0 : Int) < (n : Int) := by omega
        obtain ⟨a, rfl, hal, hc⟩ := (HRD.out.below hbl).at_ hn
        have gx : (keeps.map iv).getD 0 undef = .int .i64 x0 := by
          rw [HX0.out]
          have : 0 < keeps.length := by rw [HKL.out]; exact hn
          simp [iv, List.getD, this]
        rw [gx] at hc
        replace hc : wr.cell? a = some (.int .i64 x0) := by simpa [Addr.add] using hc
        clear gx hn
        by_cases hx : x0 < 0
        · go_wp2_with fail
          go_quiet (fail)
          go_wp2_with fail
          obtain ⟨wA, hwA⟩ : ∃ wA, wA = ((wr.alloc (.cells #[.slice A0 n0 c0, .int .i64 (a0 : Int)] 70)).drewN nq) := ⟨_, rfl⟩
          rw [← hwA]
          obtain rfl : m0 = a0 := by have := HLV0.out; omega
          have hw : Below wr.heap.size wr wA := by rw [hwA]; exact below_drewN ((Below.refl _ _).alloc (Nat.le_refl _) _) nq
          have sl : wA.cell? ⟨wr.heap.size, 0, none⟩ = some (.slice A0 n0 c0) := by rw [hwA]; exact (Bk.new wr 70 [.slice A0 n0 c0, .int .i64 (m0 : Int)]).at_ rfl
          have KS := Lib.hid (show Bk wA wr.heap.size 70 [.slice A0 n0 c0, .int .i64 (m0 : Int)] by rw [hwA]; exact Bk.new wr 70 [.slice A0 n0 c0, .int .i64 (m0 : Int)])
          have HCL := Lib.hid (show ∀ W, Below wr.heap.size wr W → Calls Tryd.prog 47 #[.slice A0 m0 c0] W (Fresh1 r0 W) from fun W hW => by
            have ho := own_front ((HH.out.kept hbl).kept hW).r0 HMN0.out
            rw [← HRV0.out] at ho
            have := HMN0.out
            exact clone_any A0 m0 c0 r0 W ho.rd (by omega))
          have z2 : (m0 : Int) ≤ (c0 : Int) := by have := HMN0.out; have := HCAP0.out; omega
          have z3 : (0 : Int) ≤ (m0 : Int) := by omega
          clear hwA
          go_region_held3 (fun w' => w'.cell? ⟨wr.heap.size, 0, none⟩ = some (.slice A0 n0 c0)) (first | go_keep | with_reducible exact sl | with_reducible exact KS4.out.at_ rfl | exact ((KS4.out.far (p := ⟨w.heap.size, 0, none⟩) (by have := HLT.out; show wr.heap.size ≠ w.heap.size; omega) _).far (p := ⟨w.heap.size, 1, none⟩) (by have := HLT.out; show wr.heap.size ≠ w.heap.size; omega) _).at_ rfl)
            (first
              | (go_at_call 47; with_reducible refine (HCL.out _ ?_).mono ?_
                 focus first | with_reducible exact hw | with_reducible exact below_drew hw
                 rintro e w4 ⟨A4, m4, c4, rfl, ho4, hb4⟩
                 have hm4 : m4 = m0 := by have := ho4.len; have := HRL0.out; omega
                 rw [hm4]
                 rw [hm4] at ho4
                 clear hm4
                 have H4 := Lib.hid (show ∃ base, OwnB w4 base A4 m0 c4 r0 ∧ wr.heap.size ≤ base ∧ Below wr.heap.size wr w4 from ⟨_, ho4, by first | exact hw.size | exact (below_drew hw).size, by first | exact below_next hw hb4 hw.size | exact below_next (below_drew hw) hb4 (below_drew hw).size⟩)
                 have k4 := kb.kept (by first | exact below_next hw hb4 hw.size | exact below_next (below_drew hw) hb4 (below_drew hw).size)
                 have KS4 : Hid (Bk w4 wr.heap.size 70 [.slice A0 n0 c0, .int .i64 (m0 : Int)]) := Lib.hid (by first | exact KS.out.kept hb4 | exact bk_keptD KS.out hb4)
                 obtain ⟨t0, t1, t2, t3, t4⟩ := k4.five
                 have v0 := k4.frozen 0
                 have v1 := k4.frozen 1
                 clear ho4 hb4 k4))
          all_goals
            go_wp2_with fail
            obtain ⟨base, ho4, hbase, h4⟩ := H4.out
            have hcn := Lib.hid (cr_0 KB.out HO1.out hbl h4 ho4 hbase (Nat.le_refl _))
            go_roundw
            case rel => exact ⟨1, by omega, by go_num, by first | (have := hcn.out; simpa using this) | (have := hcn.out.drew; simpa using this)⟩
            case measure => simp [intOf]
        · by_cases hx2 : x0 ≤ (n0 : Int) - (a0 : Int)
          · go_wp2_with fail
            go_quiet (fail)
            go_wp2_with fail
            obtain ⟨wA, hwA⟩ : ∃ wA, wA = ((wr.alloc (.cells #[.slice A0 n0 c0, .int .i64 (a0 : Int)] 70)).drewN nq) := ⟨_, rfl⟩
            rw [← hwA]
            have e10 : (a0 : Int) + x0 = (m0 : Int) := by have := HLV0.out; omega
            rw [e10]
            clear e10
            have hw : Below wr.heap.size wr wA := by rw [hwA]; exact below_drewN ((Below.refl _ _).alloc (Nat.le_refl _) _) nq
            have sl : wA.cell? ⟨wr.heap.size, 0, none⟩ = some (.slice A0 n0 c0) := by rw [hwA]; exact (Bk.new wr 70 [.slice A0 n0 c0, .int .i64 (a0 : Int)]).at_ rfl
            have KS := Lib.hid (show Bk wA wr.heap.size 70 [.slice A0 n0 c0, .int .i64 (a0 : Int)] by rw [hwA]; exact Bk.new wr 70 [.slice A0 n0 c0, .int .i64 (a0 : Int)])
            have HCL := Lib.hid (show ∀ W, Below wr.heap.size wr W → Calls Tryd.prog 47 #[.slice A0 m0 c0] W (Fresh1 r0 W) from fun W hW => by
              have ho := own_front ((HH.out.kept hbl).kept hW).r0 HMN0.out
              rw [← HRV0.out] at ho
              have := HMN0.out
              exact clone_any A0 m0 c0 r0 W ho.rd (by omega))
            have z2 : (m0 : Int) ≤ (c0 : Int) := by have := HMN0.out; have := HCAP0.out; omega
            have z3 : (0 : Int) ≤ (m0 : Int) := by omega
            clear hwA
            go_region_held3 (fun w' => w'.cell? ⟨wr.heap.size, 0, none⟩ = some (.slice A0 n0 c0)) (first | go_keep | with_reducible exact sl | with_reducible exact KS4.out.at_ rfl | exact ((KS4.out.far (p := ⟨w.heap.size, 0, none⟩) (by have := HLT.out; show wr.heap.size ≠ w.heap.size; omega) _).far (p := ⟨w.heap.size, 1, none⟩) (by have := HLT.out; show wr.heap.size ≠ w.heap.size; omega) _).at_ rfl)
              (first
                | (go_at_call 47; with_reducible refine (HCL.out _ ?_).mono ?_
                   focus first | with_reducible exact hw | with_reducible exact below_drew hw
                   rintro e w4 ⟨A4, m4, c4, rfl, ho4, hb4⟩
                   have hm4 : m4 = m0 := by have := ho4.len; have := HRL0.out; omega
                   rw [hm4]
                   rw [hm4] at ho4
                   clear hm4
                   have H4 := Lib.hid (show ∃ base, OwnB w4 base A4 m0 c4 r0 ∧ wr.heap.size ≤ base ∧ Below wr.heap.size wr w4 from ⟨_, ho4, by first | exact hw.size | exact (below_drew hw).size, by first | exact below_next hw hb4 hw.size | exact below_next (below_drew hw) hb4 (below_drew hw).size⟩)
                   have k4 := kb.kept (by first | exact below_next hw hb4 hw.size | exact below_next (below_drew hw) hb4 (below_drew hw).size)
                   have KS4 : Hid (Bk w4 wr.heap.size 70 [.slice A0 n0 c0, .int .i64 (a0 : Int)]) := Lib.hid (by first | exact KS.out.kept hb4 | exact bk_keptD KS.out hb4)
                   obtain ⟨t0, t1, t2, t3, t4⟩ := k4.five
                   have v0 := k4.frozen 0
                   have v1 := k4.frozen 1
                   clear ho4 hb4 k4))
            all_goals
              go_wp2_with fail
              obtain ⟨base, ho4, hbase, h4⟩ := H4.out
              have hcn := Lib.hid (cr_0 KB.out HO1.out hbl h4 ho4 hbase (Nat.le_refl _))
              go_roundw
              case rel => exact ⟨1, by omega, by go_num, by first | (have := hcn.out; simpa using this) | (have := hcn.out.drew; simpa using this)⟩
              case measure => simp [intOf]
          · have hx3 : (n0 : Int) - (a0 : Int) < x0 := by omega
            clear hx2
            go_wp2_with fail
            go_quiet (fail)
            go_wp2_with fail
            obtain ⟨wA, hwA⟩ : ∃ wA, wA = ((wr.alloc (.cells #[.slice A0 n0 c0, .int .i64 (a0 : Int)] 70)).drewN nq) := ⟨_, rfl⟩
            rw [← hwA]
            have e10 : (a0 : Int) + ((n0 : Int) - (a0 : Int)) = (m0 : Int) := by have := HLV0.out; omega
            rw [e10]
            clear e10
            have hw : Below wr.heap.size wr wA := by rw [hwA]; exact below_drewN ((Below.refl _ _).alloc (Nat.le_refl _) _) nq
            have sl : wA.cell? ⟨wr.heap.size, 0, none⟩ = some (.slice A0 n0 c0) := by rw [hwA]; exact (Bk.new wr 70 [.slice A0 n0 c0, .int .i64 (a0 : Int)]).at_ rfl
            have KS := Lib.hid (show Bk wA wr.heap.size 70 [.slice A0 n0 c0, .int .i64 (a0 : Int)] by rw [hwA]; exact Bk.new wr 70 [.slice A0 n0 c0, .int .i64 (a0 : Int)])
            have HCL := Lib.hid (show ∀ W, Below wr.heap.size wr W → Calls Tryd.prog 47 #[.slice A0 m0 c0] W (Fresh1 r0 W) from fun W hW => by
              have ho := own_front ((HH.out.kept hbl).kept hW).r0 HMN0.out
              rw [← HRV0.out] at ho
              have := HMN0.out
              exact clone_any A0 m0 c0 r0 W ho.rd (by omega))
            have z2 : (m0 : Int) ≤ (c0 : Int) := by have := HMN0.out; have := HCAP0.out; omega
            have z3 : (0 : Int) ≤ (m0 : Int) := by omega
            clear hwA
            go_region_held3 (fun w' => w'.cell? ⟨wr.heap.size, 0, none⟩ = some (.slice A0 n0 c0)) (first | go_keep | with_reducible exact sl | with_reducible exact KS4.out.at_ rfl | exact ((KS4.out.far (p := ⟨w.heap.size, 0, none⟩) (by have := HLT.out; show wr.heap.size ≠ w.heap.size; omega) _).far (p := ⟨w.heap.size, 1, none⟩) (by have := HLT.out; show wr.heap.size ≠ w.heap.size; omega) _).at_ rfl)
              (first
                | (go_at_call 47; with_reducible refine (HCL.out _ ?_).mono ?_
                   focus first | with_reducible exact hw | with_reducible exact below_drew hw
                   rintro e w4 ⟨A4, m4, c4, rfl, ho4, hb4⟩
                   have hm4 : m4 = m0 := by have := ho4.len; have := HRL0.out; omega
                   rw [hm4]
                   rw [hm4] at ho4
                   clear hm4
                   have H4 := Lib.hid (show ∃ base, OwnB w4 base A4 m0 c4 r0 ∧ wr.heap.size ≤ base ∧ Below wr.heap.size wr w4 from ⟨_, ho4, by first | exact hw.size | exact (below_drew hw).size, by first | exact below_next hw hb4 hw.size | exact below_next (below_drew hw) hb4 (below_drew hw).size⟩)
                   have k4 := kb.kept (by first | exact below_next hw hb4 hw.size | exact below_next (below_drew hw) hb4 (below_drew hw).size)
                   have KS4 : Hid (Bk w4 wr.heap.size 70 [.slice A0 n0 c0, .int .i64 (a0 : Int)]) := Lib.hid (by first | exact KS.out.kept hb4 | exact bk_keptD KS.out hb4)
                   obtain ⟨t0, t1, t2, t3, t4⟩ := k4.five
                   have v0 := k4.frozen 0
                   have v1 := k4.frozen 1
                   clear ho4 hb4 k4))
            all_goals
              go_wp2_with fail
              obtain ⟨base, ho4, hbase, h4⟩ := H4.out
              have hcn := Lib.hid (cr_0 KB.out HO1.out hbl h4 ho4 hbase (Nat.le_refl _))
              go_roundw
              case rel => exact ⟨1, by omega, by go_num, by first | (have := hcn.out; simpa using this) | (have := hcn.out.drew; simpa using this)⟩
              case measure => simp [intOf]
      · have y : ¬ (0 : Int) < (n : Int) := by omega
        have hx0 : x0 = 0 := by
          rw [HX0.out, List.getD, List.getElem?_eq_none (by rw [HKL.out]; omega)]; rfl
        have HXZ := Lib.hid hx0
        clear hn hx0
        go_wp2_with fail
        obtain ⟨wA, hwA⟩ : ∃ wA, wA = (wr.alloc (.cells #[.slice A0 n0 c0, .int .i64 (a0 : Int)] 70)) := ⟨_, rfl⟩
        rw [← hwA]
        obtain rfl : m0 = a0 := by have := HLV0.out; have := HXZ.out; omega
        have hw : Below wr.heap.size wr wA := by rw [hwA]; exact (Below.refl _ _).alloc (Nat.le_refl _) _
        have sl : wA.cell? ⟨wr.heap.size, 0, none⟩ = some (.slice A0 n0 c0) := by rw [hwA]; exact (Bk.new wr 70 [.slice A0 n0 c0, .int .i64 (m0 : Int)]).at_ rfl
        have KS := Lib.hid (show Bk wA wr.heap.size 70 [.slice A0 n0 c0, .int .i64 (m0 : Int)] by rw [hwA]; exact Bk.new wr 70 [.slice A0 n0 c0, .int .i64 (m0 : Int)])
        have HCL := Lib.hid (show ∀ W, Below wr.heap.size wr W → Calls Tryd.prog 47 #[.slice A0 m0 c0] W (Fresh1 r0 W) from fun W hW => by
          have ho := own_front ((HH.out.kept hbl).kept hW).r0 HMN0.out
          rw [← HRV0.out] at ho
          have := HMN0.out
          exact clone_any A0 m0 c0 r0 W ho.rd (by omega))
        have z2 : (m0 : Int) ≤ (c0 : Int) := by have := HMN0.out; have := HCAP0.out; omega
        have z3 : (0 : Int) ≤ (m0 : Int) := by omega
        clear hwA
        go_region_held3 (fun w' => w'.cell? ⟨wr.heap.size, 0, none⟩ = some (.slice A0 n0 c0)) (first | go_keep | with_reducible exact sl | with_reducible exact KS4.out.at_ rfl | exact ((KS4.out.far (p := ⟨w.heap.size, 0, none⟩) (by have := HLT.out; show wr.heap.size ≠ w.heap.size; omega) _).far (p := ⟨w.heap.size, 1, none⟩) (by have := HLT.out; show wr.heap.size ≠ w.heap.size; omega) _).at_ rfl)
          (first
            | (go_at_call 47; with_reducible refine (HCL.out _ ?_).mono ?_
               focus first | with_reducible exact hw | with_reducible exact below_drew hw
               rintro e w4 ⟨A4, m4, c4, rfl, ho4, hb4⟩
               have hm4 : m4 = m0 := by have := ho4.len; have := HRL0.out; omega
               rw [hm4]
               rw [hm4] at ho4
               clear hm4
               have H4 := Lib.hid (show ∃ base, OwnB w4 base A4 m0 c4 r0 ∧ wr.heap.size ≤ base ∧ Below wr.heap.size wr w4 from ⟨_, ho4, by first | exact hw.size | exact (below_drew hw).size, by first | exact below_next hw hb4 hw.size | exact below_next (below_drew hw) hb4 (below_drew hw).size⟩)
               have k4 := kb.kept (by first | exact below_next hw hb4 hw.size | exact below_next (below_drew hw) hb4 (below_drew hw).size)
               have KS4 : Hid (Bk w4 wr.heap.size 70 [.slice A0 n0 c0, .int .i64 (m0 : Int)]) := Lib.hid (by first | exact KS.out.kept hb4 | exact bk_keptD KS.out hb4)
               obtain ⟨t0, t1, t2, t3, t4⟩ := k4.five
               have v0 := k4.frozen 0
               have v1 := k4.frozen 1
               clear ho4 hb4 k4))
        all_goals
          go_wp2_with fail
          obtain ⟨base, ho4, hbase, h4⟩ := H4.out
          have hcn := Lib.hid (cr_0 KB.out HO1.out hbl h4 ho4 hbase (Nat.le_refl _))
          go_roundw
          case rel => exact ⟨1, by omega, by go_num, by first | (have := hcn.out; simpa using this) | (have := hcn.out.drew; simpa using this)⟩
          case measure => simp [intOf]
    · have hcr : CrAt w w.heap.size r0 [] p wr := by simpa using hcr
      obtain ⟨B0, p0, e0, B1, p1, e1, kb, ho0, ho1, hap, hbl⟩ := hcr
      have KB := Lib.hid kb
      have HO0 := Lib.hid ho0
      have HO1 := Lib.hid ho1
      have HLT := Lib.hid kb.lt
      have hix := index_1 (.slice A0 n0 c0) (.int .i64 (a0 : Int)) (.slice A1 n1 c1) (.int .i64 (a1 : Int)) wr
      have wa : IntKind.i64.wrap ((n1 : Int) - (a1 : Int)) = (n1 : Int) - (a1 : Int) := by simp only [IntKind.wrap, IntKind.bits, IntKind.signed]; simp; omega
      clear ho0 ho1 hap
      by_cases hn : 1 < n
      · have y : (1 : Int) < (n : Int) := by omega
        obtain ⟨a, rfl, hal, hc⟩ := (HRD.out.below hbl).at_ hn
        have gx : (keeps.map iv).getD 1 undef = .int .i64 x1 := by
          rw [HX1.out]
          have : 1 < keeps.length := by rw [HKL.out]; exact hn
          simp [iv, List.getD, this]
        rw [gx] at hc
        replace hc : wr.cell? ⟨a.block, a.off + 1, none⟩ = some (.int .i64 x1) := by simpa [Addr.add] using hc
        clear gx hn
        by_cases hx : x1 < 0
        · go_wp2_with fail
          go_quiet (fail)
          go_wp2_with fail
          obtain ⟨wA, hwA⟩ : ∃ wA, wA = ((wr.alloc (.cells #[.slice A1 n1 c1, .int .i64 (a1 : Int)] 70)).drewN nq) := ⟨_, rfl⟩
          rw [← hwA]
          obtain rfl : m1 = a1 := by have := HLV1.out; omega
          have hw : Below wr.heap.size wr wA := by rw [hwA]; exact below_drewN ((Below.refl _ _).alloc (Nat.le_refl _) _) nq
          have sl : wA.cell? ⟨wr.heap.size, 0, none⟩ = some (.slice A1 n1 c1) := by rw [hwA]; exact (Bk.new wr 70 [.slice A1 n1 c1, .int .i64 (m1 : Int)]).at_ rfl
          have KS := Lib.hid (show Bk wA wr.heap.size 70 [.slice A1 n1 c1, .int .i64 (m1 : Int)] by rw [hwA]; exact Bk.new wr 70 [.slice A1 n1 c1, .int .i64 (m1 : Int)])
          have HCL := Lib.hid (show ∀ W, Below wr.heap.size wr W → Calls Tryd.prog 47 #[.slice A1 m1 c1] W (Fresh1 r1 W) from fun W hW => by
            have ho := own_front ((HH.out.kept hbl).kept hW).r1 HMN1.out
            rw [← HRV1.out] at ho
            have := HMN1.out
            exact clone_any A1 m1 c1 r1 W ho.rd (by omega))
          have z2 : (m1 : Int) ≤ (c1 : Int) := by have := HMN1.out; have := HCAP1.out; omega
          have z3 : (0 : Int) ≤ (m1 : Int) := by omega
          clear hwA
          go_region_held3 (fun w' => w'.cell? ⟨wr.heap.size, 0, none⟩ = some (.slice A1 n1 c1)) (first | go_keep | with_reducible exact sl | with_reducible exact KS4.out.at_ rfl | exact ((KS4.out.far (p := ⟨w.heap.size, 2, none⟩) (by have := HLT.out; show wr.heap.size ≠ w.heap.size; omega) _).far (p := ⟨w.heap.size, 3, none⟩) (by have := HLT.out; show wr.heap.size ≠ w.heap.size; omega) _).at_ rfl)
            (first
              | (go_at_call 47; with_reducible refine (HCL.out _ ?_).mono ?_
                 focus first | with_reducible exact hw | with_reducible exact below_drew hw
                 rintro e w4 ⟨A4, m4, c4, rfl, ho4, hb4⟩
                 have hm4 : m4 = m1 := by have := ho4.len; have := HRL1.out; omega
                 rw [hm4]
                 rw [hm4] at ho4
                 clear hm4
                 have H4 := Lib.hid (show ∃ base, OwnB w4 base A4 m1 c4 r1 ∧ wr.heap.size ≤ base ∧ Below wr.heap.size wr w4 from ⟨_, ho4, by first | exact hw.size | exact (below_drew hw).size, by first | exact below_next hw hb4 hw.size | exact below_next (below_drew hw) hb4 (below_drew hw).size⟩)
                 have k4 := kb.kept (by first | exact below_next hw hb4 hw.size | exact below_next (below_drew hw) hb4 (below_drew hw).size)
                 have KS4 : Hid (Bk w4 wr.heap.size 70 [.slice A1 n1 c1, .int .i64 (m1 : Int)]) := Lib.hid (by first | exact KS.out.kept hb4 | exact bk_keptD KS.out hb4)
                 obtain ⟨t0, t1, t2, t3, t4⟩ := k4.five
                 have v0 := k4.frozen 2
                 have v1 := k4.frozen 3
                 clear ho4 hb4 k4))
          all_goals
            go_wp2_with fail
            obtain ⟨base, ho4, hbase, h4⟩ := H4.out
            have hcn := Lib.hid (cr_1 KB.out HO0.out hbl h4 ho4 hbase (Nat.le_refl _))
            go_roundw
            case rel => exact ⟨2, by omega, by go_num, by first | (have := hcn.out; simpa using this) | (have := hcn.out.drew; simpa using this)⟩
            case measure => simp [intOf]
        · by_cases hx2 : x1 ≤ (n1 : Int) - (a1 : Int)
          · go_wp2_with fail
            go_quiet (fail)
            go_wp2_with fail
            obtain ⟨wA, hwA⟩ : ∃ wA, wA = ((wr.alloc (.cells #[.slice A1 n1 c1, .int .i64 (a1 : Int)] 70)).drewN nq) := ⟨_, rfl⟩
            rw [← hwA]
            have e10 : (a1 : Int) + x1 = (m1 : Int) := by have := HLV1.out; omega
            rw [e10]
            clear e10
            have hw : Below wr.heap.size wr wA := by rw [hwA]; exact below_drewN ((Below.refl _ _).alloc (Nat.le_refl _) _) nq
            have sl : wA.cell? ⟨wr.heap.size, 0, none⟩ = some (.slice A1 n1 c1) := by rw [hwA]; exact (Bk.new wr 70 [.slice A1 n1 c1, .int .i64 (a1 : Int)]).at_ rfl
            have KS := Lib.hid (show Bk wA wr.heap.size 70 [.slice A1 n1 c1, .int .i64 (a1 : Int)] by rw [hwA]; exact Bk.new wr 70 [.slice A1 n1 c1, .int .i64 (a1 : Int)])
            have HCL := Lib.hid (show ∀ W, Below wr.heap.size wr W → Calls Tryd.prog 47 #[.slice A1 m1 c1] W (Fresh1 r1 W) from fun W hW => by
              have ho := own_front ((HH.out.kept hbl).kept hW).r1 HMN1.out
              rw [← HRV1.out] at ho
              have := HMN1.out
              exact clone_any A1 m1 c1 r1 W ho.rd (by omega))
            have z2 : (m1 : Int) ≤ (c1 : Int) := by have := HMN1.out; have := HCAP1.out; omega
            have z3 : (0 : Int) ≤ (m1 : Int) := by omega
            clear hwA
            go_region_held3 (fun w' => w'.cell? ⟨wr.heap.size, 0, none⟩ = some (.slice A1 n1 c1)) (first | go_keep | with_reducible exact sl | with_reducible exact KS4.out.at_ rfl | exact ((KS4.out.far (p := ⟨w.heap.size, 2, none⟩) (by have := HLT.out; show wr.heap.size ≠ w.heap.size; omega) _).far (p := ⟨w.heap.size, 3, none⟩) (by have := HLT.out; show wr.heap.size ≠ w.heap.size; omega) _).at_ rfl)
              (first
                | (go_at_call 47; with_reducible refine (HCL.out _ ?_).mono ?_
                   focus first | with_reducible exact hw | with_reducible exact below_drew hw
                   rintro e w4 ⟨A4, m4, c4, rfl, ho4, hb4⟩
                   have hm4 : m4 = m1 := by have := ho4.len; have := HRL1.out; omega
                   rw [hm4]
                   rw [hm4] at ho4
                   clear hm4
                   have H4 := Lib.hid (show ∃ base, OwnB w4 base A4 m1 c4 r1 ∧ wr.heap.size ≤ base ∧ Below wr.heap.size wr w4 from ⟨_, ho4, by first | exact hw.size | exact (below_drew hw).size, by first | exact below_next hw hb4 hw.size | exact below_next (below_drew hw) hb4 (below_drew hw).size⟩)
                   have k4 := kb.kept (by first | exact below_next hw hb4 hw.size | exact below_next (below_drew hw) hb4 (below_drew hw).size)
                   have KS4 : Hid (Bk w4 wr.heap.size 70 [.slice A1 n1 c1, .int .i64 (a1 : Int)]) := Lib.hid (by first | exact KS.out.kept hb4 | exact bk_keptD KS.out hb4)
                   obtain ⟨t0, t1, t2, t3, t4⟩ := k4.five
                   have v0 := k4.frozen 2
                   have v1 := k4.frozen 3
                   clear ho4 hb4 k4))
            all_goals
              go_wp2_with fail
              obtain ⟨base, ho4, hbase, h4⟩ := H4.out
              have hcn := Lib.hid (cr_1 KB.out HO0.out hbl h4 ho4 hbase (Nat.le_refl _))
              go_roundw
              case rel => exact ⟨2, by omega, by go_num, by first | (have := hcn.out; simpa using this) | (have := hcn.out.drew; simpa using this)⟩
              case measure => simp [intOf]
          · have hx3 : (n1 : Int) - (a1 : Int) < x1 := by omega
            clear hx2
            go_wp2_with fail
            go_quiet (fail)
            go_wp2_with fail
            obtain ⟨wA, hwA⟩ : ∃ wA, wA = ((wr.alloc (.cells #[.slice A1 n1 c1, .int .i64 (a1 : Int)] 70)).drewN nq) := ⟨_, rfl⟩
            rw [← hwA]
            have e10 : (a1 : Int) + ((n1 : Int) - (a1 : Int)) = (m1 : Int) := by have := HLV1.out; omega
            rw [e10]
            clear e10
            have hw : Below wr.heap.size wr wA := by rw [hwA]; exact below_drewN ((Below.refl _ _).alloc (Nat.le_refl _) _) nq
            have sl : wA.cell? ⟨wr.heap.size, 0, none⟩ = some (.slice A1 n1 c1) := by rw [hwA]; exact (Bk.new wr 70 [.slice A1 n1 c1, .int .i64 (a1 : Int)]).at_ rfl
            have KS := Lib.hid (show Bk wA wr.heap.size 70 [.slice A1 n1 c1, .int .i64 (a1 : Int)] by rw [hwA]; exact Bk.new wr 70 [.slice A1 n1 c1, .int .i64 (a1 : Int)])
            have HCL := Lib.hid (show ∀ W, Below wr.heap.size wr W → Calls Tryd.prog 47 #[.slice A1 m1 c1] W (Fresh1 r1 W) from fun W hW => by
              have ho := own_front ((HH.out.kept hbl).kept hW).r1 HMN1.out
              rw [← HRV1.out] at ho
              have := HMN1.out
              exact clone_any A1 m1 c1 r1 W ho.rd (by omega))
            have z2 : (m1 : Int) ≤ (c1 : Int) := by have := HMN1.out; have := HCAP1.out; omega
            have z3 : (0 : Int) ≤ (m1 : Int) := by omega
            clear hwA
            go_region_held3 (fun w' => w'.cell? ⟨wr.heap.size, 0, none⟩ = some (.slice A1 n1 c1)) (first | go_keep | with_reducible exact sl | with_reducible exact KS4.out.at_ rfl | exact ((KS4.out.far (p := ⟨w.heap.size, 2, none⟩) (by have := HLT.out; show wr.heap.size ≠ w.heap.size; omega) _).far (p := ⟨w.heap.size, 3, none⟩) (by have := HLT.out; show wr.heap.size ≠ w.heap.size; omega) _).at_ rfl)
              (first
                | (go_at_call 47; with_reducible refine (HCL.out _ ?_).mono ?_
                   focus first | with_reducible exact hw | with_reducible exact below_drew hw
                   rintro e w4 ⟨A4, m4, c4, rfl, ho4, hb4⟩
                   have hm4 : m4 = m1 := by have := ho4.len; have := HRL1.out; omega
                   rw [hm4]
                   rw [hm4] at ho4
                   clear hm4
                   have H4 := Lib.hid (show ∃ base, OwnB w4 base A4 m1 c4 r1 ∧ wr.heap.size ≤ base ∧ Below wr.heap.size wr w4 from ⟨_, ho4, by first | exact hw.size | exact (below_drew hw).size, by first | exact below_next hw hb4 hw.size | exact below_next (below_drew hw) hb4 (below_drew hw).size⟩)
                   have k4 := kb.kept (by first | exact below_next hw hb4 hw.size | exact below_next (below_drew hw) hb4 (below_drew hw).size)
                   have KS4 : Hid (Bk w4 wr.heap.size 70 [.slice A1 n1 c1, .int .i64 (a1 : Int)]) := Lib.hid (by first | exact KS.out.kept hb4 | exact bk_keptD KS.out hb4)
                   obtain ⟨t0, t1, t2, t3, t4⟩ := k4.five
                   have v0 := k4.frozen 2
                   have v1 := k4.frozen 3
                   clear ho4 hb4 k4))
            all_goals
              go_wp2_with fail
              obtain ⟨base, ho4, hbase, h4⟩ := H4.out
              have hcn := Lib.hid (cr_1 KB.out HO0.out hbl h4 ho4 hbase (Nat.le_refl _))
              go_roundw
              case rel => exact ⟨2, by omega, by go_num, by first | (have := hcn.out; simpa using this) | (have := hcn.out.drew; simpa using this)⟩
              case measure => simp [intOf]
      · have y : ¬ (1 : Int) < (n : Int) := by omega
        have hx0 : x1 = 0 := by
          rw [HX1.out, List.getD, List.getElem?_eq_none (by rw [HKL.out]; omega)]; rfl
        have HXZ := Lib.hid hx0
        clear hn hx0
        go_wp2_with fail
        obtain ⟨wA, hwA⟩ : ∃ wA, wA = (wr.alloc (.cells #[.slice A1 n1 c1, .int .i64 (a1 : Int)] 70)) := ⟨_, rfl⟩
        rw [← hwA]
        obtain rfl : m1 = a1 := by have := HLV1.out; have := HXZ.out; omega
        have hw : Below wr.heap.size wr wA := by rw [hwA]; exact (Below.refl _ _).alloc (Nat.le_refl _) _
        have sl : wA.cell? ⟨wr.heap.size, 0, none⟩ = some (.slice A1 n1 c1) := by rw [hwA]; exact (Bk.new wr 70 [.slice A1 n1 c1, .int .i64 (m1 : Int)]).at_ rfl
        have KS := Lib.hid (show Bk wA wr.heap.size 70 [.slice A1 n1 c1, .int .i64 (m1 : Int)] by rw [hwA]; exact Bk.new wr 70 [.slice A1 n1 c1, .int .i64 (m1 : Int)])
        have HCL := Lib.hid (show ∀ W, Below wr.heap.size wr W → Calls Tryd.prog 47 #[.slice A1 m1 c1] W (Fresh1 r1 W) from fun W hW => by
          have ho := own_front ((HH.out.kept hbl).kept hW).r1 HMN1.out
          rw [← HRV1.out] at ho
          have := HMN1.out
          exact clone_any A1 m1 c1 r1 W ho.rd (by omega))
        have z2 : (m1 : Int) ≤ (c1 : Int) := by have := HMN1.out; have := HCAP1.out; omega
        have z3 : (0 : Int) ≤ (m1 : Int) := by omega
        clear hwA
        go_region_held3 (fun w' => w'.cell? ⟨wr.heap.size, 0, none⟩ = some (.slice A1 n1 c1)) (first | go_keep | with_reducible exact sl | with_reducible exact KS4.out.at_ rfl | exact ((KS4.out.far (p := ⟨w.heap.size, 2, none⟩) (by have := HLT.out; show wr.heap.size ≠ w.heap.size; omega) _).far (p := ⟨w.heap.size, 3, none⟩) (by have := HLT.out; show wr.heap.size ≠ w.heap.size; omega) _).at_ rfl)
          (first
            | (go_at_call 47; with_reducible refine (HCL.out _ ?_).mono ?_
               focus first | with_reducible exact hw | with_reducible exact below_drew hw
               rintro e w4 ⟨A4, m4, c4, rfl, ho4, hb4⟩
               have hm4 : m4 = m1 := by have := ho4.len; have := HRL1.out; omega
               rw [hm4]
               rw [hm4] at ho4
               clear hm4
               have H4 := Lib.hid (show ∃ base, OwnB w4 base A4 m1 c4 r1 ∧ wr.heap.size ≤ base ∧ Below wr.heap.size wr w4 from ⟨_, ho4, by first | exact hw.size | exact (below_drew hw).size, by first | exact below_next hw hb4 hw.size | exact below_next (below_drew hw) hb4 (below_drew hw).size⟩)
               have k4 := kb.kept (by first | exact below_next hw hb4 hw.size | exact below_next (below_drew hw) hb4 (below_drew hw).size)
               have KS4 : Hid (Bk w4 wr.heap.size 70 [.slice A1 n1 c1, .int .i64 (m1 : Int)]) := Lib.hid (by first | exact KS.out.kept hb4 | exact bk_keptD KS.out hb4)
               obtain ⟨t0, t1, t2, t3, t4⟩ := k4.five
               have v0 := k4.frozen 2
               have v1 := k4.frozen 3
               clear ho4 hb4 k4))
        all_goals
          go_wp2_with fail
          obtain ⟨base, ho4, hbase, h4⟩ := H4.out
          have hcn := Lib.hid (cr_1 KB.out HO0.out hbl h4 ho4 hbase (Nat.le_refl _))
          go_roundw
          case rel => exact ⟨2, by omega, by go_num, by first | (have := hcn.out; simpa using this) | (have := hcn.out.drew; simpa using this)⟩
          case measure => simp [intOf]
    · have hcr : CrAt w w.heap.size r0 r1 p wr := by simpa using hcr
      have HCR := Lib.hid hcr
      clear hcr
      go_wp2_with fail
      go_ret
      obtain ⟨B0, p0, e0, B1, p1, e1, kb, ho0, ho1, hap, hbl⟩ := HCR.out
      exact ⟨w.heap.size, fun i => w.heap.size ≤ i ∧ i < wr.heap.size, rfl, ⟨B0, p0, e0, B1, p1, e1, kb, own_zero ho0, own_zero ho1, ⟨Nat.le_refl _, kb.lt⟩, fun b e => World.ownsRow.lt ho0 b e, fun b e => World.ownsRow.lt ho1 b e, hap, fun i hi => hi.2, ⟨Int.natCast_nonneg _, Int.le_refl _, Int.natCast_nonneg _, Int.le_refl _⟩, HP.out⟩, fun i hi => hi.1, hbl⟩
end Go.Proofs.YtmiejaohkgemnaaDoor
