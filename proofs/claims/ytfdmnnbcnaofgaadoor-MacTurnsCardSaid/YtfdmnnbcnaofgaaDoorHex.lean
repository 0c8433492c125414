import Derived.Test.YtfdmnnbcnaofgaaDoorOwn
import Derived.Test.YtfdmnnbcnaofgaaDoorShaMem
import Derived.Lib.Builder
namespace Go.Proofs.YtfdmnnbcnaofgaaDoor
open Go.RowKit
set_option linter.unusedVariables false

/-- the builder at block b has been written to, and holds the bytes l -/
def Bld (w : World) (B b : Nat) (l : List UInt8) : Prop := Lib.BuilderAt 63 5 B b (.pointer (some ⟨b, 0, none⟩)) (l.map bv) w

theorem copyCheck_any (b : Nat) (w : World) (h0 : w.cell? ⟨b, 0, none⟩ = some (.pointer (some ⟨b, 0, none⟩))) :
    Calls Tryd.prog 59 #[.pointer (some ⟨b, 0, none⟩)] w (fun e w' => e = .returned (.tuple #[]) ∧ w = w') := by
  obtain ⟨j, hj, _⟩ := Option.map_eq_some_iff.1 (show (Tryd.prog.info? 63).map (·.size) = some 2 by kernel_rfl)
  go_enter Tryd.func59, Tryd.ntmps59
  go_wp2_with fail
  rw [Lib.run_neq_ptr_same w _ Tryd.underlying61 hj]
  go_wp2_with fail
  refine bodyPost_end (results_none rfl _ _ _) rfl ?_
  exact ⟨rfl, rfl⟩

def Wrote1 (B b : Nat) (l : List UInt8) (w : World) (e : Ending) (w' : World) : Prop := (∃ v, e = .returned v) ∧ Bld w' B b l ∧ Below B w w'

set_option maxRecDepth 100000 in
theorem writeByte_any (B b : Nat) (l : List UInt8) (c : UInt8) (w : World) (h : Bld w B b l) (hB : B ≤ w.heap.size) (hl : l.length ≤ 1099511627776) :
    Calls Tryd.prog 47 #[.pointer (some ⟨b, 0, none⟩), .int .u8 (c.toNat : Int)] w (Wrote1 B b (l ++ [c]) w) := by
  obtain ⟨i0, hi, hz0, hz1, hz2⟩ := info_parts info_u8
  obtain ⟨hBb, v, hbk, hown, hne⟩ := h
  have hlen : (l.map bv).length = l.length := List.length_map ..
  obtain ⟨A, c0, rfl⟩ : ∃ A c0, v = .slice A l.length c0 := by
    rcases hown.2 with ⟨e1, e2⟩ | ⟨g, cap, cur, e1, _⟩
    · exact ⟨none, 0, by rw [e1]; congr 1; simpa using e2.symm⟩
    · exact ⟨_, _, by rw [e1, hlen]⟩
  rw [hlen] at hown
  have c1 : w.cell? ⟨b, 0, none⟩ = some (.pointer (some ⟨b, 0, none⟩)) := by simp [World.cell?, hbk]
  have c2 : w.cell? ⟨b, 1, none⟩ = some (.slice A l.length c0) := by simp [World.cell?, hbk]
  have HO := Lib.hid hown
  have HNE := Lib.hid hne
  have HBK := Lib.hid hbk
  have HC := Lib.hid (copyCheck_any b w c1)
  clear hown hne hbk hlen
  go_enter Tryd.func47, Tryd.ntmps47
  go_wp2_with fail
  refine HC.out.mono ?_
  rintro e w1 ⟨rfl, rfl⟩
  go_wp2_with (at_builtin
               refine wpList_append_rd _ rfl (.tmp 11) (.tmp 13) 22 rfl B 5 i0 _ 1 Tryd.underlying22 hi hz0 hz1 hz2 rfl A l.length c0 (l.map bv) rfl (World.ownsRow.alloc HO.out _) (some ⟨w.heap.size, 0, none⟩) 1 1 [.int .u8 (c.toNat : Int)] rfl
                 (Rd.new w _ 5) (by simp [Value.oneCell']) (by simp only [maxLen]; omega) (by omega) (by simp; omega) ?_
               intro A2 c3 w2 hown2 hg2 hrow2
               have hlt : b < w.heap.size := (Array.getElem?_eq_some_iff.1 HBK.out).1
               have hbk2 : w2.heap[b]? = some (.cells #[.pointer (some ⟨b, 0, none⟩), .slice A l.length c0] 63 (0, 0)) := by
                 rw [hg2.block b (by simp; omega) (fun e => HNE.out e.symm), heap_alloc_old w _ hlt]; exact HBK.out
               have d2 : w2.cell? ⟨b, 1, none⟩ = some (.slice A l.length c0) := by simp [World.cell?, hbk2]
               have f2 : w2.frozen? ⟨b, 1, none⟩ = false := frozen_of_row w2 b 1 _ _ hbk2
               have HO2 := Lib.hid hown2
               have HG2 := Lib.hid hg2
               have HR2 := Lib.hid hrow2
               have HBK2 := Lib.hid hbk2
               clear hown2 hg2 hrow2 hbk2)
  have hlt : b < w.heap.size := (Array.getElem?_eq_some_iff.1 HBK.out).1
  have hne2 : (Value.slice A2 (l.length + 1) c3).ownBlock ≠ some b := by
    rcases HR2.out with e | e
    · rw [e]; exact HNE.out
    · rw [e]; intro q; injection q with q; simp at q; omega
  have hbw : Below B w w2 := ((Below.refl B w).alloc hB _).grown HG2.out (by simp; omega) (fun g e => (World.ownsRow.lt HO.out g e).1)
  refine bodyPost_ret (results_tmp rfl _ _ _) rfl ?_
  refine ⟨⟨_, rfl⟩, ⟨hBb, .slice A2 (l.length + 1) c3, ?_, ?_, hne2⟩, below_set hbw hBb 1 _⟩
  · have e := heap_setCell_same w2 b 1 _ _ (.slice A2 (l.length + 1) c3) HBK2.out
    rw [e]; rfl
  · have e : (l ++ [c]).map bv = l.map bv ++ [.int .u8 (c.toNat : Int)] := by rw [List.map_append]; rfl
    have e2 : ((l ++ [c]).map bv).length = l.length + 1 := by simp
    rw [e2, e]
    exact World.ownsRow.kept HO2.out (grown_set (grown_refl w2 (some b)) 1 _) (.inr hne2)
end Go.Proofs.YtfdmnnbcnaofgaaDoor
