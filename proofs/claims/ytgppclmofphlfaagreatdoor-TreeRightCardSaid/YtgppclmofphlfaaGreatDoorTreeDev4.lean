/-
  A tree's paths; a node copied out. Walks; no statement.
-/
import Derived.Test.YtgppclmofphlfaaGreatDoorTreeDev3
import Derived.Test.YtgppclmofphlfaaGreatDoorIter
import Derived.Shelf.Abstract
import Derived.TacticsInMore
import Derived.OwnWalkIn
namespace Go.Proofs.YtgppclmofphlfaaGreatDoor
set_option maxRecDepth 100000
open Go.RowKit Go.Maps Go.Sort Go.Shelf
set_option linter.unusedVariables false

theorem sorts_any (m : Nat) : AnyZ.SortsIn Tryz.prog Tryz.sortedLay_ren Fence.wide m :=
  ⟨fun blk off cap ss W hH hblk hsz => callsIn_wide.2 (AnyM.slices_Sort_string Tryz.sortLay blk off cap ss W hH hblk hsz),
   fun p cap W => callsIn_wide.2 (AnyM.slices_Sort_string_none Tryz.sortLay p cap W)⟩
theorem keys_any (mb : Option Nat) (W : World) : Calls Tryz.prog 73 #[.map mb] W fun e w' => e = .returned (.func (.func 88) #[] #[.pointer (some ⟨W.heap.size, 0, none⟩)]) ∧ w' = W.alloc (.cells #[.map mb] 74) :=
  callsIn_wide.1 (AnyZ.keys_in Tryz.keysLay Fence.wide 5 trivial rfl mb W)
set_option maxHeartbeats 1000000 in
theorem sorted_keys {H : Type} (b nn : Nat) (D0 : DataW H) (R : Value → Option (DataW H × List MemPlace)) (w : World) (hown : w.ownsMap Tryz.prog 9 R b nn D0) (hmax : Maps.size D0 ≤ maxLen) (hbytes : Maps.size D0 * 16 ≤ 140737488355328) :
    Calls Tryz.prog 72 #[.func (.func 88) #[] #[.pointer (some ⟨w.heap.size, 0, none⟩)]] (w.alloc (.cells #[.map (some b)] 74)) fun e w' => ∃ (v : Value) (ss : List (List UInt8)), e = .returned v ∧ ss.Perm (strKeys D0) ∧
      w'.ownsRow (w.alloc (.cells #[.map (some b)] 74)).heap.size 9 1 v ss.length ((ss.mergeSort (fun x y => decide (x ≤ y))).map encStr) ∧ (v = .slice none 0 0 ↔ ss = []) ∧ Below (w.alloc (.cells #[.map (some b)] 74)).heap.size (w.alloc (.cells #[.map (some b)] 74)) w' := by
  refine (callsIn_wide (n := 5)).1 ?_
  have hbl := hown.lt
  have hseq : SeqGives Fence.wide 2 Tryz.prog 88 #[.pointer (some ⟨w.heap.size, 0, none⟩)] encStr (fun ss => ss.Perm (strKeys D0)) (Maps.size D0) (w.alloc (.cells #[.map (some b)] 74)) :=
    AnyZ.keys_gives (ρ := Tryz.keysLay_ren) { Tryz.keysLay with } Fence.wide _ trivial rfl (by omega) w.heap.size b nn D0 _ (by simp) (by simp) (by
      obtain ⟨es, clock, hb, Ft, hs, hD⟩ := hown
      exact ⟨es, clock, (Below.heap_alloc _ _ b hbl).trans hb, Ft, hs, hD⟩)
  exact AnyZ.sorted_in Tryz.sortedLay Fence.wide 5 trivial trivial trivial trivial rfl (by omega) (sorts_any _) (enters_of Tryz.func87 (by kernel_rfl) rfl) 88 #[.pointer (some ⟨w.heap.size, 0, none⟩)] trivial (enters_of Tryz.func88 (by kernel_rfl) rfl) _ _ hmax hbytes _ hseq
/-- the paths of all nodes -/
def PathsP (t : List Lf) (w : World) (e : Ending) (w' : World) : Prop :=
  ∃ A c, e = .returned (.slice A t.length c) ∧ OwnT w' w.heap.size A t.length c (t.map (·.path)) ∧ Below w.heap.size w w'
set_option maxHeartbeats 1600000 in
theorem paths_any (g : Nat) (t : List Lf) (F : Nat → Prop) (w : World) (hT : TreeAt F w g t) (hn : t.length ≤ 1000) :
    Calls Tryz.prog 54 #[.pointer (some ⟨g, 0, none⟩)] w (PathsP t w) := by
  have hs := hT.srt
  obtain ⟨b, hkg, hFg, hFb, es, h1, h2, h3⟩ := hT
  have hsz : Maps.size (DataW.map (ent es)) = t.length := by rw [← h1]; simp [Maps.size, ent]
  have hsk : strKeys (DataW.map (ent es)) = t.map (·.path) := by
    show (ent es).map (fun p => strOf p.1) = _
    unfold ent
    rw [List.map_map, ← h1, List.map_map]
    rfl
  have HS := Lib.hid (sorted_keys b t.length _ asIs w h2 (by rw [hsz]; simp only [maxLen]; omega) (by rw [hsz]; omega))
  have HK := Lib.hid (keys_any (some b) w)
  have HE := Lib.hid hsk
  have HSR := Lib.hid hs
  have g0 : w.cell? ⟨g, 0, none⟩ = some (.map (some b)) := hkg.at_ rfl
  clear hs hkg hFg hFb h1 h2 h3 hsz hsk
  go_enter Tryz.func54, Tryz.ntmps54
  go_wp2_with fail
  refine HK.out.mono ?_
  rintro e w1 ⟨rfl, rfl⟩
  go_wp2_with fail
  refine HS.out.mono ?_
  rintro e w2 ⟨v, ss, rfl, hp, ho, hnil, hb2⟩
  have HX := Lib.hid (((Below.refl w.heap.size w).alloc (Nat.le_refl _) (.cells #[.map (some b)] 74)).trans (hb2.mono (by simp)))
  have hp2 := hp
  rw [HE.out] at hp2
  have hms := sorted_paths HSR.out hp2
  have hln : ss.length = t.length := by rw [hp2.length_eq, List.length_map]
  rw [hms, hln] at ho
  have HO := Lib.hid ho
  clear hp hp2 hms ho hnil hb2
  go_wp2_with fail
  go_ret
  have ho : w2.ownsRow (w.heap.size + 1) 9 1 v t.length ((t.map (·.path)).map sv) := by have := HO.out; rw [show (w.alloc (.cells #[.map (some b)] 74)).heap.size = w.heap.size + 1 by simp] at this; exact this
  have hform : ∃ A c, v = .slice A t.length c := by
    rcases ho.2 with ⟨e1, e2⟩ | ⟨g', cap, cur, e1, _⟩
    · exact ⟨none, 0, by rw [e1, e2]⟩
    · exact ⟨_, _, e1⟩
  obtain ⟨A, c, rfl⟩ := hform
  exact ⟨A, c, rfl, (show OwnT w2 (w.heap.size + 1) A t.length c _ from ho).more (by omega), HX.out⟩
end Go.Proofs.YtgppclmofphlfaaGreatDoor
