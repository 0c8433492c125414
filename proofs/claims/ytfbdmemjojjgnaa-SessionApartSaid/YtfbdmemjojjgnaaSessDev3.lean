/-
  A book's clients; all sessions told. Walks; no statement.
-/
import Derived.Test.YtfbdmemjojjgnaaSessDev2
import Derived.Test.YtfbdmemjojjgnaaIter
import Derived.Test.YtfbdmemjojjgnaaMRows
import Derived.Shelf.Abstract
import Derived.TacticsInMore
import Derived.OwnWalkIn
namespace Go.Proofs.Ytfbdmemjojjgnaa
set_option maxRecDepth 100000
open Go.RowKit Go.Maps Go.Sort Go.Shelf
set_option linter.unusedVariables false
set_option maxRecDepth 100000

theorem sortsE_any (m : Nat) : AnyZI.SortsIn Try.prog Try.sortedLay_ren Fence.wide m :=
  ⟨fun blk off cap ss W hH hblk hsz => callsIn_wide.2 (AnyM.slices_Sort_int Try.sortLay blk off cap ss W hH hblk hsz),
   fun p cap W => callsIn_wide.2 (AnyM.slices_Sort_int_none Try.sortLay p cap W)⟩
theorem keysE_any (mb : Option Nat) (W : World) : Calls Try.prog 38 #[.map mb] W fun e w' => e = .returned (.func (.func 41) #[] #[.pointer (some ⟨W.heap.size, 0, none⟩)]) ∧ w' = W.alloc (.cells #[.map mb] 59) :=
  callsIn_wide.1 (AnyZI.keys_in Try.keysLay Fence.wide 5 trivial rfl mb W)
set_option maxHeartbeats 1000000 in
theorem sortedE_keys {H : Type} (b nn : Nat) (D0 : DataW H) (R : Value → Option (DataW H × List MemPlace)) (w : World) (hown : w.ownsMap Try.prog 3 R b nn D0) (hmax : Maps.size D0 ≤ maxLen) (hbytes : Maps.size D0 * 8 ≤ 140737488355328) :
    Calls Try.prog 37 #[.func (.func 41) #[] #[.pointer (some ⟨w.heap.size, 0, none⟩)]] (w.alloc (.cells #[.map (some b)] 59)) fun e w' => ∃ (v : Value) (ss : List Int), e = .returned v ∧ ss.Perm (intKeys D0) ∧
      w'.ownsRow (w.alloc (.cells #[.map (some b)] 59)).heap.size 3 1 v ss.length ((ss.mergeSort (fun x y => decide (x ≤ y))).map encZ) ∧ (v = .slice none 0 0 ↔ ss = []) ∧ Below (w.alloc (.cells #[.map (some b)] 59)).heap.size (w.alloc (.cells #[.map (some b)] 59)) w' := by
  refine (callsIn_wide (n := 5)).1 ?_
  have hbl := hown.lt
  have hseq : SeqGives Fence.wide 2 Try.prog 41 #[.pointer (some ⟨w.heap.size, 0, none⟩)] encZ (fun ss => ss.Perm (intKeys D0)) (Maps.size D0) (w.alloc (.cells #[.map (some b)] 59)) :=
    AnyZI.keys_gives (ρ := Try.keysLay_ren) { Try.keysLay with } Fence.wide _ trivial rfl (by omega) w.heap.size b nn D0 _ (by simp) (by simp) (by
      obtain ⟨es, clock, hb, Ft, hs, hD⟩ := hown
      exact ⟨es, clock, (Below.heap_alloc _ _ b hbl).trans hb, Ft, hs, hD⟩)
  exact AnyZI.sorted_in Try.sortedLay Fence.wide 5 trivial trivial trivial trivial rfl (by omega) (sortsE_any _) (enters_of Try.func40 (by kernel_rfl) rfl) 41 #[.pointer (some ⟨w.heap.size, 0, none⟩)] trivial (enters_of Try.func41 (by kernel_rfl) rfl) _ _ hmax hbytes _ hseq
/-- sorted, a row that is a permutation of rising clients is these -/
theorem sorted_clients {t : List Se} (h : t.Pairwise seLt) {ss : List Int} (hp : ss.Perm (t.map (·.client))) : ss.mergeSort (fun x y => decide (x ≤ y)) = t.map (·.client) := by
  rw [show ss.mergeSort (fun x y => decide (x ≤ y)) = (t.map (·.client)).mergeSort (fun x y => decide (x ≤ y)) from mergeSort_of_perm_i hp]
  refine List.mergeSort_of_pairwise ?_
  rw [List.pairwise_map]
  refine h.imp fun {a b} hab => ?_
  have : a.client < b.client := hab
  rw [decide_eq_true_iff]
  omega
/-- the clients of all sessions -/
def ClientsP (t : List Se) (w : World) (e : Ending) (w' : World) : Prop :=
  ∃ A c, e = .returned (.slice A t.length c) ∧ OwnI w' w.heap.size A t.length c (t.map (·.client)) ∧ Below w.heap.size w w'
set_option maxHeartbeats 1600000 in
theorem clientsE_any (g : Nat) (t : List Se) (F : Nat → Prop) (w : World) (hT : SeAt F w g t) (hk : SOk t) :
    Calls Try.prog 34 #[.pointer (some ⟨g, 0, none⟩)] w (ClientsP t w) := by
  have hs := hk.1
  have hn := hk.len
  obtain ⟨b, hkg, hFg, hFb, h2⟩ := hT
  have hsz : Maps.size (DataW.map (entE t)) = t.length := by simp [Maps.size, entE]
  have hsk : intKeys (DataW.map (entE t)) = t.map (·.client) := by
    show (entE t).map (fun p => Go.intOf p.1) = _
    unfold entE
    rw [List.map_map]
    rfl
  have HS := Lib.hid (sortedE_keys b t.length _ asIsE w h2 (by rw [hsz]; simp only [maxLen]; omega) (by rw [hsz]; omega))
  have HK := Lib.hid (keysE_any (some b) w)
  have HE := Lib.hid hsk
  have HSR := Lib.hid hs
  have g0 : w.cell? ⟨g, 0, none⟩ = some (.map (some b)) := hkg.at_ rfl
  clear hs hkg hFg hFb h2 hsz hsk hk hn
  go_enter Try.func34, Try.ntmps34
  go_wp2_with fail
  refine HK.out.mono ?_
  rintro e w1 ⟨rfl, rfl⟩
  go_wp2_with fail
  refine HS.out.mono ?_
  rintro e w2 ⟨v, ss, rfl, hp, ho, hnil, hb2⟩
  have HX := Lib.hid (((Below.refl w.heap.size w).alloc (Nat.le_refl _) (.cells #[.map (some b)] 59)).trans (hb2.mono (by simp)))
  have hp2 := hp
  rw [HE.out] at hp2
  have hms := sorted_clients HSR.out hp2
  have hln : ss.length = t.length := by rw [hp2.length_eq, List.length_map]
  rw [hms, hln] at ho
  have HO := Lib.hid ho
  clear hp hp2 hms ho hnil hb2
  go_wp2_with fail
  go_ret
  have ho : w2.ownsRow (w.heap.size + 1) 3 1 v t.length ((t.map (·.client)).map encZ) := by have := HO.out; rw [show (w.alloc (.cells #[.map (some b)] 59)).heap.size = w.heap.size + 1 by simp] at this; exact this
  have hform : ∃ A c, v = .slice A t.length c := by
    rcases ho.2 with ⟨e1, e2⟩ | ⟨g', cap, cur, e1, _⟩
    · exact ⟨none, 0, by rw [e1, e2]⟩
    · exact ⟨_, _, e1⟩
  obtain ⟨A, c, rfl⟩ := hform
  refine ⟨A, c, rfl, ?_, HX.out⟩
  have ho2 : OwnI w2 (w.heap.size + 1) A t.length c (t.map (·.client)) := ho
  refine ⟨ho2.1, ?_⟩
  rcases ho2.2 with q | ⟨g', cap, cur, e1, hg, rest⟩
  · exact .inl q
  · exact .inr ⟨g', cap, cur, e1, by omega, rest⟩
theorem se_take_next {t : List Se} {k : Nat} {x : Se} (h : t[k]? = some x) : t.take (k + 1) = t.take k ++ [x] := by
  obtain ⟨hh, rfl⟩ := List.getElem?_eq_some_iff.1 h
  exact List.take_succ_eq_append_getElem hh
set_option maxHeartbeats 3200000 in
theorem allE_any (F : Nat → Prop) (g : Nat) (t : List Se) (w : World) (hT : SeAt F w g t) (hk : SOk t) :
    Calls Try.prog 24 #[.pointer (some ⟨g, 0, none⟩)] w (FreshE t w) := by
  have HCL := Lib.hid (clientsE_any g t F w hT hk)
  have HT := Lib.hid hT
  have HKK := Lib.hid hk
  have hn := hk.len
  obtain ⟨n, hnn⟩ : ∃ n, n = t.length := ⟨_, rfl⟩
  have HNX := Lib.hid hnn
  have hn8 : n ≤ 8 := by omega
  clear hT hk hn
  go_enter Try.func24, Try.ntmps24
  go_wp2_with fail
  refine HCL.out.mono ?_
  rintro e w2 ⟨PA, pc, rfl, hop, hb2⟩
  rw [← hnn] at hop ⊢
  have HRP := Lib.hid hop
  have HB2 := Lib.hid hb2
  clear hop hb2 hnn
  go_wp2_with fail
  go_loopw [3, 9] (fun s i wr => ∃ (A' : Option Addr) (k c' : Nat), k ≤ n ∧ s = .slice A' k c' ∧ i = .int .i64 k ∧ OwnE wr w.heap.size A' k c' (t.take k) ∧ Below w.heap.size w wr ∧ OwnI wr w.heap.size PA n pc (t.map (·.client)) ∧ (∀ b, (Value.slice A' k c').ownBlock = some b → (Value.slice PA n pc).ownBlock ≠ some b)) (fun _ i _ => n - (intOf i).toNat)
  case atStart => exact ⟨none, 0, 0, Nat.zero_le _, rfl, rfl, OwnE.nil_ _ _, HB2.out, HRP.out, fun _ h => nomatch h⟩
  case round =>
    obtain ⟨A', k, c', hk, rfl, rfl, ho, hb, hrd, hap⟩ := hrel
    by_cases hlt : k < n
    · have hkx : k < t.length := by have := HNX.out; omega
      have hx : t[k]? = some t[k] := List.getElem?_eq_getElem hkx
      have HTK := Lib.hid (se_take_next hx)
      have hmem : t[k] ∈ t := List.getElem_mem hkx
      obtain ⟨b, hkg, hFg, hFb, hm⟩ := HT.out.below hb
      have hlk : (Instr.lookup 59 (.map (some b)) (.int .i64 t[k].client) false).run Try.prog wr = .ok (.agg #[.int .i64 t[k].client, .int .i64 t[k].span, .int .i64 t[k].seen]) wr := hm.look_yes HKK.out.1 false hmem (seRight_wf (HKK.out.2 _ hmem))
      obtain ⟨a, hPA, hab, hac⟩ := hrd.rd.at_ hlt
      subst hPA
      have hac2 : wr.cell? (a.add k) = some (.int .i64 t[k].client) := by rw [hac]; simp [List.getD, hkx, iv]
      generalize t[k] = x at *
      have g0 : wr.cell? ⟨g, 0, none⟩ = some (.map (some b)) := hkg.at_ rfl
      have HO := Lib.hid ho
      have HB := Lib.hid hb
      have HRD := Lib.hid hrd
      have HAP := Lib.hid hap
      have HLT := Lib.hid hlt
      have hsw : w.heap.size ≤ wr.heap.size := hb.size
      have y1 : (0 : Int) ≤ (k : Int) := by omega
      have y2 : (k : Int) < (n : Int) := by omega
      clear hkg hFg hFb hm hab hac hrd hmem ho hb hx hkx hap hlt
      go_wp2_with (first
        | (at_builtin; refine wpList_app_se rfl _ _ rfl w.heap.size A' k c' _ rfl (HO.out.alloc _) ⟨wr.heap.size, 0, none⟩ x rfl (news_se wr x) (by omega) (by simp; omega) ?_; intro A4 c4 w4 HO4 HG4 HR4))
      go_roundw
      case rel =>
        refine ⟨A4, k + 1, c4, HLT.out, rfl, by go_num, by rw [HTK.out]; exact HO4.out, (HB.out.alloc HB.out.size _).grown HG4.out (by simp; omega) (fun j hj => HO.out.block j hj), World.ownsRow.kept (HRD.out.below ((Below.refl wr.heap.size wr).alloc (Nat.le_refl _) _)) HG4.out ?_, fun b hb e => ?_⟩
        · cases hq : (Value.slice (some a) n pc).ownBlock with
          | none => exact .inl rfl
          | some b => exact .inr fun e => HAP.out b e.symm hq
        · rcases HR4.out with q | q
          · exact HAP.out b (by rw [← q]; exact hb) e
          · rw [q] at hb
            injection hb with hb
            have := (World.ownsRow.lt HRD.out b e).2
            rw [World.size_alloc] at hb
            omega
      case measure => have := HLT.out; simp [intOf]; omega
    · obtain rfl : k = n := by omega
      have HO := Lib.hid ho
      have HB := Lib.hid hb
      clear ho hb hrd hap
      go_wp2_with fail
      go_ret
      have ho := HO.out
      have hnx := HNX.out
      rw [List.take_of_length_le (by omega)] at ho
      subst hnx
      exact ⟨A', c', rfl, ho, HB.out⟩
end Go.Proofs.Ytfbdmemjojjgnaa
