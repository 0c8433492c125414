/-
  Watches: all of a table. A walk; no statement.
-/
import Derived.Test.YtbppokdaehaocaaDoorWatchAdd
namespace Go.Proofs.YtbppokdaehaocaaDoor
set_option maxRecDepth 100000
open Go.RowKit
set_option linter.unusedVariables false

theorem FreshW.below {l : List Wt} {w : World} {e : Ending} {w' : World} (h : FreshW l w e w') : Below w.heap.size w w' := h.choose_spec.choose_spec.2.2
set_option maxHeartbeats 3200000 in
theorem allW_any (F : Nat → Prop) (g : Nat) (t : List Wt) (w : World) (hT : TbAt F w g t) (hn : t.length ≤ 1000) (h64 : ∀ x ∈ t, x.path.length ≤ 64) :
    Calls Tryd.prog 23 #[.pointer (some ⟨g, 0, none⟩)] w (FreshW t w) := by
  obtain ⟨A, n, c, hq, hFg, ho, hrow⟩ := hT
  have hl := ho.len
  have q0 := hq.at_ (i := 0) rfl
  have HO := Lib.hid ho
  have HL := Lib.hid hl
  have hn1 : n ≤ 1000 := by omega
  have H64 := Lib.hid h64
  clear ho hl hq hFg hrow hn h64
  go_enter Tryd.func23, Tryd.ntmps23
  go_wp2_with fail
  go_loopw [3, 11] (fun s i wr => ∃ (A1 : Option Addr) (c1 k : Nat), k ≤ n ∧ s = .slice A1 k c1 ∧ i = .int .i64 k ∧ OwnW wr w.heap.size A1 k c1 (t.take k) ∧ Below w.heap.size w wr) (fun _ i _ => n - (intOf i).toNat)
  case atStart => exact ⟨none, 0, 0, by omega, rfl, rfl, OwnW.nil_ _ _, Below.refl _ _⟩
  case round =>
    obtain ⟨A1, c1, k, hk, rfl, rfl, ho1, hb⟩ := hrel
    by_cases hlt : k < n
    · have hkx : k < t.length := by have := HL.out; omega
      have hx : t[k]? = some t[k] := List.getElem?_eq_getElem hkx
      have hp64 := H64.out t[k] (List.getElem_mem hkx)
      have HTK := Lib.hid (take_snoc t k hkx)
      obtain ⟨g', rfl, hg', d0, d1, d2⟩ := (HO.out.below hb).at_ hx
      generalize t[k] = x at *
      have HB := Lib.hid hb
      have HO1 := Lib.hid ho1
      have HBA := Lib.hid ((Below.refl wr.heap.size wr).alloc (Nat.le_refl _) (.cells #[.int .i64 x.client, .int .i64 x.kind, .string ⟨x.path.toArray⟩] 31))
      have HC := Lib.hid (fun W => show Calls Tryd.prog 33 #[.agg #[.int .i64 x.client, .int .i64 x.kind, .string ⟨x.path.toArray⟩]] W (Ans (.agg #[.int .i64 x.client, .int .i64 x.kind, .string ⟨x.path.toArray⟩]) W) from copiedW_any x W hp64)
      have HLT := Lib.hid hlt
      have hm1 : k ≤ 1000 := by omega
      have y1 : (0 : Int) ≤ (k : Int) := by omega
      have y2 : (k : Int) < (n : Int) := by omega
      have hsz := hb.size
      clear hb ho1 hx hkx hlt hp64
      go_wp2_with (first
        | (go_at_call 33; refine (HC.out _).mono ?_; rintro e w2 ⟨rfl, hb2⟩; have HB2 := Lib.hid (HBA.out.trans (hb2.mono HBA.out.size)); have hz2 := HB2.out.size; clear hb2)
        | (at_builtin; refine wpList_app_wt rfl _ _ rfl w.heap.size A1 k c1 _ rfl ((HO1.out.below HB2.out).alloc _) ⟨w2.heap.size, 0, none⟩ x rfl (news_wt w2 x) (by omega) (by simp; omega) ?_; intro A4 c4 w4 HO4 HG4 HR4))
      go_roundw
      case rel => exact ⟨A4, c4, k + 1, HLT.out, rfl, by go_num, by rw [HTK.out]; exact HO4.out, ((HB.out.trans (HB2.out.mono HB.out.size)).alloc (Nat.le_trans HB.out.size HB2.out.size) _).grown HG4.out (by simp; omega) (fun b e => HO1.out.block b e)⟩
      case measure => have := HLT.out; simp [intOf]; omega
    · have HE := Lib.hid (show t.take k = t from List.take_of_length_le (by have := HL.out; omega))
      have hkn : k = n := by omega
      have HKN := Lib.hid (show t.length = k by have := HL.out; omega)
      have HB := Lib.hid hb
      have HO1 := Lib.hid ho1
      clear ho1 hb hkn
      go_wp2_with fail
      go_ret
      have ho := HO1.out
      rw [HE.out] at ho
      rw [← HKN.out] at ho ⊢
      exact ⟨A1, c1, rfl, ho, HB.out⟩
end Go.Proofs.YtbppokdaehaocaaDoor
