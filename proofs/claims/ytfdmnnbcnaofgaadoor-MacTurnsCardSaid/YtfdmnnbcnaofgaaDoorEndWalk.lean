import Derived.Test.YtfdmnnbcnaofgaaDoorEnd
namespace Go.Proofs.YtfdmnnbcnaofgaaDoor
open Go.RowKit
open Sh

/-- new memory that holds the bytes l; of what was there only block g may have turned -/
def Ended (g : Nat) (l : List UInt8) (w : World) (e : Ending) (w' : World) : Prop :=
  ∃ g', e = .returned (.slice (some ⟨g', 0, none⟩) 32 32) ∧ w.heap.size ≤ g' ∧ Bk w' g' 5 (l.map bv) ∧ w.grownBy w' (some g)

theorem zero_u8 (w : World) : (zeroValue 5).run Tryd.prog w = .ok (.int .u8 0) w := by kernel_rfl

set_option maxHeartbeats 2000000 in
set_option maxRecDepth 100000 in
theorem end_any (g : Nat) (s : S8) (blk m : List UInt8) (f len : Nat) (w : World) (h : St w g s blk f len) (hp : Par m s blk f) (hT : Tab w) (h0 : 0 < g) (hm : m.length = len) (hlen : len ≤ 2199023255552) :
    Calls Tryd.prog 51 #[.pointer (some ⟨g, 0, none⟩)] w (Ended g (sum m) w) := by
  have hf := hp.lt
  have hgl := h.2.lt
  have hb := h.1
  have c72 : w.cell? ⟨g, 72, none⟩ = some (.int .i64 (f : Int)) := h.2.at_ (stCells_fill (list_len s) h.1 f len)
  have cb : w.cell? ⟨g, 8 + f, none⟩ = some (.int .u8 ((blk.getD f 0).toNat : Int)) := h.2.at_ (stCells_byte (list_len s) h.1 f len hf)
  have fb := h.2.frozen (8 + f)
  obtain ⟨o', hsl, ho'⟩ : ∃ o', (∀ wx, (Instr.sliceAt 72 (.pointer (some ⟨g, 8, none⟩)) (some (.int .i64 ((f : Int) + 1))) none none).run Tryd.prog wx = .ok (.slice (some ⟨g, o', none⟩) (63 - f) (63 - f)) wx) ∧ (0 < 63 - f → o' = 8 + (f + 1)) := by
    by_cases h63 : f = 63
    · subst h63
      exact ⟨8, fun wx => piece_64 g 8 wx, fun q => by omega⟩
    · refine ⟨8 + (f + 1), fun wx => ?_, fun _ => rfl⟩
      have := piece_l g 8 (f + 1) (by omega) wx
      rw [show 64 - (f + 1) = 63 - f by omega] at this
      simpa using this
  have hwr : IntKind.i64.wrap ((f : Int) + 1) = (f : Int) + 1 := by simp [IntKind.wrap, IntKind.bits, IntKind.signed]; omega
  -- the state once 0x80 stands
  have hs1 : St (w.setCell ⟨g, 8 + f, none⟩ (.int .u8 128)) g s (blk.set f 128) f len := by
    refine ⟨by simpa using hb, ?_⟩
    have e := h.2.set (8 + f) (bv 128)
    rw [stCells_setByte (list_len s) hb f len hf] at e
    exact e
  have hg1 := grown_set (grown_refl w (some g)) (8 + f) (.int .u8 128)
  have HS1 := Lib.hid hs1
  have HG1 := Lib.hid hg1
  have HO := Lib.hid ho'
  have HP := Lib.hid hp
  have HT := Lib.hid hT
  have HM := Lib.hid hm
  have HB := Lib.hid hb
  clear h hp hT hs1 hg1 ho' hb hm
  go_enter Tryd.func51, Tryd.ntmps51
  go_wp2_with fail
  go_region
  go_wp2_with fail
  go_region_law (refine step_clear_bk rfl (.tmp 22) 22 rfl 5 (.int .u8 0) Tryd.underlying22 zero_u8 rfl rfl g (8 + (f + 1)) o' (63 - f) (63 - f) rfl HO.out 75 _ HS1.out.2 (by rw [stCells_len (list_len s) HS1.out.1]; omega) ?_
                 intro w2 HB2 HG2)
  have hs2 : St w2 g s (blk.take f ++ [128] ++ zeros (63 - f)) f len := by
    refine ⟨by rw [← end_blk HB.out hf]; exact lay_len (by simpa using HB.out) (by rw [zeros_len]; omega), ?_⟩
    have e := stCells_lay (list_len s) (show (blk.set f 128).length = 64 by simpa using HB.out) f len (f + 1) (zeros (63 - f)) (by rw [zeros_len]; omega)
    rw [end_blk HB.out hf] at e
    rw [← e, zeros_map, List.length_replicate]
    exact HB2.out
  have hg2 : w.grownBy w2 (some g) := grown_trans HG1.out (r' := some g) (grown_trans (grown_drewN (grown_refl _ _) 2) HG2.out (.inl rfl)) (.inl rfl)
  have HS2 := Lib.hid hs2
  have HGG := Lib.hid hg2
  have c72b : w2.cell? ⟨g, 72, none⟩ = some (.int .i64 (f : Int)) := hs2.2.at_ (stCells_fill (list_len s) hs2.1 f len)
  clear HB2 HG2 hs2 hg2 hsl cb fb c72
  rcases Nat.lt_or_ge f 56 with hlo | hhi
  focus
    have hsum : sum m = (mixS s ((blk.take f ++ [128] ++ zeros (63 - f)).take 56 ++ big 8 (len * 8))).bytes := by
      rw [end_lo HP.out HB.out hlo, HM.out]
      congr 4
      rw [show 63 - f = 55 - f + 8 by omega]
      have e : zeros (55 - f + 8) = zeros (55 - f) ++ zeros 8 := List.replicate_append_replicate.symm
      have hl : (blk.take f ++ [128] ++ zeros (55 - f)).length = 56 := by
        simp only [List.length_append, List.length_take, zeros_len, List.length_cons, List.length_nil, HB.out]; omega
      rw [e, ← List.append_assoc, ← hl, List.take_left]
    have HSUM := Lib.hid hsum
    clear hsum
    go_wp2_with fail
    generalize blk.take f ++ [128] ++ zeros (63 - f) = blk3 at HS2 HSUM
    have HS4 := HS2
    have HG4 := HGG
    clear HS2 HGG c72b
    generalize s = s3 at HS4 HSUM
    generalize w2 = wX at HS4 HG4 ⊢
  rotate_left
  focus
    have hsum : sum m = (mixS (mixS s (blk.take f ++ [128] ++ zeros (63 - f))) ((zeros 64).take 56 ++ big 8 (len * 8))).bytes := by
      rw [end_hi HP.out HB.out hhi, HM.out]
      rfl
    have HSUM := Lib.hid hsum
    have HMIX := Lib.hid (mix_any g s _ f len _ HS2.out (HT.out.grown HGG.out h0))
    have hpa : ∀ wx, (Instr.sliceAt 72 (.pointer (some ⟨g, 8, none⟩)) none none none).run Tryd.prog wx = .ok (.slice (some ⟨g, 8, none⟩) 64 64) wx := piece_all g 8
    clear hsum
    go_wp2_with fail
    refine HMIX.out.mono ?_
    rintro e w3 ⟨rfl, hs3, hg3⟩
    have HS3 := Lib.hid hs3
    have HG3 := Lib.hid hg3
    clear hs3 hg3
    have hcl := Lib.run_clear_slice (P := Tryd.prog) w3 22 5 0 (.int .u8 0) Tryd.underlying22 zero_u8 rfl rfl g 8 64 64 (by decide) (fun j hj => (HS3.out.2.there (o := 8) (n := 64) (by rw [stCells_len (list_len _) HS3.out.1]; decide) j hj).1) (fun j hj => (HS3.out.2.there (o := 8) (n := 64) (by rw [stCells_len (list_len _) HS3.out.1]; decide) j hj).2)
    have hs4 : St (w3.setCells g 8 (List.replicate 64 (.int .u8 0))) g (mixS s (blk.take f ++ [128] ++ zeros (63 - f))) (zeros 64) f len := by
      refine ⟨zeros_len _, ?_⟩
      have e := Bk.setCells (List.replicate 64 (.int .u8 0)) 8 HS3.out.2 (by rw [stCells_len (list_len _) HS3.out.1]; decide)
      have e2 := stCells_lay (list_len (mixS s (blk.take f ++ [128] ++ zeros (63 - f)))) HS3.out.1 f len 0 (zeros 64) (by rw [zeros_len]; decide)
      rw [zeros_map] at e2
      rw [e2] at e
      have e3 : (blk.take f ++ [128] ++ zeros (63 - f)).take 0 ++ zeros 64 ++ (blk.take f ++ [128] ++ zeros (63 - f)).drop (0 + (zeros 64).length) = zeros 64 := by
        rw [List.drop_eq_nil_of_le (by rw [zeros_len, HS3.out.1]; decide), List.append_nil]; rfl
      rw [e3] at e
      exact e
    have hg4 : w.grownBy (w3.setCells g 8 (List.replicate 64 (.int .u8 0))) (some g) := grown_setCells _ _ (grown_trans HGG.out HG3.out (.inl rfl))
    generalize w3.setCells g 8 (List.replicate 64 (.int .u8 0)) = wX at hcl hs4 hg4
    have HS4 := Lib.hid hs4
    have HG4 := Lib.hid hg4
    clear hs4 hg4
    go_wp2_with fail
    clear hcl c72b HGG HS2 HMIX HG3 HS3 hpa
    generalize mixS s (blk.take f ++ [128] ++ zeros (63 - f)) = s3 at HSUM HS4
    generalize zeros 64 = blk3 at HSUM HS4
  all_goals
    have hb3 := HS4.out.1
    have cl : wX.cell? ⟨g, 73, none⟩ = some (.int .u64 (len : Int)) := HS4.out.2.at_ (stCells_long (list_len s3) hb3 f len)
    have hp8 : ∀ wx, (Instr.sliceAt 72 (.pointer (some ⟨g, 8, none⟩)) (some (.int .i64 56)) none none).run Tryd.prog wx = .ok (.slice (some ⟨g, 64, none⟩) 8 8) wx := piece_l g 8 56 (by decide)
    have PB : Calls Tryd.prog 62 #[.slice (some ⟨g, 64, none⟩) 8 8, .int .u64 ((len : Int) * 8)] wX.drew (PutBig g 75 (layBig (stCells s3.list blk3 f len) 64 8 8 (len * 8)) wX.drew) := by
      rw [show ((len : Int) * 8) = ((len * 8 : Nat) : Int) by omega]
      exact putBig_any g 64 8 8 _ _ (len * 8) _ (HS4.out.2.drewN 1) (by rw [stCells_len (list_len s3) hb3]; decide) (by decide) (by omega)
    have HPB := Lib.hid PB
    have hblk : blk3.take 56 ++ big 8 (len * 8) ++ blk3.drop (56 + (big 8 (len * 8)).length) = blk3.take 56 ++ big 8 (len * 8) := by
      rw [List.drop_eq_nil_of_le (by rw [big_len]; omega), List.append_nil]
    have hlay := stCells_lay (list_len s3) hb3 f len 56 (big 8 (len * 8)) (by rw [big_len]; decide)
    rw [hblk] at hlay
    have HLAY := Lib.hid hlay
    have HB4 := Lib.hid (show (blk3.take 56 ++ big 8 (len * 8)).length = 64 by rw [List.length_append, List.length_take, big_len]; omega)
    have hw8 : IntKind.u64.wrap ((len : Int) * 8) = (len : Int) * 8 := by rw [IntKind.wrap_u64]; omega
    clear PB hblk hlay hb3
    go_still_tail 9, (by kernel_rfl)
    change wpList _ _ _ _ _ wX.drew
    go_wp2_with fail
    refine HPB.out.mono ?_
    rintro e w5 ⟨rfl, hb5, hg5⟩
    have hs5 : St w5 g s3 (blk3.take 56 ++ big 8 (len * 8)) f len := by
      refine ⟨HB4.out, ?_⟩
      rw [← HLAY.out]
      simpa [layBig, big_len] using hb5
    have hg5' : w.grownBy w5 (some g) := grown_trans (grown_drewN HG4.out 1) hg5 (.inl rfl)
    have HMIX5 := Lib.hid (mix_any g s3 _ f len w5 hs5 (HT.out.grown hg5' h0))
    have HG5 := Lib.hid hg5'
    clear hb5 hg5 hs5 hg5' hw8 hp8 cl HPB HLAY HS4 HG4
    go_wp2_with fail
    refine HMIX5.out.mono ?_
    rintro e w6 ⟨rfl, hs6, hg6⟩
    have hg6' : w.grownBy w6 (some g) := grown_trans HG5.out hg6 (.inl rfl)
    generalize mixS s3 (blk3.take 56 ++ big 8 (len * 8)) = s6 at HSUM hs6
    generalize blk3.take 56 ++ big 8 (len * 8) = blk6 at hs6
    have hmk : ∀ w : World, (Instr.makeSlice 22 (.int .i64 32) (.int .i64 32)).run Tryd.prog w = .ok (.slice (some ⟨w.heap.size, 0, none⟩) 32 32) (w.alloc (.cells (sumRow s6.list 0).toArray 5)) := fun _ => by kernel_rfl
    have hrow : ∀ o : Obj, (w6.alloc o).rangeAt g 0 (s6.list.map wv) := by
      intro o j v hv
      have hj : j < 8 := by
        have := (List.getElem?_eq_some_iff.1 hv).1
        simpa [list_len] using this
      rw [Nat.zero_add, (hs6.2.alloc o).at_ (stCells_word (list_len s6) blk6 f len hj)]
      simp only [List.getElem?_map] at hv
      rw [List.getElem?_eq_getElem (show j < s6.list.length from hj)] at hv
      simp only [Option.map_some] at hv
      rw [← hv]
      simp [wv, List.getD, List.getElem?_eq_getElem (show j < s6.list.length from hj)]
    have hrow2 := hrow (.cells (sumRow s6.list 0).toArray 5)
    have hB0 := Bk.new w6 5 (sumRow s6.list 0)
    have hG0 : w.grownBy (w6.alloc (.cells (sumRow s6.list 0).toArray 5)) (some g) := grown_alloc hg6' _
    have hsz : w.heap.size ≤ w6.heap.size := hg6'.size
    have hgl6 : g < w6.heap.size := hs6.2.lt
    clear hrow hs6 hg6 hg6'
    have hi8 : (Tryd.prog.info? 71).map (·.size) = some (s6.list.map wv).length := by rw [info_w8]; rfl
    have HB0 := Lib.hid hB0
    have HG0 := Lib.hid hG0
    clear hB0 hG0
    go_wp2_with (refine wpList_load_mid rfl 71 _ rfl g 0 rfl (s6.list.map wv) _ hrow2 Tryd.underlying71 rfl hi8 ?_)
    go_loopw [51] (fun i wr => ∃ n : Nat, n ≤ 8 ∧ i = .int .i64 n ∧ Bk wr w6.heap.size 5 (sumRow s6.list n) ∧ w.grownBy wr (some g)) (fun i _ => 8 - (intOf i).toNat)
    case atStart => exact ⟨0, by omega, rfl, HB0.out, HG0.out⟩
    case round =>
      clear hrow2 hmk
      obtain ⟨n, hn, rfl, hb, hg⟩ := hrel
      by_cases hlt : n < 8
      · have hix : ∀ wx, (Instr.index 71 (.agg (s6.list.map wv).toArray) (.int .i64 (n : Int))).run Tryd.prog wx = .ok (.int .u32 ((s6.list.getD n 0).toNat : Int)) wx := index_words _ _ under_w8 s6.list rfl n hlt
        have hsl : ∀ wx, (Instr.slice 22 (.slice (some ⟨w6.heap.size, 0, none⟩) 32 32) (some (.int .i64 (4 * (n : Int)))) (some (.int .i64 (4 * (n : Int) + 4))) none).run Tryd.prog wx = .ok (.slice (some ⟨w6.heap.size, 4 * n, none⟩) 4 (32 - 4 * n)) wx := by
          intro wx
          rw [run_slice_lh wx _ _ _ _ (by kernel_rfl) .i64 .i64 (4 * (n : Int)) (4 * (n : Int) + 4) (by omega) (by omega) (by omega)]
          have e : Tryd.prog.elem 22 = 5 := by kernel_rfl
          rw [e, size_u8]
          have e1 : (4 * (n : Int)).toNat = 4 * n := by omega
          have e2 : (4 * (n : Int) + 4).toNat = 4 * n + 4 := by omega
          simp [Result.andThen, sliced, e1, e2, at_add, show ¬ 32 = 4 * n by omega]
        have PB := putBig_any w6.heap.size (4 * n) 4 (32 - 4 * n) 5 (sumRow s6.list n) (s6.list.getD n 0).toNat wr hb (by rw [sumRow_len _ _ hn (by omega)]; omega) (by decide) (by have := u32_lt (s6.list.getD n 0); omega)
        rw [sumRow_lay s6.list n hlt hlt] at PB
        have hx := u32_lt (s6.list.getD n 0)
        have HPB := Lib.hid PB
        have HG := Lib.hid hg
        clear PB hb hg
        generalize s6.list.getD n 0 = x at hix HPB hx
        go_wp2_with fail
        refine HPB.out.mono ?_
        rintro e w8 ⟨rfl, hb8, hg8⟩
        go_wp2_with fail
        refine ⟨⟨n + 1, by omega, by go_num, hb8, grown_new HG.out hg8 hsz⟩, ?_⟩
        simp [intOf]; omega
      · have e8 : n = 8 := by omega
        subst e8
        go_wp2_with fail
        go_ret
        refine ⟨w6.heap.size, rfl, hsz, ?_, hg⟩
        rw [HSUM.out, ← sumRow_8]
        exact hb
end Go.Proofs.YtfdmnnbcnaofgaaDoor
