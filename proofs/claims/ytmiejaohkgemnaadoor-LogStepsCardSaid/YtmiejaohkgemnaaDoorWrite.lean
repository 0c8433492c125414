import Derived.Test.YtmiejaohkgemnaaDoorMix
import Derived.Test.YtmiejaohkgemnaaDoorMSha
import Derived.Deep.RegionLaw
namespace Go.Proofs.YtmiejaohkgemnaaDoor
open Go.RowKit
open Sh

/-- copy into a block that is known, as one step of a region that draws its order -/
theorem step_copy_bk {P : Program} {ops : Array Oper} {o : Oper} {a : Act} {w : World} {K : Act → World → Prop} {Q : Exit → Act → World → Prop} {E : Prop} (hgd : o.guard = none) (d s : Operand) (dT sT : TypeId)
    (ho : o.op = .call { callee := .builtin .copy, args := #[d, s], argTypes := #[dT, sT] }) (elem : TypeId) (hu : P.underlying dT = some (.slice elem)) (hsz : (P.info? elem).map (·.size) = some 1)
    (g off dLen dCap : Nat) (ad : Addr) (sLen sCap : Nat) (hd : a.eval d = .slice (some ⟨g, off, none⟩) dLen dCap) (hs : a.eval s = .slice (some ad) sLen sCap)
    (cs : List Value) (k : Nat) (hk : cs.length = k) (hn : k = Nat.min sLen dLen)
    (hsrc : ∀ j v, cs[j]? = some v → w.cell? (ad.add j) = some v) (h1 : ∀ v ∈ cs, v.oneCell' = true) (t : TypeId) (cur : List Value) (hb : Bk w g t cur) (hfit : off + k ≤ cur.length)
    (h : ∀ w', Hid (Bk w' g t (cur.take off ++ cs ++ cur.drop (off + cs.length))) → Hid (w.grownBy w' (some g)) → K (a.put o.dst (.int .i64 (k : Int))) w') :
    if Region.wanted o (yielded ops a.tmps) = true then Oper.wp P o a w K Q else E := by
  subst hk
  have hw : Region.wanted o (yielded ops a.tmps) = true := by simp [Region.wanted, hgd]
  rw [if_pos hw]
  have hrun := run_copy_cells (P := P) w dT sT o.type elem g off dLen dCap ad sLen sCap cs hu hsz hn hsrc (fun j hj => (hb.there hfit j hj).1) (fun j hj => (hb.there hfit j hj).2) h1
  unfold Oper.wp
  simp [execOp, ho, resolve, invoke, builtin, hd, hs, hrun, Result.andThen]
  exact h _ (Lib.hid (Bk.setCells cs off hb hfit)) (Lib.hid (grown_setCells cs off (grown_refl w _)))

theorem stCells_len {ws : List UInt32} (h : ws.length = 8) {blk : List UInt8} (hb : blk.length = 64) (f len : Nat) : (stCells ws blk f len).length = 74 := by simp [stCells, h, hb]
theorem stCells_fill {ws : List UInt32} (h : ws.length = 8) {blk : List UInt8} (hb : blk.length = 64) (f len : Nat) : (stCells ws blk f len)[72]? = some (.int .i64 (f : Int)) := by
  unfold stCells
  rw [List.getElem?_append_right (by simp [h]), List.length_map, h, List.getElem?_append_right (by simp [hb]), List.length_map, hb]
  rfl
theorem stCells_long {ws : List UInt32} (h : ws.length = 8) {blk : List UInt8} (hb : blk.length = 64) (f len : Nat) : (stCells ws blk f len)[73]? = some (.int .u64 (len : Int)) := by
  unfold stCells
  rw [List.getElem?_append_right (by simp [h]), List.length_map, h, List.getElem?_append_right (by simp [hb]), List.length_map, hb]
  rfl
theorem stCells_setFill {ws : List UInt32} (h : ws.length = 8) {blk : List UInt8} (hb : blk.length = 64) (f len f' : Nat) : (stCells ws blk f len).set 72 (.int .i64 (f' : Int)) = stCells ws blk f' len := by
  unfold stCells
  rw [List.set_append_right _ _ (by simp [h]), List.length_map, h, List.set_append_right _ _ (by simp [hb]), List.length_map, hb]
  rfl
theorem stCells_setLong {ws : List UInt32} (h : ws.length = 8) {blk : List UInt8} (hb : blk.length = 64) (f len len' : Nat) : (stCells ws blk f len).set 73 (.int .u64 (len' : Int)) = stCells ws blk f len' := by
  unfold stCells
  rw [List.set_append_right _ _ (by simp [h]), List.length_map, h, List.set_append_right _ _ (by simp [hb]), List.length_map, hb]
  rfl
theorem stCells_lay {ws : List UInt32} (h : ws.length = 8) {blk : List UInt8} (hb : blk.length = 64) (f len : Nat) (o : Nat) (cs : List UInt8) (hl : o + cs.length ≤ 64) :
    (stCells ws blk f len).take (8 + o) ++ cs.map bv ++ (stCells ws blk f len).drop (8 + o + (cs.map bv).length) = stCells ws (blk.take o ++ cs ++ blk.drop (o + cs.length)) f len := by
  unfold stCells
  have hw : (ws.map wv).length = 8 := by simp [h]
  have hbl : (blk.map bv).length = 64 := by simp [hb]
  rw [show 8 + o = (ws.map wv).length + o by omega, List.take_length_add_append, show (ws.map wv).length + o + (cs.map bv).length = (ws.map wv).length + (o + (cs.map bv).length) by omega, List.drop_length_add_append,
    List.take_append_of_le_length (by omega), List.drop_append_of_le_length (by simp; omega)]
  simp [List.map_take, List.map_drop, List.append_assoc]

/-- a slice whose bytes, if any, lie elsewhere reads as before -/
theorem Rd.off {w w' : World} {A : Option Addr} {n g : Nat} {xs : List Value} (h : Rd w A n xs) (hg : w.grownBy w' (some g)) (hne : 0 < n → ∀ a, A = some a → a.block ≠ g) : Rd w' A n xs := by
  rcases Nat.eq_zero_or_pos n with h0 | h0
  · subst h0
    have : xs = [] := List.eq_nil_of_length_eq_zero h.1
    subst this
    exact Rd.nil_ _ _
  · exact h.grown hg (fun a e q => hne h0 a e (by injection q with q; exact q.symm))
def Wrote (g : Nat) (m : List UInt8) (len : Nat) (w : World) (e : Ending) (w' : World) : Prop :=
  e = .returned (.tuple #[]) ∧ ∃ s blk f, St w' g s blk f len ∧ Par m s blk f ∧ w.grownBy w' (some g)
theorem info_u8s : (Tryd.prog.info? 5).map (·.size) = some 1 := by kernel_rfl

set_option maxHeartbeats 2000000 in
set_option maxRecDepth 100000 in
theorem write_any (g : Nat) (s : S8) (blk m l : List UInt8) (f len n c : Nat) (A : Option Addr) (w : World) (h : St w g s blk f len) (hp : Par m s blk f) (hT : Tab w) (h0 : 0 < g)
    (hr : Rd w A n (l.map bv)) (hne : 0 < n → ∀ a, A = some a → a.block ≠ g) (hnc : n ≤ c) (hn : n ≤ 1099511627776) (hlen : len ≤ 1099511627776) :
    Calls Tryd.prog 85 #[.pointer (some ⟨g, 0, none⟩), .slice A n c] w (Wrote g (m ++ l) (len + n) w) := by
  have hgl := h.2.lt
  have cl : w.cell? ⟨g, 73, none⟩ = some (.int .u64 (len : Int)) := h.2.at_ (stCells_long (list_len s) h.1 f len)
  have cf := h.2.frozen 73
  have HS := Lib.hid h
  have HP := Lib.hid hp
  have HT := Lib.hid hT
  have HR := Lib.hid hr
  have HNE := Lib.hid hne
  have HNC := Lib.hid hnc
  clear h hp hT hr hne hnc
  go_enter Tryd.func85, Tryd.ntmps85
  go_wp2_with fail
  go_loopw [1] (fun b wr => ∃ (m' rest : List UInt8) (A' : Option Addr) (n' c' : Nat) (s' : S8) (blk' : List UInt8) (f' : Nat), b = .slice A' n' c' ∧ n' ≤ n ∧ n' ≤ c' ∧ Rd wr A' n' (rest.map bv) ∧ (0 < n' → ∀ a, A' = some a → a.block ≠ g) ∧ m' ++ rest = m ++ l ∧
    St wr g s' blk' f' (len + n) ∧ Par m' s' blk' f' ∧ w.grownBy wr (some g)) (fun b _ => match b with | .slice _ n _ => n | _ => 0)
  case atStart =>
    refine ⟨m, l, A, n, c, s, blk, f, rfl, Nat.le_refl _, HNC.out, ?_, HNE.out, rfl, ⟨HS.out.1, ?_⟩, HP.out, grown_set (grown_refl w _) 73 _⟩
    · exact HR.out.off (grown_set (grown_refl w (some g)) 73 _) HNE.out
    · have e := HS.out.2.set 73 (.int .u64 ((len + n : Nat) : Int))
      rw [stCells_setLong (list_len s) HS.out.1] at e
      simpa using e
  case round =>
    obtain ⟨m', rest, A', n', c', s', blk', f', rfl, hn', hnc', hr, hne, hm, hs, hp, hg⟩ := hrel
    have hf := hp.lt
    have hrl : rest.length = n' := by simpa using hr.1
    by_cases hlt : 0 < n'
    · obtain ⟨ad, rfl, hadb, _⟩ := hr.at_ hlt
      obtain ⟨k, hk⟩ : ∃ k, k = Nat.min n' (64 - f') := ⟨_, rfl⟩
      have hk1 : k ≤ n' := by rw [hk]; exact Nat.min_le_left _ _
      have hk2 : k ≤ 64 - f' := by rw [hk]; exact Nat.min_le_right _ _
      have hk0 : 0 < k := by rw [hk]; exact Nat.lt_min.2 ⟨hlt, by omega⟩
      have hadg := hne hlt ad rfl
      -- the bytes that go over
      obtain ⟨cs, hcs⟩ : ∃ cs, cs = rest.take k := ⟨_, rfl⟩
      have hcl : cs.length = k := by rw [hcs, List.length_take]; omega
      have hsrc : ∀ j v, (cs.map bv)[j]? = some v → wr.cell? (ad.add j) = some v := by
        intro j v hv
        rw [hcs, List.map_take] at hv
        rw [List.getElem?_take] at hv
        split at hv
        · obtain ⟨a, e, _, hc⟩ := hr.2 j v hv
          injection e with e
          rw [e]; exact hc
        · cases hv
      have c72 : wr.cell? ⟨g, 72, none⟩ = some (.int .i64 (f' : Int)) := hs.2.at_ (stCells_fill (list_len s') hs.1 f' _)
      have hcut := hr.cut (k := k) (cap := c') hk1 hnc'
      have hcn : 0 < n' - k → ∀ a, (if c' = k then some ad else (some ad).map (·.add k)) = some a → a.block ≠ g := by
        intro _ a e
        split at e
        · injection e with e; rw [← e]; exact hadg
        · simp only [Option.map_some] at e
          injection e with e; rw [← e, add_block]; exact hadg
      obtain ⟨A2, hA2⟩ : ∃ A2, A2 = (if c' = k then some ad else (some ad).map (·.add k)) := ⟨_, rfl⟩
      rw [← hA2] at hcut hcn
      have hsl : ∀ wx, (Instr.slice 32 (.slice (some ad) n' c') (some (.int .i64 (k : Int))) none none).run Tryd.prog wx = .ok (.slice A2 (n' - k) (c' - k)) wx := by
        intro wx
        rw [run_slice_l wx _ _ _ _ (by kernel_rfl) .i64 k (by omega) (by omega)]
        have e : Tryd.prog.elem 32 = 5 := by kernel_rfl
        rw [e, size_u8, hA2]
        simp [Result.andThen, sliced]
      have hpc : ∀ wx, (Instr.sliceAt 128 (.pointer (some ⟨g, 8, none⟩)) (some (.int .i64 (f' : Int))) none none).run Tryd.prog wx = .ok (.slice (some ⟨g, 8 + f', none⟩) (64 - f') (64 - f')) wx := piece_l g 8 f' hf
      have hrest : rest = cs ++ rest.drop k := by rw [hcs, List.take_append_drop]
      have HR2 := Lib.hid hcut
      have HN2 := Lib.hid hcn
      have HRE := Lib.hid hrest
      have HM := Lib.hid hm
      have HS2 := Lib.hid hs
      have HP2 := Lib.hid hp
      have HG := Lib.hid hg
      have HCL := Lib.hid hcl
      have HSRC := Lib.hid hsrc
      have HK := Lib.hid hk
      have HHR := Lib.hid hr
      clear hcut hcn hrest hm hs hp hg hcl hsrc hk hr hne hcs hA2 hadg hadb hrl
      go_wp2_with fail
      go_region_law (refine step_copy_bk rfl (.tmp 25) (.tmp 26) 32 32 rfl 5 Tryd.underlying32 info_u8s g (8 + f') (64 - f') (64 - f') ad n' c' rfl rfl (cs.map bv) k (by simpa using HCL.out) HK.out HSRC.out (oneB cs) _ _ HS2.out.2 (by rw [stCells_len (list_len s') HS2.out.1]; omega) ?_
                     intro w2 HB2 HG2)
      have hs2 : St w2 g s' (blk'.take f' ++ cs ++ blk'.drop (f' + cs.length)) f' (len + n) := by
        refine ⟨lay_len HS2.out.1 (by rw [HCL.out]; omega), ?_⟩
        have e := HB2.out
        rw [stCells_lay (list_len s') HS2.out.1 f' _ f' cs (by rw [HCL.out]; omega)] at e
        exact e
      have hg2 : w.grownBy w2 (some g) := grown_trans HG.out (r' := some g) (grown_trans (grown_drewN (grown_refl _ _) 1) HG2.out (.inl rfl)) (.inl rfl)
      have hr2 : Rd w2 A2 (n' - k) ((rest.drop k).map bv) := by
        have e := Rd.off (HR2.out.drewN 1) HG2.out HN2.out
        rw [List.map_drop]; exact e
      obtain ⟨blk2, hblk⟩ : ∃ b2, b2 = blk'.take f' ++ cs ++ blk'.drop (f' + cs.length) := ⟨_, rfl⟩
      rw [← hblk] at hs2
      have c72' : w2.cell? ⟨g, 72, none⟩ = some (.int .i64 (f' : Int)) := hs2.2.at_ (stCells_fill (list_len s') hs2.1 f' _)
      have f72 := hs2.2.frozen 72
      have HS3 := Lib.hid hs2
      have HG3 := Lib.hid hg2
      have HR3 := Lib.hid hr2
      have HBL := Lib.hid hblk
      clear HB2 HG2 hs2 hg2 hr2 hblk c72 hpc
      by_cases h64 : f' + k = 64
      · have he : ((f' : Int) + (k : Int) == 64) = true := by rw [beq_iff_eq]; omega
        have hs4 : St (w2.setCell ⟨g, 72, none⟩ (.int .i64 ((f' : Int) + (k : Int)))) g s' blk2 (f' + k) (len + n) := by
          refine ⟨HS3.out.1, ?_⟩
          have e := HS3.out.2.set 72 (.int .i64 ((f' + k : Nat) : Int))
          rw [stCells_setFill (list_len s') HS3.out.1] at e
          simpa using e
        have hg4 := grown_set HG3.out 72 (.int .i64 ((f' : Int) + (k : Int)))
        have HMIX := Lib.hid (mix_any g s' blk2 (f' + k) (len + n) _ hs4 (HT.out.grown hg4 h0))
        have HR4 := Lib.hid (HR3.out.off (grown_set (grown_refl w2 (some g)) 72 (.int .i64 ((f' : Int) + (k : Int)))) HN2.out)
        have HG4 := Lib.hid hg4
        clear hs4 hg4
        go_wp2_with fail
        refine HMIX.out.mono ?_
        rintro e w4 ⟨rfl, hs5, hg5⟩
        have c5 : w4.cell? ⟨g, 72, none⟩ = some (.int .i64 ((f' + k : Nat) : Int)) := hs5.2.at_ (stCells_fill (list_len _) hs5.1 _ _)
        have f5 := hs5.2.frozen 72
        have HS5 := Lib.hid hs5
        have HG5 := Lib.hid hg5
        have hp5 := HP2.out.full (cs := cs) HS2.out.1 (by rw [HCL.out]; exact h64)
        rw [← HBL.out] at hp5
        have HP5 := Lib.hid hp5
        clear hs5 hg5 hp5
        go_wp2_with fail
        have hR5 := (HR4.out.off HG5.out HN2.out).off (grown_set (grown_refl w4 (some g)) 72 (.int .i64 0)) HN2.out
        refine ⟨⟨m' ++ cs, rest.drop k, A2, n' - k, c' - k, _, blk2, 0, rfl, by omega, by omega, hR5, HN2.out, ?_, ⟨HS5.out.1, ?_⟩, HP5.out, grown_set (grown_trans HG4.out HG5.out (.inl rfl)) 72 _⟩, ?_⟩
        · rw [List.append_assoc, ← HRE.out]; exact HM.out
        · have e := HS5.out.2.set 72 (.int .i64 ((0 : Nat) : Int))
          rw [stCells_setFill (list_len _) HS5.out.1] at e
          exact e
        · show n' - k < n'; omega
      · have he : ((f' : Int) + (k : Int) == 64) = false := by rw [beq_eq_false_iff_ne]; omega
        go_wp2_with fail
        refine ⟨⟨m' ++ cs, rest.drop k, A2, n' - k, c' - k, s', blk2, f' + k, rfl, by omega, by omega, HR3.out.off (grown_set (grown_refl w2 (some g)) 72 _) HN2.out, HN2.out, ?_, ⟨HS3.out.1, ?_⟩, ?_, grown_set HG3.out 72 _⟩, ?_⟩
        · rw [List.append_assoc, ← HRE.out]; exact HM.out
        · have e := HS3.out.2.set 72 (.int .i64 ((f' + k : Nat) : Int))
          rw [stCells_setFill (list_len s') HS3.out.1] at e
          simpa using e
        · have e := HP2.out.part (cs := cs) HS2.out.1 (by rw [HCL.out]; omega)
          rw [← HBL.out, HCL.out] at e
          exact e
        · show n' - k < n'; omega
    · have e0 : n' = 0 := by omega
      subst e0
      have e1 : rest = [] := List.eq_nil_of_length_eq_zero hrl
      subst e1
      rw [List.append_nil] at hm
      subst hm
      go_wp2_with fail
      refine bodyPost_end (results_none rfl _ _ _) rfl ?_
      exact ⟨rfl, s', blk', f', hs, hp, hg⟩
end Go.Proofs.YtmiejaohkgemnaaDoor
