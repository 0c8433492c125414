import Derived.Test.YtgppclmofphlfaaGreatDoorMTreeD
import Derived.Maps.AppendAt

/-
  A node told, all nodes told. Walks; no statement.
-/
namespace Go.Proofs.YtgppclmofphlfaaGreatDoor
set_option maxRecDepth 100000
open Go.RowKit
set_option linter.unusedVariables false

set_option maxHeartbeats 3200000 in
theorem get_any (g : Nat) (t : List Lf) (F : Nat → Prop) (p : ByteArray) (w : World) (hE : Env w) (hT : TreeAt F w g t) (hp : ∀ l ∈ t, l.path.length ≤ 64) (hd : ∀ l ∈ t, l.data.length ≤ 1000) :
    Calls Tryz.prog 22 #[.pointer (some ⟨g, 0, none⟩), .string p] w (GetP (tGet p.data.toList t) w) := by
  obtain ⟨q, rfl⟩ : ∃ l : List UInt8, p = ⟨l.toArray⟩ := ⟨p.data.toList, (sv_of p).symm⟩
  show Calls _ _ _ _ (GetP (tGet q t) w)
  obtain ⟨W1, hW1⟩ : ∃ W1, W1 = w.alloc (.cells #[.string ⟨#[]⟩, .slice none 0 0, .int .i64 0, .int .i64 0, .int .i64 0, .int .i64 0] 50) := ⟨_, rfl⟩
  have HB1 := Lib.hid (show Below w.heap.size w W1 by rw [hW1]; exact (Below.refl w.heap.size w).alloc (Nat.le_refl _) _)
  have HS1 := Lib.hid (show W1.heap.size = w.heap.size + 1 by rw [hW1]; simp)
  have HK1 := Lib.hid (show Bk W1 w.heap.size 50 [.string ⟨#[]⟩, .slice none 0 0, .int .i64 0, .int .i64 0, .int .i64 0, .int .i64 0] by rw [hW1]; exact Bk.new w 50 [.string ⟨#[]⟩, .slice none 0 0, .int .i64 0, .int .i64 0, .int .i64 0, .int .i64 0])
  have HC := Lib.hid (find_any g t (Lw F w) ⟨q.toArray⟩ W1 (hE.below HB1.out) (hT.low.below HB1.out))
  have HWE := Lib.hid hW1
  clear hE hT hW1
  rcases tGet_cases q t with ⟨l, e, hlp, hlm, -⟩ | ⟨n, e, hn⟩
  · replace HC := Lib.hid (show Calls _ _ _ _ (FndP (Lw F w) (some l, 0) W1) by have := HC.out; rw [show (⟨q.toArray⟩ : ByteArray).data.toList = q from rfl, e] at this; exact this)
    rw [e]
    have HCP := Lib.hid (fun A c X (hb : BF (Lw F w) X A c l.data) => show Calls Tryz.prog _ #[.agg #[.string ⟨l.path.toArray⟩, .slice A l.data.length c, .int .i64 l.ver, .int .i64 l.own, .int .i64 l.next, .int .i64 l.born]] X (fun e w' => Below X.heap.size X w' ∧ ∃ B d, e = .returned (.agg #[.string ⟨l.path.toArray⟩, .slice B l.data.length d, .int .i64 l.ver, .int .i64 l.own, .int .i64 l.next, .int .i64 l.born]) ∧ BF (From X.heap.size) w' B d l.data) from copied_any l A c (Lw F w) X hb (hp l hlm) (hd l hlm))
    clear e hlp hlm hp hd
    go_enter Tryz.func22, Tryz.ntmps22
    go_wp2_with fail
    rw [← HWE.out]
    refine HC.out.mono ?_
    rintro e w1 ⟨hb1, A, c, rfl, hbf⟩
    have HX := Lib.hid (HB1.out.trans (hb1.mono HB1.out.size))
    have HK := Lib.hid (HK1.out.kept hb1)
    have HS2 := Lib.hid (show w.heap.size + 1 ≤ w1.heap.size by have := hb1.size; have := HS1.out; omega)
    have HCC := Lib.hid (HCP.out A c (w1.alloc (.cells #[.string ⟨l.path.toArray⟩, .slice A l.data.length c, .int .i64 l.ver, .int .i64 l.own, .int .i64 l.next, .int .i64 l.born] 50)) (hbf.below ((Below.refl _ _).alloc (Nat.le_refl _) _)))
    clear hb1 hbf HC HCP
    go_wp2_with (refine wpList_load_row rfl 50 _ rfl w1.heap.size rfl 50 #[.string ⟨l.path.toArray⟩, .slice A l.data.length c, .int .i64 l.ver, .int .i64 l.own, .int .i64 l.next, .int .i64 l.born] (0, 0) _ (Bk.new w1 50 [.string ⟨l.path.toArray⟩, .slice A l.data.length c, .int .i64 l.ver, .int .i64 l.own, .int .i64 l.next, .int .i64 l.born]) Tryz.underlying50 rfl info_leaf1 ?_)
    refine HCC.out.mono ?_
    rintro e w2 ⟨hb2, B, d, rfl, hbf2⟩
    have HX2 := Lib.hid ((HX.out.alloc HX.out.size _).trans (hb2.mono (by have := HX.out.size; simp; omega)))
    have hk2 := (HK.out.alloc (.cells #[.string ⟨l.path.toArray⟩, .slice A l.data.length c, .int .i64 l.ver, .int .i64 l.own, .int .i64 l.next, .int .i64 l.born] 50)).kept hb2
    have HBF := Lib.hid (show BF (From (w.heap.size + 1)) w2 B d l.data from bf_from hbf2 (by have := HS2.out; simp; omega))
    clear hb2 hbf2
    go_wp2_with (refine wpList_store_bkT rfl 50 _ _ rfl w.heap.size [.string ⟨l.path.toArray⟩, .slice B l.data.length d, .int .i64 l.ver, .int .i64 l.own, .int .i64 l.next, .int .i64 l.born] rfl rfl 50 [.string ⟨#[]⟩, .slice none 0 0, .int .i64 0, .int .i64 0, .int .i64 0, .int .i64 0] hk2 rfl info_leaf1 rfl ?_; intro w99 hk99 hg99)
    refine bodyPost_ret_by (results_row_tmp rfl _ _ w.heap.size 50 _ _ rfl hk99.out Tryz.underlying50 rfl info_leaf1) rfl ?_
    exact ⟨HX2.out.grown hg99.out HX2.out.size (fun g hg => by injection hg with hg; omega), B, d, rfl, bf_from (bf_set HBF.out hg99.out fun k hk e => by unfold From at hk; omega) (by omega)⟩
  · replace HC := Lib.hid (show Calls _ _ _ _ (FndP (Lw F w) (none, n) W1) by have := HC.out; rw [show (⟨q.toArray⟩ : ByteArray).data.toList = q from rfl, e] at this; exact this)
    rw [e]
    have hb : (n != 0) = true := by rcases hn with rfl | rfl <;> rfl
    clear e hn hp hd
    go_enter Tryz.func22, Tryz.ntmps22
    go_wp2_with fail
    rw [← HWE.out]
    refine HC.out.mono ?_
    rintro e w1 ⟨hb1, rfl⟩
    have HX := Lib.hid (HB1.out.trans (hb1.mono HB1.out.size))
    have hk := HK1.out.kept hb1
    clear hb1
    go_wp2_with (refine wpList_store_bkT rfl 50 _ _ rfl w.heap.size [.string ⟨#[]⟩, .slice none 0 0, .int .i64 0, .int .i64 0, .int .i64 0, .int .i64 0] rfl rfl 50 [.string ⟨#[]⟩, .slice none 0 0, .int .i64 0, .int .i64 0, .int .i64 0, .int .i64 0] (hk.alloc _) rfl info_leaf1 rfl ?_; intro w99 hk99 hg99)
    refine bodyPost_ret_by (results_row_tmp rfl _ _ w.heap.size 50 _ _ rfl hk99.out Tryz.underlying50 rfl info_leaf1) rfl ?_
    exact ⟨(HX.out.alloc HX.out.size _).grown hg99.out (by have := HX.out.size; simp; omega) (fun g hg => by injection hg with hg; omega), rfl⟩
/-- all nodes, in new memory -/
def AllP (t : List Lf) (w : World) (e : Ending) (w' : World) : Prop :=
  ∃ A c, e = .returned (.slice A t.length c) ∧ OwnS RLf 50 (From w.heap.size) w.heap.size w' A t.length c t ∧ Below w.heap.size w w'
set_option maxHeartbeats 3200000 in
theorem all_any (g : Nat) (t : List Lf) (F : Nat → Prop) (w : World) (hT : TreeAt F w g t) (hn : t.length ≤ 900) (hp : ∀ l ∈ t, l.path.length ≤ 64) (hd : ∀ l ∈ t, l.data.length ≤ 1000) :
    Calls Tryz.prog 37 #[.pointer (some ⟨g, 0, none⟩)] w (AllP t w) := by
  obtain ⟨i0, hi, hz0, hz1, hz2⟩ := info_parts info_leaf
  have HPT := Lib.hid (paths_any g t F w hT (by omega))
  have HT := Lib.hid hT
  have HP := Lib.hid hp
  have HD := Lib.hid hd
  clear hT hp hd
  go_enter Tryz.func37, Tryz.ntmps37
  go_wp2_with fail
  refine HPT.out.mono ?_
  rintro e w2 ⟨PA, pc, rfl, hop, hb2⟩
  have HRP := Lib.hid hop
  have HB2 := Lib.hid hb2
  clear hop hb2
  go_wp2_with fail
  go_loopw [3, 9] (fun s i wr => ∃ (A' : Option Addr) (k c' : Nat), k ≤ t.length ∧ s = .slice A' k c' ∧ i = .int .i64 k ∧ OwnS RLf 50 (From w.heap.size) w.heap.size wr A' k c' (t.take k) ∧ Below w.heap.size w wr ∧ OwnT wr w.heap.size PA t.length pc (t.map (·.path))) (fun _ i _ => t.length - (intOf i).toNat)
  case atStart => exact ⟨none, 0, 0, Nat.zero_le _, rfl, rfl, OwnS.nil_ _ _ _ _ _, HB2.out, HRP.out⟩
  case round =>
    obtain ⟨A', k, c', hk, rfl, rfl, ho, hb, hrd⟩ := hrel
    by_cases hlt : k < t.length
    · obtain ⟨l, hl⟩ : ∃ l, t[k]? = some l := ⟨_, List.getElem?_eq_getElem hlt⟩
      have hmem : l ∈ t := List.mem_of_getElem? hl
      have HSN := Lib.hid (show t.take (k + 1) = t.take k ++ [l] by obtain ⟨hh, rfl⟩ := List.getElem?_eq_some_iff.1 hl; exact List.take_succ_eq_append_getElem hh)
      have hTr := HT.out.below hb
      have hsr := hTr.srt
      obtain ⟨b, hkg, hFg, hFb, hmp⟩ := hTr
      obtain ⟨B, d, hbf, hrun⟩ := hmp.look_yes false (tAt_of hsr hl) hl (by have := HP.out l hmem; simp only [maxLen]; omega)
      have hlk : (Instr.lookup 74 (.map (some b)) (.string ⟨l.path.toArray⟩) false).run Tryz.prog wr = .ok (.agg #[.string ⟨l.path.toArray⟩, .slice B l.data.length d, .int .i64 l.ver, .int .i64 l.own, .int .i64 l.next, .int .i64 l.born]) wr := hrun
      have g0 : wr.cell? ⟨g, 0, none⟩ = some (.map (some b)) := hkg.at_ rfl
      obtain ⟨a, hPA, hab, hac⟩ := hrd.rd.at_ hlt
      subst hPA
      have hac2 : wr.cell? (a.add k) = some (.string ⟨l.path.toArray⟩) := by rw [hac]; simp [List.getD, hl]
      have HC := Lib.hid (show Calls Tryz.prog _ #[.agg #[.string ⟨l.path.toArray⟩, .slice B l.data.length d, .int .i64 l.ver, .int .i64 l.own, .int .i64 l.next, .int .i64 l.born]] wr (fun e w' => Below wr.heap.size wr w' ∧ ∃ A c, e = .returned (.agg #[.string ⟨l.path.toArray⟩, .slice A l.data.length c, .int .i64 l.ver, .int .i64 l.own, .int .i64 l.next, .int .i64 l.born]) ∧ BF (From wr.heap.size) w' A c l.data) from copied_any l B d F wr hbf (HP.out l hmem) (HD.out l hmem))
      have HO := Lib.hid ho
      have HB := Lib.hid hb
      have HRD := Lib.hid hrd
      clear hsr hkg hFg hFb hmp hbf hrun hab hac hrd hmem ho hb hl
      go_wp2_with fail
      refine HC.out.mono ?_
      rintro e w3 ⟨hb3, A3, d3, rfl, hbf3⟩
      have HBW := Lib.hid hb3
      have HB3 := Lib.hid (below_next HB.out hb3 HB.out.size)
      have HBF := Lib.hid hbf3
      have HWR := Lib.hid HB.out.size
      have HBG := Lib.hid (fun g hg => HO.out.block g hg)
      have HBL := Lib.hid (fun g hg => HO.out.block_lt g hg)
      obtain ⟨hl0, css, hcl, hou0, hin0⟩ := HO.out
      have HL0 := Lib.hid hl0
      have HCL := Lib.hid hcl
      have hou := World.ownsRow.kept hou0 (grown_of_below hb3 none) (by cases (Value.slice A' k c').ownBlock <;> simp)
      have HKP := Lib.hid (fun (j : Nat) (y : Lf) (cs : List Value) (hy : (t.take k)[j]? = some y) (hc : css[j]? = some cs) => show RLf.rd (fun b => (From w.heap.size b ∧ some b ≠ (Value.slice A' k c').ownBlock)) w3 cs y from RLf.keep (hin0 j y cs hy hc) (Kp.of_below HBW.out) fun b hb _ => hb)
      have hsw : w.heap.size ≤ w3.heap.size := HB3.out.size
      clear hin0 hou0 hl0 hcl hb3 hbf3 hlk g0 hac2
      go_wp2_with (at_builtin
                   refine wpList_append_own_at _ rfl _ _ 28 rfl w.heap.size 50 i0 _ 6 72 Tryz.underlying28 hi hz0 hz1 hz2 rfl (by omega) (.slice A' k c') k css.flatten rfl (World.ownsRow.alloc hou _) ⟨w3.heap.size, 0, none⟩ 1 1 (lfC l A3 d3) rfl rfl
                     (news_row w3 (lfC l A3 d3) 50) (by simp [lfC, Value.oneCell']) (by simp only [maxLen]; omega) (by omega) (by simp; omega) ?_
                   intro v4 w4 hown4 hg4 hnil4 hrow4)
      obtain ⟨A4, c4, rfl⟩ := form_row hown4
      have hB4 := (Below.refl w3.heap.size w3).alloc (Nat.le_refl _) (.cells (lfC l A3 d3).toArray 50)
      have HX := Lib.hid (show OwnS RLf 50 (From w.heap.size) w.heap.size w4 A4 (k + 1) c4 (t.take k ++ [l]) from
        OwnS.push (R := RLf) (G := From w.heap.size) (F := From wr.heap.size) (w := w3.alloc (.cells (lfC l A3 d3).toArray 50)) HL0.out HCL.out
          (fun j y cs hy hc => RLf.below (HKP.out j y cs hy hc) hB4) (RLf.below (show RLf.rd (From wr.heap.size) _ (lfC l A3 d3) l from ⟨A3, d3, rfl, HBF.out⟩) hB4)
          (fun b hb _ => ⟨by have := HWR.out; unfold From at *; omega, fun e => by have := HBL.out b e.symm; unfold From at hb; omega⟩) hg4 hown4 hrow4)
      have HB5 := Lib.hid ((HB3.out.alloc HB3.out.size (.cells (lfC l A3 d3).toArray 50)).grown hg4 (by have := HB3.out.size; simp at this ⊢; omega) (fun g hg => HBG.out g hg))
      have HR5 := Lib.hid (show OwnT w4 w.heap.size (some a) t.length pc (t.map (·.path)) from World.ownsRow.kept ((HRD.out.below HBW.out).below hB4) hg4 (rows_apart (HRD.out.below HBW.out) hou (by decide)))
      clear hown4 hg4 hrow4 hB4 hou hnil4
      go_roundw
      case rel => exact ⟨A4, k + 1, c4, by omega, rfl, by go_num, by rw [HSN.out]; exact HX.out, HB5.out, HR5.out⟩
      case measure => simp [intOf]; omega
    · obtain rfl : k = t.length := by omega
      have HO := Lib.hid ho
      have HB := Lib.hid hb
      clear ho hb hrd
      go_wp2
      go_ret
      exact ⟨A', c', rfl, by have := HO.out; rw [List.take_length] at this; exact this, HB.out⟩
end Go.Proofs.YtgppclmofphlfaaGreatDoor

/-
  A node's data set. Walks; no statement.
-/
namespace Go.Proofs.YtgppclmofphlfaaGreatDoor
set_option maxRecDepth 100000
open Go.RowKit
set_option linter.unusedVariables false

theorem tdid_same {F : Nat → Prop} {g : Nat} {t : List Lf} {w w' : World} (r : Value) (hT : TreeAt F w g t) (hb : Below w.heap.size w w') : TDid F g t r w (.returned r) w' :=
  ⟨rfl, F, hT.below hb, fun k h => .inl h, Chg.of_below F hb⟩
theorem info_int1 : (Tryz.prog.info? 3).map (·.size) = some 1 := by kernel_rfl
theorem tSet_err {p data : List UInt8} {v : Int} {t : List Lf} {n : Int} (h : tGet p t = (none, n)) : tSet p data v t = (t, 0, n) := by
  unfold tGet at h
  unfold tSet
  split at h
  · rename_i hp
    injection h with _ h
    rw [if_pos hp, ← h]
  · rename_i hp
    rw [if_neg hp]
    split at h
    · rename_i ha
      injection h with _ h
      rw [← h]
    · cases h
theorem tSet_has {p data : List UInt8} {v : Int} {t : List Lf} {l : Lf} (h : tGet p t = (some l, 0)) : tSet p data v t =
    (if 0 ≤ v ∧ l.ver ≠ v then (t, 0, 102) else if data.length > 128 then (t, 0, 104) else
      (tWith { l with data := data, ver := IntKind.i64.wrap (l.ver + 1) } t, IntKind.i64.wrap (l.ver + 1), 0)) := by
  unfold tGet at h
  unfold tSet
  split at h
  · cases h
  · rename_i hp
    rw [if_neg hp]
    split at h
    · cases h
    · rename_i k hk
      have e : t.getD k lfRoot = l := by injection h with h; exact Option.some.inj h
      simp only [e]
set_option maxHeartbeats 3200000 in
theorem set_any (g : Nat) (t : List Lf) (F : Nat → Prop) (p : ByteArray) (DA : Option Addr) (dc : Nat) (data : List UInt8) (FD : Nat → Prop) (v : Int) (w : World) (hE : Env w) (hT : TreeAt F w g t) (hB : BF FD w DA dc data) (hn : t.length ≤ 900) (hp : ∀ l ∈ t, l.path.length ≤ 64) :
    Calls Tryz.prog 19 #[.pointer (some ⟨g, 0, none⟩), .string p, .slice DA data.length dc, .int .i64 v] w
      (TDid F g (tSet p.data.toList data v t).1 (.tuple #[.int .i64 (tSet p.data.toList data v t).2.1, .int .i64 (tSet p.data.toList data v t).2.2]) w) := by
  obtain ⟨q, rfl⟩ : ∃ l : List UInt8, p = ⟨l.toArray⟩ := ⟨p.data.toList, (sv_of p).symm⟩
  show Calls _ _ _ _ (TDid F g (tSet q data v t).1 (.tuple #[.int .i64 (tSet q data v t).2.1, .int .i64 (tSet q data v t).2.2]) w)
  have HC := Lib.hid (find_any g t F ⟨q.toArray⟩ w hE hT)
  have HT := Lib.hid hT
  have HB := Lib.hid hB
  clear hE hT hB
  rcases tGet_cases q t with ⟨l, e, hlp, hlm, -⟩ | ⟨n, e, hn2⟩
  · replace HC := Lib.hid (show Calls _ _ _ _ (FndP F (some l, 0) w) by have := HC.out; rw [show (⟨q.toArray⟩ : ByteArray).data.toList = q from rfl, e] at this; exact this)
    rw [tSet_has e]
    have hl64 := hp l hlm
    clear e hlp hlm hp
    have HV := Lib.hid (fun A c X => isVersion_any l A c v X)
    by_cases hv : 0 ≤ v ∧ l.ver ≠ v
    · rw [if_pos hv]
      rw [show decide (v < 0 ∨ v = l.ver) = false by simp only [decide_eq_false_iff_not]; rintro (h | h) <;> omega] at HV
      clear hv
      go_enter Tryz.func19, Tryz.ntmps19
      go_wp2_with fail
      refine HC.out.mono ?_
      rintro e w1 ⟨hb1, A, c, rfl, -⟩
      have HX := Lib.hid hb1
      clear hb1
      go_wp2_with (refine wpList_load_row rfl 50 _ rfl w1.heap.size rfl 50 #[.string ⟨l.path.toArray⟩, .slice A l.data.length c, .int .i64 l.ver, .int .i64 l.own, .int .i64 l.next, .int .i64 l.born] (0, 0) _ (Bk.new w1 50 [.string ⟨l.path.toArray⟩, .slice A l.data.length c, .int .i64 l.ver, .int .i64 l.own, .int .i64 l.next, .int .i64 l.born]) Tryz.underlying50 rfl info_leaf1 ?_)
      refine (HV.out A c _).mono ?_
      rintro e w2 ⟨rfl, hb2⟩
      have HX2 := Lib.hid ((HX.out.alloc HX.out.size _).trans (hb2.mono (by have := HX.out.size; simp; omega)))
      clear hb2
      go_wp2_with fail
      go_ret2
      exact tdid_same _ HT.out HX2.out
    · rw [if_neg hv]
      rw [show decide (v < 0 ∨ v = l.ver) = true by simp only [decide_eq_true_iff]; omega] at HV
      clear hv
      by_cases hd : data.length > 128
      · rw [if_pos hd]
        have hd2 : (128 : Int) < (data.length : Int) := by omega
        go_enter Tryz.func19, Tryz.ntmps19
        go_wp2_with fail
        refine HC.out.mono ?_
        rintro e w1 ⟨hb1, A, c, rfl, -⟩
        have HX := Lib.hid hb1
        clear hb1
        go_wp2_with (refine wpList_load_row rfl 50 _ rfl w1.heap.size rfl 50 #[.string ⟨l.path.toArray⟩, .slice A l.data.length c, .int .i64 l.ver, .int .i64 l.own, .int .i64 l.next, .int .i64 l.born] (0, 0) _ (Bk.new w1 50 [.string ⟨l.path.toArray⟩, .slice A l.data.length c, .int .i64 l.ver, .int .i64 l.own, .int .i64 l.next, .int .i64 l.born]) Tryz.underlying50 rfl info_leaf1 ?_)
        refine (HV.out A c _).mono ?_
        rintro e w2 ⟨rfl, hb2⟩
        have HX2 := Lib.hid ((HX.out.alloc HX.out.size _).trans (hb2.mono (by have := HX.out.size; simp; omega)))
        clear hb2
        go_wp2_with fail
        go_ret2
        exact tdid_same _ HT.out HX2.out
      · rw [if_neg hd]
        have hd2 : ¬ (128 : Int) < (data.length : Int) := by omega
        obtain ⟨nv, hnv⟩ : ∃ nv, nv = IntKind.i64.wrap (l.ver + 1) := ⟨_, rfl⟩
        rw [← hnv]
        have y1 : IntKind.i64.wrap (l.ver + 1) = nv := hnv.symm
        have y2 : wrap64 (l.ver + 1) = nv := by rw [hnv]; unfold wrap64 IntKind.wrap IntKind.bits IntKind.signed; simp; omega
        clear hnv
        obtain ⟨l', hl'⟩ : ∃ l' : Lf, l' = { l with data := data, ver := nv } := ⟨_, rfl⟩
        rw [← hl']
        have HPUT := Lib.hid (fun X (hX : Below w.heap.size w X) => show Calls Tryz.prog _ #[_, .agg #[.string ⟨l.path.toArray⟩, .slice DA data.length dc, .int .i64 (nv), .int .i64 l.own, .int .i64 l.next, .int .i64 l.born]] X (TDid (Lw F w) g (tWith l' t) (.tuple #[]) X) by
          have := put_any g t (Lw F w) l' DA dc FD X (HT.out.low.below hX) (by rw [hl']; exact HB.out.below hX) (by rw [hl']; exact hl64) (by rw [hl']; show data.length ≤ 1000; omega) hn
          rw [hl'] at this ⊢
          exact this)
        clear hl' hl64
        go_enter Tryz.func19, Tryz.ntmps19
        go_wp2_with fail
        refine HC.out.mono ?_
        rintro e w1 ⟨hb1, A, c, rfl, -⟩
        have HX := Lib.hid hb1
        clear hb1
        go_wp2_with (refine wpList_load_row rfl 50 _ rfl w1.heap.size rfl 50 #[.string ⟨l.path.toArray⟩, .slice A l.data.length c, .int .i64 l.ver, .int .i64 l.own, .int .i64 l.next, .int .i64 l.born] (0, 0) _ (Bk.new w1 50 [.string ⟨l.path.toArray⟩, .slice A l.data.length c, .int .i64 l.ver, .int .i64 l.own, .int .i64 l.next, .int .i64 l.born]) Tryz.underlying50 rfl info_leaf1 ?_)
        refine (HV.out A c _).mono ?_
        rintro e w2 ⟨rfl, hb2⟩
        have HX2 := Lib.hid ((HX.out.alloc HX.out.size _).trans (hb2.mono (by have := HX.out.size; simp; omega)))
        have hk2 := (Bk.new w1 50 [.string ⟨l.path.toArray⟩, .slice A l.data.length c, .int .i64 l.ver, .int .i64 l.own, .int .i64 l.next, .int .i64 l.born]).kept hb2
        have HS := Lib.hid HX.out.size
        clear hb2
        go_wp2_with (first
          | (refine wpList_store_cell rfl 32 _ _ rfl w1.heap.size 1 (.slice DA data.length dc) rfl rfl rfl rfl info_bytes1 50 _ hk2 (by simp) ?_; intro w3 hk3 hg3; have q3 : w3.cell? ⟨w1.heap.size, 2, none⟩ = some (.int .i64 l.ver) := hk3.out.at_ rfl)
          | (refine wpList_store_cell rfl 3 _ _ rfl w1.heap.size 2 (.int .i64 (nv)) rfl rfl rfl rfl info_int1 50 _ hk3.out (by simp) ?_; intro w4 hk4 hg4)
          | (refine wpList_load_row rfl 50 _ rfl w1.heap.size rfl 50 #[.string ⟨l.path.toArray⟩, .slice DA data.length dc, .int .i64 (nv), .int .i64 l.own, .int .i64 l.next, .int .i64 l.born] (0, 0) _ hk4.out Tryz.underlying50 rfl info_leaf1 ?_))
        have HX4 := Lib.hid ((HX2.out.grown hg3.out HX2.out.size (fun g hg => by injection hg with hg; have := HS.out; omega)).grown hg4.out (by have := HX2.out.size; have := hg3.out.size; omega) (fun g hg => by injection hg with hg; have := HS.out; omega))
        refine (HPUT.out w4 HX4.out).mono ?_
        rintro e w5 ⟨rfl, F', ht, hF, hc⟩
        have q5 : w5.cell? ⟨w1.heap.size, 2, none⟩ = some (.int .i64 (nv)) := (hc.bk hk4.out (fun h => by have := h.2; have := HS.out; omega)).at_ rfl
        have HR := Lib.hid (show TDid F g (tWith l' t) (.tuple #[.int .i64 (nv), .int .i64 0]) w (.returned (.tuple #[.int .i64 (nv), .int .i64 0])) w5 from
          ⟨rfl, F', ht, fun k hk => (hF k hk).elim (fun h => .inl h.1) (fun h => .inr (Nat.le_trans HX4.out.size h)), (Chg.of_below F HX4.out).trans hc fun k hk => .inl hk.1⟩)
        clear ht hF hc q3
        go_wp2_with fail
        go_ret2
        exact HR.out
  · replace HC := Lib.hid (show Calls _ _ _ _ (FndP F (none, n) w) by have := HC.out; rw [show (⟨q.toArray⟩ : ByteArray).data.toList = q from rfl, e] at this; exact this)
    rw [tSet_err e]
    have hb : (n != 0) = true := by rcases hn2 with rfl | rfl <;> rfl
    clear e hn2 hp
    go_enter Tryz.func19, Tryz.ntmps19
    go_wp2_with fail
    refine HC.out.mono ?_
    rintro e w1 ⟨hb1, rfl⟩
    have HX := Lib.hid (hb1.alloc hb1.size (.cells #[.string ⟨#[]⟩, .slice none 0 0, .int .i64 0, .int .i64 0, .int .i64 0, .int .i64 0] 50))
    clear hb1
    go_wp2_with fail
    go_ret2
    exact tdid_same _ HT.out HX.out
end Go.Proofs.YtgppclmofphlfaaGreatDoor
