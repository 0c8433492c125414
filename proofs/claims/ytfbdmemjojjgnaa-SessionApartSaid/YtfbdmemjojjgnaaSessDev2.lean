/-
  A session opened; a sign that has come. Walks; no statement.
-/
import Derived.Test.YtfbdmemjojjgnaaSessDev1
namespace Go.Proofs.Ytfbdmemjojjgnaa
set_option maxRecDepth 100000
open Go.RowKit
set_option linter.unusedVariables false
set_option maxRecDepth 100000

theorem sdid_same {F : Nat → Prop} {g : Nat} {t : List Se} {w w' : World} (r : Value) (hT : SeAt F w g t) (hb : Below w.heap.size w w') : SDid F g t r w (.returned r) w' :=
  ⟨rfl, F, hT.below hb, fun k h => .inl h, Chg.of_below F hb⟩
/-- a book whose map has been written -/
theorem sdid_map {F : Nat → Prop} {g b : Nat} {t t' : List Se} {w w3 w4 : World} (r : Value) (hT : SeAt F w g t) (hb : Below w.heap.size w w3) (hg : Bk w3 g 61 [.map (some b)]) (hF : F g ∧ F b) (hm : MpS w4 b t') (hi : ∃ es clock, w3.heap[b]? = some (.map es clock)) (h4 : w3.grownBy w4 (some b)) : SDid F g t' r w (.returned r) w4 := by
  have hne : g ≠ b := by
    rintro rfl
    obtain ⟨es, cl, hx⟩ := hi
    rw [show w3.heap[g]? = _ from hg] at hx
    cases hx
  refine ⟨rfl, F, ⟨b, hg.grown h4 (fun e => hne (Option.some.inj e)), hF.1, hF.2, hm⟩, fun k h => .inl h, ?_⟩
  exact (Chg.of_below F hb).grown h4 fun k e => by injection e with e; subst e; exact .inl hF.2
set_option maxHeartbeats 3200000 in
theorem openE_any (F : Nat → Prop) (g : Nat) (t : List Se) (x : Se) (w : World) (hT : SeAt F w g t) (hk : SOk t) :
    Calls Try.prog 14 #[.pointer (some ⟨g, 0, none⟩), .int .i64 x.client, .int .i64 x.span, .int .i64 x.seen] w (SDid F g (seOpen x t).1 (.int .i64 (seOpen x t).2) w) := by
  obtain ⟨W1, hW1⟩ : ∃ W1, W1 = w.alloc (.cells #[.int .i64 x.client, .int .i64 x.span, .int .i64 x.seen] 36) := ⟨_, rfl⟩
  have HB1 := Lib.hid (show Below w.heap.size w W1 by rw [hW1]; exact (Below.refl w.heap.size w).alloc (Nat.le_refl _) _)
  have HK1 := Lib.hid (show Bk W1 w.heap.size 36 [.int .i64 x.client, .int .i64 x.span, .int .i64 x.seen] by rw [hW1]; exact Bk.new w 36 [.int .i64 x.client, .int .i64 x.span, .int .i64 x.seen])
  have HR := Lib.hid (isRightE_any x W1)
  have HWE := Lib.hid hW1
  have HT := Lib.hid hT
  have HL := Lib.hid (fun W (hW : SeAt F W g t) hw => liveE_any F g t x.client W hW hk hw)
  have HKK := Lib.hid hk
  clear hT hW1 hk
  cases hr : seRight x with
  | false =>
    rw [show seOpen x t = (t, 120) by simp [seOpen, hr]]
    rw [hr] at HR
    clear hr HL
    go_enter Try.func14, Try.ntmps14
    go_wp2_with fail
    rw [← HWE.out]
    go_wp2_with (refine wpList_load_row rfl 36 _ rfl w.heap.size rfl 36 #[.int .i64 x.client, .int .i64 x.span, .int .i64 x.seen] (0, 0) _ HK1.out Try.underlying36 rfl info_sess3 ?_)
    refine HR.out.mono ?_
    rintro e w2 ⟨rfl, hb2⟩
    have HB2 := Lib.hid (HB1.out.trans (hb2.mono HB1.out.size))
    clear hb2
    go_wp2_with fail
    go_ret
    exact sdid_same _ HT.out HB2.out
  | true =>
    have HW := Lib.hid (seRight_wf hr)
    have HRR := Lib.hid hr
    rw [hr] at HR
    cases hl : seLive x.client t with
    | true =>
      rw [show seOpen x t = (t, 101) by simp [seOpen, hr, hl]]
      rw [hl] at HL
      clear hr hl
      go_enter Try.func14, Try.ntmps14
      go_wp2_with fail
      rw [← HWE.out]
      go_wp2_with (refine wpList_load_row rfl 36 _ rfl w.heap.size rfl 36 #[.int .i64 x.client, .int .i64 x.span, .int .i64 x.seen] (0, 0) _ HK1.out Try.underlying36 rfl info_sess3 ?_)
      refine HR.out.mono ?_
      rintro e w2 ⟨rfl, hb2⟩
      have HB2 := Lib.hid (HB1.out.trans (hb2.mono HB1.out.size))
      clear hb2
      go_wp2_with fail
      refine (HL.out w2 (HT.out.below HB2.out) HW.out).mono ?_
      rintro e w3 ⟨rfl, hb3⟩
      have HB3 := Lib.hid (HB2.out.trans (hb3.mono HB2.out.size))
      clear hb3
      go_wp2_with fail
      go_ret
      exact sdid_same _ HT.out HB3.out
    | false =>
      rw [show seOpen x t = (seIns x t, 0) by simp [seOpen, hr, hl]]
      have HN := Lib.hid (filter_none (seLive_false hl))
      rw [hl] at HL
      clear hr hl
      go_enter Try.func14, Try.ntmps14
      go_wp2_with fail
      rw [← HWE.out]
      go_wp2_with (refine wpList_load_row rfl 36 _ rfl w.heap.size rfl 36 #[.int .i64 x.client, .int .i64 x.span, .int .i64 x.seen] (0, 0) _ HK1.out Try.underlying36 rfl info_sess3 ?_)
      refine HR.out.mono ?_
      rintro e w2 ⟨rfl, hb2⟩
      have HB2 := Lib.hid (HB1.out.trans (hb2.mono HB1.out.size))
      have HK2 := Lib.hid (HK1.out.kept hb2)
      clear hb2
      go_wp2_with fail
      refine (HL.out w2 (HT.out.below HB2.out) HW.out).mono ?_
      rintro e w3 ⟨rfl, hb3⟩
      have HB3 := Lib.hid (HB2.out.trans (hb3.mono HB2.out.size))
      have hk3 := HK2.out.kept hb3
      obtain ⟨b, hkg, hFg, hFb, hm⟩ := HT.out.below HB3.out
      obtain ⟨w4, hrun, hm4, hg4⟩ := (show MpS w3.drew b t from hm).store x HW.out (by have := HKK.out.len; omega)
      rw [HN.out] at hm4
      have HM4 := Lib.hid hm4
      have HG4 := Lib.hid (show w3.drew.grownBy w4 (some b) from hg4)
      have HIM := Lib.hid hm.isMap
      have HKG := Lib.hid hkg
      have HFF := Lib.hid (show F g ∧ F b from ⟨hFg, hFb⟩)
      have g0 : w3.cell? ⟨g, 0, none⟩ = some (.map (some b)) := hkg.at_ rfl
      have q0 : w3.cell? ⟨w.heap.size, 0, none⟩ = some (.int .i64 x.client) := hk3.at_ rfl
      have q1 : w3.cell? ⟨w.heap.size, 1, none⟩ = some (.int .i64 x.span) := hk3.at_ rfl
      have q2 : w3.cell? ⟨w.heap.size, 2, none⟩ = some (.int .i64 x.seen) := hk3.at_ rfl
      have hrd : (Instr.mapUpdate 59 (.map (some b)) (.int .i64 x.client) (.agg #[.int .i64 x.client, .int .i64 x.span, .int .i64 x.seen])).run Try.prog w3.drew = .ok () w4 := hrun
      clear hb3 hkg hFg hFb hm hrun hm4 hg4 hk3
      go_wp2_with fail
      go_region
      all_goals
        go_wp2_with fail
        go_ret
        exact sdid_map _ HT.out (below_drewN HB3.out 1) HKG.out HFF.out HM4.out HIM.out HG4.out
set_option maxHeartbeats 3200000 in
theorem touchE_any (F : Nat → Prop) (g : Nat) (t : List Se) (cl now : Int) (w : World) (hT : SeAt F w g t) (hk : SOk t) (hw : (Lit.int .i64 cl).wf = true) :
    Calls Try.prog 16 #[.pointer (some ⟨g, 0, none⟩), .int .i64 cl, .int .i64 now] w (SDid F g (seTouch cl now t).1 (.int .i64 (seTouch cl now t).2) w) := by
  have HT := Lib.hid hT
  have HKK := Lib.hid hk
  have HTI := Lib.hid (fun W => isTimeE_any now W)
  obtain ⟨b, hkg, hFg, hFb, hm⟩ := hT
  have g0 : w.cell? ⟨g, 0, none⟩ = some (.map (some b)) := hkg.at_ rfl
  have HW := Lib.hid hw
  cases hl : seLive cl t with
  | false =>
    rw [show seTouch cl now t = (t, 120) by simp [seTouch, hl]]
    have hlk : (Instr.lookup 59 (.map (some b)) (.int .i64 cl) true).run Try.prog w = .ok (.tuple #[.agg #[.int .i64 0, .int .i64 0, .int .i64 0], .bool false]) w := hm.look_no true (seLive_false hl) hw
    have HBA := Lib.hid ((Below.refl w.heap.size w).alloc (Nat.le_refl _) (.cells #[.int .i64 0, .int .i64 0, .int .i64 0] 36))
    clear hkg hFg hFb hm hl hk hw
    go_enter Try.func16, Try.ntmps16
    go_wp2_with fail
    go_ret
    exact sdid_same _ HT.out HBA.out
  | true =>
    obtain ⟨x, hx, rfl⟩ := seLive_mem hl
    have hlk : (Instr.lookup 59 (.map (some b)) (.int .i64 x.client) true).run Try.prog w = .ok (.tuple #[.agg #[.int .i64 x.client, .int .i64 x.span, .int .i64 x.seen], .bool true]) w := hm.look_yes hk.1 true hx hw
    obtain ⟨W1, hW1⟩ : ∃ W1, W1 = w.alloc (.cells #[.int .i64 x.client, .int .i64 x.span, .int .i64 x.seen] 36) := ⟨_, rfl⟩
    have HBA := Lib.hid (show Below w.heap.size w W1 by rw [hW1]; exact (Below.refl w.heap.size w).alloc (Nat.le_refl _) _)
    have HK1 := Lib.hid (show Bk W1 w.heap.size 36 [.int .i64 x.client, .int .i64 x.span, .int .i64 x.seen] by rw [hW1]; exact Bk.new w 36 [.int .i64 x.client, .int .i64 x.span, .int .i64 x.seen])
    have HWE := Lib.hid hW1
    clear hW1
    cases ht : decide (0 ≤ now ∧ now < 1099511627776) with
    | false =>
      rw [show seTouch x.client now t = (t, 120) by
        have := of_decide_eq_false ht
        unfold seTouch
        rw [if_neg (fun q => this q.2)]]
      rw [ht] at HTI
      clear hkg hFg hFb hm hl hk hw ht hx
      go_enter Try.func16, Try.ntmps16
      go_wp2_with (first | (go_at_call 29; refine (HTI.out _).mono ?_; rintro e w' ⟨rfl, rfl⟩))
      go_ret
      rw [← HWE.out]
      exact sdid_same _ HT.out HBA.out
    | true =>
      rw [show seTouch x.client now t = (seTouched x.client now t, 0) by
        have := of_decide_eq_true ht
        unfold seTouch
        rw [if_pos ⟨hl, this⟩]]
      have HPT := Lib.hid (seTouched_put (now := now) hk.1 hx)
      rw [ht] at HTI
      clear hkg hFg hFb hm hl hk hw ht hx
      go_enter Try.func16, Try.ntmps16
      go_wp2_with fail
      rw [← HWE.out]
      refine (HTI.out _).mono ?_
      rintro e w2 ⟨rfl, rfl⟩
      obtain ⟨mx, hmx⟩ : ∃ mx, mx = max x.seen now := ⟨_, rfl⟩
      have hmax : ∀ (ts : Array TypeId) (t : TypeId) (W : World), (Builtin.max_ ts t #[.int .i64 x.seen, .int .i64 now]).run Try.prog W = .ok (.int .i64 mx) W := fun ts t W => by
        rw [run_max_int2]
        have : (if x.seen < now then now else x.seen) = mx := by rw [hmx]; split <;> omega
        rw [this]
      rw [← hmx] at HPT
      have q2 : w2.cell? ⟨w.heap.size, 2, none⟩ = some (.int .i64 x.seen) := HK1.out.at_ rfl
      have z2 : w2.frozen? ⟨w.heap.size, 2, none⟩ = false := HK1.out.frozen 2
      clear hmx
      go_upto_region 5 with fail
      have g1 := grown_set (grown_refl w2 (some w.heap.size)) 2 (.int .i64 mx)
      have HB3 := Lib.hid (HBA.out.grown g1 HBA.out.size (fun k hk => by injection hk with hk; omega))
      have hk3 := HK1.out.set 2 (.int .i64 mx)
      obtain ⟨w3, hw3⟩ : ∃ w3, w3 = w2.setCell ⟨w.heap.size, 2, none⟩ (.int .i64 mx) := ⟨_, rfl⟩
      rw [← hw3] at HB3 hk3 ⊢
      obtain ⟨b2, hkg, hFg, hFb, hm⟩ := HT.out.below HB3.out
      obtain ⟨w4, hrun, hm4, hg4⟩ := (show MpS w3.drew b2 t from hm).store { x with seen := mx } HW.out (by have := HKK.out.len; omega)
      rw [HPT.out] at hm4
      have HM4 := Lib.hid hm4
      have HG4 := Lib.hid (show w3.drew.grownBy w4 (some b2) from hg4)
      have HIM := Lib.hid hm.isMap
      have HKG := Lib.hid hkg
      have HFF := Lib.hid (show F g ∧ F b2 from ⟨hFg, hFb⟩)
      have g0 : w3.cell? ⟨g, 0, none⟩ = some (.map (some b2)) := hkg.at_ rfl
      have q0 : w3.cell? ⟨w.heap.size, 0, none⟩ = some (.int .i64 x.client) := hk3.at_ rfl
      have q1 : w3.cell? ⟨w.heap.size, 1, none⟩ = some (.int .i64 x.span) := hk3.at_ rfl
      have q2 : w3.cell? ⟨w.heap.size, 2, none⟩ = some (.int .i64 mx) := hk3.at_ rfl
      have hrd : (Instr.mapUpdate 59 (.map (some b2)) (.int .i64 x.client) (.agg #[.int .i64 x.client, .int .i64 x.span, .int .i64 mx])).run Try.prog w3.drew = .ok () w4 := hrun
      clear hkg hFg hFb hm hrun hm4 hg4 hk3 g1 hw3 hmax z2
      go_region
      all_goals
        go_wp2_with fail
        go_ret
        exact sdid_map _ HT.out (below_drewN HB3.out 1) HKG.out HFF.out HM4.out HIM.out HG4.out
end Go.Proofs.Ytfbdmemjojjgnaa
