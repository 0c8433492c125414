/-
  The reference's Get. Walks; no statement.
-/
import Derived.Test.YtgppclmofphlfaaGreatDoorTreeRef3
import Derived.Test.YtgppclmofphlfaaGreatDoorMPathR
import Derived.Test.YtgppclmofphlfaaGreatDoorMRows
namespace Go.Proofs.YtgppclmofphlfaaGreatDoor
set_option maxRecDepth 100000
open Go.RowKit
set_option linter.unusedVariables false

theorem RdS.one {F : Nat → Prop} {w : World} {x : Addr} {c k : Nat} {ls : List Lf} {l : Lf} (h : RdS RLf F w (some x) c ls) (hk : ls[k]? = some l) : RdS RLf F w (some (x.add (k * 6))) (c - k) [l] := by
  have hl : k < ls.length := (List.getElem?_eq_some_iff.1 hk).1
  have h1 := h.1
  refine ⟨by simp; omega, by have := h.2.1; omega, (fun e => by cases e), fun j y hy => ?_⟩
  cases j with
  | succ j => simp at hy
  | zero =>
    obtain rfl : l = y := by simpa using hy
    obtain ⟨a, cs, e, hF, hb, hc, hr⟩ := h.2.2.2 k l hk
    obtain rfl := Option.some.inj e
    exact ⟨_, cs, rfl, by rw [add_block]; exact hF, by rw [add_block]; exact hb, fun j u hu => by rw [Nat.zero_mul, Nat.zero_add, add_plus]; exact hc j u hu, hr⟩
set_option maxHeartbeats 3200000 in
theorem refGet_any (p : ByteArray) (A : Option Addr) (c : Nat) (t : List Lf) (F : Nat → Prop) (w : World) (hp : p.size ≤ maxLen) (h : RdS RLf F w A c t) (hn : lfsBig t) :
    Calls Tryz.prog 23 #[.agg #[.slice A t.length c], .string p] w (GetP (tGet p.data.toList t) w) := by
  obtain ⟨q, rfl⟩ : ∃ l : List UInt8, p = ⟨l.toArray⟩ := ⟨p.data.toList, (sv_of p).symm⟩
  show Calls _ _ _ _ (GetP (tGet q t) w)
  have hml : t.length ≤ maxLen := Nat.le_trans h.1 h.2.1
  simp only [maxLen] at hml
  obtain ⟨W2, hW2⟩ : ∃ W2, W2 = (w.alloc (.cells #[.slice A t.length c] 30)).alloc (.cells #[.string ⟨#[]⟩, .slice none 0 0, .int .i64 0, .int .i64 0, .int .i64 0, .int .i64 0] 50) := ⟨_, rfl⟩
  have HB2 := Lib.hid (show Below w.heap.size w W2 by rw [hW2]; exact ((Below.refl w.heap.size w).alloc (Nat.le_refl _) _).alloc (by simp) _)
  have HS2 := Lib.hid (show W2.heap.size = w.heap.size + 2 by rw [hW2]; simp)
  have hk0 : Bk W2 w.heap.size 30 [.slice A t.length c] := by rw [hW2]; exact (Bk.new w 30 [.slice A t.length c]).alloc _
  have hk1 : Bk W2 (w.heap.size + 1) 50 [.string ⟨#[]⟩, .slice none 0 0, .int .i64 0, .int .i64 0, .int .i64 0, .int .i64 0] := by
    rw [hW2]
    have := Bk.new (w.alloc (.cells #[.slice A t.length c] 30)) 50 [.string ⟨#[]⟩, .slice none 0 0, .int .i64 0, .int .i64 0, .int .i64 0, .int .i64 0]
    rw [show (w.alloc (.cells #[.slice A t.length c] 30)).heap.size = w.heap.size + 1 by simp] at this
    exact this
  have HKW := Lib.hid (fun X (hb : Below (w.heap.size + 2) W2 X) => show X.cell? ⟨w.heap.size, 0, none⟩ = some (.slice A t.length c) ∧ Bk X (w.heap.size + 1) 50 [.string ⟨#[]⟩, .slice none 0 0, .int .i64 0, .int .i64 0, .int .i64 0, .int .i64 0] ∧ w.heap.size + 2 ≤ X.heap.size ∧ Below w.heap.size w X from
    ⟨(hk0.below hb (by omega)).at_ rfl, hk1.below hb (by omega), by have := hb.size; have := HS2.out; omega, HB2.out.trans (hb.mono (by omega))⟩)
  have HWE := Lib.hid hW2
  have HC := Lib.hid (fun W => refCheck_any ⟨q.toArray⟩ W hp)
  have HA := Lib.hid (fun W (hb : Below w.heap.size w W) => show Calls _ _ _ _ (Tells (.int .i64 (atI (tAt q t))) W) from refAt_any ⟨q.toArray⟩ A c t F W (h.below hb))
  have HR := Lib.hid h
  have HN := Lib.hid hn
  clear h hn hp hk0 hk1 hW2
  rcases Option.eq_none_or_eq_some (partsOf q) with e | ⟨up, e⟩
  · have HV := Lib.hid (show tGet q t = (none, 90) by unfold tGet; rw [e]; rfl)
    replace HC := Lib.hid (fun W => show Calls _ _ _ _ (Ans (.int .i64 90) W) by have := HC.out W; rw [show (⟨q.toArray⟩ : ByteArray).data.toList = q from rfl, e] at this; exact this)
    clear e
    go_enter Tryz.func23, Tryz.ntmps23
    go_wp2_with fail
    rw [← HWE.out]
    refine (HC.out _).mono ?_
    rintro e w1 ⟨rfl, hb1⟩
    have hbx1 : Below (w.heap.size + 2) W2 w1 := by have := HS2.out; rw [← this]; exact hb1
    clear hb1
    obtain ⟨j0, kb, hs, hbw⟩ := HKW.out w1 hbx1
    go_wp2_with (refine wpList_store_bkT rfl 50 _ _ rfl (w.heap.size + 1) [.string ⟨#[]⟩, .slice none 0 0, .int .i64 0, .int .i64 0, .int .i64 0, .int .i64 0] rfl rfl 50 [.string ⟨#[]⟩, .slice none 0 0, .int .i64 0, .int .i64 0, .int .i64 0, .int .i64 0] kb rfl info_leaf1 rfl ?_; intro w99 hk99 hg99)
    refine bodyPost_ret_by (results_row_tmp rfl _ _ (w.heap.size + 1) 50 _ _ rfl hk99.out Tryz.underlying50 rfl info_leaf1) rfl ?_
    rw [HV.out]
    exact ⟨hbw.grown hg99.out hbw.size (fun g hg => by injection hg with hg; omega), rfl⟩
  · replace HC := Lib.hid (fun W => show Calls _ _ _ _ (Ans (.int .i64 0) W) by have := HC.out W; rw [show (⟨q.toArray⟩ : ByteArray).data.toList = q from rfl, e] at this; exact this)
    cases hat : tAt q t with
    | none =>
      have HV := Lib.hid (show tGet q t = (none, 100) by unfold tGet; rw [e, hat]; rfl)
      rw [hat] at HA
      replace HA := Lib.hid (fun W hb => show Calls _ _ _ _ (Tells (.int .i64 (-1)) W) from HA.out W hb)
      clear e hat
      go_enter Tryz.func23, Tryz.ntmps23
      go_wp2_with fail
      rw [← HWE.out]
      refine (HC.out _).mono ?_
      rintro e w1 ⟨rfl, hb1⟩
      have hbx1 : Below (w.heap.size + 2) W2 w1 := by have := HS2.out; rw [← this]; exact hb1
      clear hb1
      obtain ⟨j0, kb, hs, hbw⟩ := HKW.out w1 hbx1
      go_wp2_with fail
      refine (HA.out _ hbw).mono ?_
      rintro e w2 ⟨rfl, hb2⟩
      have hbx2 := below_next hbx1 hb2 (by omega)
      clear hb2 j0 kb hs hbw
      obtain ⟨j0, kb, hs, hbw⟩ := HKW.out w2 hbx2
      go_wp2_with (refine wpList_store_bkT rfl 50 _ _ rfl (w.heap.size + 1) [.string ⟨#[]⟩, .slice none 0 0, .int .i64 0, .int .i64 0, .int .i64 0, .int .i64 0] rfl rfl 50 [.string ⟨#[]⟩, .slice none 0 0, .int .i64 0, .int .i64 0, .int .i64 0, .int .i64 0] kb rfl info_leaf1 rfl ?_; intro w99 hk99 hg99)
      refine bodyPost_ret_by (results_row_tmp rfl _ _ (w.heap.size + 1) 50 _ _ rfl hk99.out Tryz.underlying50 rfl info_leaf1) rfl ?_
      rw [HV.out]
      exact ⟨hbw.grown hg99.out hbw.size (fun g hg => by injection hg with hg; omega), rfl⟩
    | some k =>
      obtain ⟨a, hka, hpa⟩ := tAt_is hat
      have HV := Lib.hid (show tGet q t = (some a, 0) by unfold tGet; rw [e, hat]; simp [List.getD, hka])
      rw [hat] at HA
      replace HA := Lib.hid (fun W hb => show Calls _ _ _ _ (Tells (.int .i64 (k : Int)) W) from HA.out W hb)
      have hkl : k < t.length := (List.getElem?_eq_some_iff.1 hka).1
      have hkc : t.length ≤ c := HR.out.1
      have hcm : c ≤ maxLen := HR.out.2.1
      simp only [maxLen] at hcm
      obtain ⟨y, PA, PC, rfl, hyb, -⟩ := HR.out.lf6 hka
      have HCL := Lib.hid (fun W (hb : Below w.heap.size w W) => copyLeaves_any (some (y.add (k * 6))) (c - k) [a] F W ((HR.out.below hb).one hka) ⟨by simp, fun l hl => by obtain rfl := List.mem_singleton.1 hl; exact HN.out.2 _ (List.mem_of_getElem? hka)⟩)
      have y1 : (0 : Int) ≤ (k : Int) := by omega
      have y2 : (k : Int) < (t.length : Int) := by omega
      have y3 : IntKind.i64.wrap ((k : Int) + 1) = (k : Int) + 1 := by simp only [IntKind.wrap, IntKind.bits, IntKind.signed]; simp; omega
      clear e hat hka hpa hyb
      go_enter Tryz.func23, Tryz.ntmps23
      go_wp2_with fail
      rw [← HWE.out]
      refine (HC.out _).mono ?_
      rintro e w1 ⟨rfl, hb1⟩
      have hbx1 : Below (w.heap.size + 2) W2 w1 := by have := HS2.out; rw [← this]; exact hb1
      clear hb1
      obtain ⟨j0, kb, hs, hbw⟩ := HKW.out w1 hbx1
      go_wp2_with fail
      refine (HA.out _ hbw).mono ?_
      rintro e w2 ⟨rfl, hb2⟩
      have hbx2 := below_next hbx1 hb2 (by omega)
      clear hb2 j0 kb hs hbw
      obtain ⟨j0, kb, hs, hbw⟩ := HKW.out w2 hbx2
      go_wp2_with fail
      refine (HCL.out _ hbw).mono ?_
      rintro e w3 ⟨A3, c3, rfl, hr3, hb3⟩
      have hbx3 := below_next hbx2 hb3 (by omega)
      have hs2 : w.heap.size + 2 ≤ w2.heap.size := hs
      clear hb3 j0 kb hs hbw
      obtain ⟨j0, kb, hs, hbw⟩ := HKW.out w3 hbx3
      obtain ⟨y4, B3, d3, rfl, hyb3, u0, u1, u2, u3, u4, u5, hbf⟩ := hr3.lf6 (k := 0) (l := a) rfl
      have ya : y4.add (0 * 6) = y4 := by rw [Nat.zero_mul]; unfold Addr.add; split <;> simp_all
      rw [ya] at u0 u1 u2 u3 u4 u5
      have HBF := Lib.hid hbf
      clear hr3 hyb3 hbf ya
      go_wp2_with (refine wpList_store_bkT rfl 50 _ _ rfl (w.heap.size + 1) (lfC a B3 d3) rfl rfl 50 [.string ⟨#[]⟩, .slice none 0 0, .int .i64 0, .int .i64 0, .int .i64 0, .int .i64 0] kb rfl info_leaf1 rfl ?_; intro w99 hk99 hg99)
      refine bodyPost_ret_by (results_row_tmp rfl _ _ (w.heap.size + 1) 50 _ _ rfl hk99.out Tryz.underlying50 rfl info_leaf1) rfl ?_
      rw [HV.out]
      exact ⟨hbw.grown hg99.out hbw.size (fun g hg => by injection hg with hg; omega), B3, d3, rfl, bf_from (bf_set HBF.out hg99.out fun b hb => by unfold From at hb; omega) (by omega)⟩
end Go.Proofs.YtgppclmofphlfaaGreatDoor
