/-
  All nodes anew. Walks; no statement.
-/
import Derived.Test.YtgppclmofphlfaaGreatDoorTreeDev7
import Derived.Test.YtgppclmofphlfaaGreatDoorTreeMake
namespace Go.Proofs.YtgppclmofphlfaaGreatDoor
set_option maxRecDepth 100000
open Go.RowKit
set_option linter.unusedVariables false

/-- may the node at place k come next? -/
def tStep (xs : List Lf) (k : Nat) : Bool :=
  let l := xs.getD k lfRoot
  if k = 0 then lfRooty l && lfFit l else Op.bytesLess (xs.getD (k - 1) lfRoot).path l.path && (lfFit l && tMay l.path (xs.take k))
/-- what Load answers -/
def tTakes (xs : List Lf) : Bool := decide (1 ≤ xs.length ∧ xs.length ≤ 32) && (List.range xs.length).all (tStep xs)
theorem takes_no {xs : List Lf} {k : Nat} (hk : k < xs.length) (h : tStep xs k = false) : tTakes xs = false := by
  unfold tTakes
  have : (List.range xs.length).all (tStep xs) = false := by
    rw [List.all_eq_false]
    exact ⟨k, List.mem_range.2 hk, by rw [h]; simp⟩
  rw [this, Bool.and_false]
theorem may_le {p : List UInt8} {t : List Lf} (h : tMay p t = true) : p.length ≤ 64 := by
  unfold tMay at h
  cases hp : parentP p with
  | none => rw [hp] at h; cases h
  | some up => exact parent_le hp
/-- behind all others -/
theorem tWith_end {x : Lf} : ∀ {t : List Lf}, (∀ y ∈ t, lb y.path x.path) → tWith x t = t ++ [x]
  | [], _ => rfl
  | y :: r, h => by
    have hy := h y List.mem_cons_self
    have ih := tWith_end (x := x) (t := r) fun z hz => h z (List.mem_cons_of_mem _ hz)
    show tGo x false (y :: r) = _
    unfold tGo
    rw [if_neg (lb_ne hy), if_neg (fun hh => lb_asym hy hh.2)]
    show y :: tWith x r = _
    rw [ih]; rfl
theorem run_leq_str (W : World) (a b : List UInt8) : (binOp .leq 9 (.string ⟨a.toArray⟩) (.string ⟨b.toArray⟩)).run Tryz.prog W = .ok (.bool (Op.bytesLess a b || a == b)) W := by
  have h : ∀ l : List UInt8, (⟨l.toArray⟩ : ByteArray).toList = l := fun l => by rw [Lib.toList_data]
  simp [binOp, Op.stringOp, h]
theorem leq_not (a b : List UInt8) : (Op.bytesLess a b || a == b) = !(Op.bytesLess b a) := by
  by_cases e : a = b
  · subst e
    rw [show Op.bytesLess a a = false from Bool.eq_false_iff.2 (lb_irr a)]; simp
  · have hb : (a == b) = false := by simpa using e
    rw [hb, Bool.or_false]
    rcases lb_total a b e with h | h
    · rw [show Op.bytesLess a b = true from h, show Op.bytesLess b a = false from Bool.eq_false_iff.2 (lb_asym h)]; rfl
    · rw [show Op.bytesLess b a = true from h, show Op.bytesLess a b = false from Bool.eq_false_iff.2 (lb_asym h)]; rfl
theorem load_end {F F' : Nat → Prop} {w wr : World} {g g3 : Nat} {t xs : List Lf} (r : Value) (hT : TreeAt F w g t) (hb : Below w.heap.size w wr) (hL : TreeAt F' wr g3 xs) (hlo : ∀ k, F' k → w.heap.size ≤ k) :
    ∃ b0 b, wr.cell? ⟨g3, 0, none⟩ = some (.map (some b)) ∧ wr.cell? ⟨g, 0, none⟩ = some (.map (some b0)) ∧ wr.frozen? ⟨g, 0, none⟩ = false ∧ TDid F g xs r w (.returned r) (wr.setCell ⟨g, 0, none⟩ (.map (some b))) := by
  have hgl := hT.lt
  obtain ⟨b0, k0, fg, fb0, -⟩ := hT.low.below hb
  obtain ⟨b, k1, fg3, fb, hm⟩ := hL
  refine ⟨b0, b, k1.at_ rfl, k0.at_ rfl, k0.frozen 0, rfl, fun k => k = g ∨ F' k, ⟨b, k0.set 0 _, .inl rfl, .inr fb, ?_⟩, ?_, ?_⟩
  · refine (hm.chg ((Chg.refl (· = g) wr).set (.inl rfl) 0 (.map (some b))) (fun e => by have := hlo b fb; omega) fun k hk _ e => by have := hlo k hk; omega).more fun k hk _ => .inr hk
  · rintro k (rfl | hk)
    · exact .inl fg.1
    · exact .inr (hlo k hk)
  · exact (Chg.of_below F hb).set (.inl fg.1) 0 _
set_option maxHeartbeats 6400000 in
theorem load_any (g : Nat) (t : List Lf) (F : Nat → Prop) (A : Option Addr) (c : Nat) (xs : List Lf) (G : Nat → Prop) (w : World) (hE : Env w) (hT : TreeAt F w g t) (hR : RdS RLf G w A c xs) :
    Calls Tryz.prog 34 #[.pointer (some ⟨g, 0, none⟩), .slice A xs.length c] w (TDid F g (if tTakes xs then xs else t) (.bool (tTakes xs)) w) := by
  by_cases h1 : xs.length < 1
  · have hv : tTakes xs = false := by unfold tTakes; rw [decide_eq_false (by omega)]; rfl
    rw [hv]
    have y1 : (xs.length : Int) < 1 := by omega
    have HT := Lib.hid hT
    clear hT hE hR h1 hv
    go_enter Tryz.func34, Tryz.ntmps34
    go_wp2_with fail
    go_ret
    exact tdid_same _ HT.out (Below.refl _ _)
  by_cases h2 : 32 < xs.length
  · have hv : tTakes xs = false := by unfold tTakes; rw [decide_eq_false (by omega)]; rfl
    rw [hv]
    have y1 : ¬ (xs.length : Int) < 1 := by omega
    have y2 : (32 : Int) < (xs.length : Int) := by omega
    have HT := Lib.hid hT
    clear hT hE hR h1 h2 hv
    go_enter Tryz.func34, Tryz.ntmps34
    go_wp2_with fail
    go_ret
    exact tdid_same _ HT.out (Below.refl _ _)
  obtain ⟨x0, hx0⟩ : ∃ x, xs[0]? = some x := ⟨_, List.getElem?_eq_getElem (by omega)⟩
  obtain ⟨y, XA, XC, rfl, hyb, u0, u1, u2, u3, u4, u5, hxd⟩ := hR.lf6 hx0
  have hy0 : y.add (0 * 6) = y := by unfold Addr.add; simp
  rw [hy0] at u0 u1 u2 u3 u4 u5
  have y1 : ¬ (xs.length : Int) < 1 := by omega
  have y2 : ¬ (32 : Int) < (xs.length : Int) := by omega
  have y3 : (0 : Int) < (xs.length : Int) := by omega
  have hg0 : xs.getD 0 lfRoot = x0 := by rw [List.getD_eq_getElem?_getD, hx0]; rfl
  have HR0 := Lib.hid (fun X => isRoot_any x0 XA XC X)
  have HF0 := Lib.hid (fun X => isRight_any x0 XA XC X)
  have HT := Lib.hid hT
  have HE := Lib.hid hE
  have HR := Lib.hid hR
  have HL := Lib.hid (And.intro (show 1 ≤ xs.length by omega) (show xs.length ≤ 32 by omega))
  have HXD := Lib.hid hxd
  clear hT hE hR hxd
  cases b1 : lfRooty x0 with
  | false =>
    have hv : tTakes xs = false := takes_no (k := 0) (by omega) (by unfold tStep; rw [if_pos rfl, hg0, b1]; rfl)
    rw [hv]
    rw [b1] at HR0
    clear hv h1 h2 hx0 hg0
    go_enter Tryz.func34, Tryz.ntmps34
    go_wp2_with fail
    refine (HR0.out _).mono ?_
    rintro e w1 ⟨rfl, hb1⟩
    go_wp2_with fail
    go_ret
    exact tdid_same _ HT.out hb1
  | true =>
  cases b2 : lfFit x0 with
  | false =>
    have hv : tTakes xs = false := takes_no (k := 0) (by omega) (by unfold tStep; rw [if_pos rfl, hg0, b1, b2]; rfl)
    rw [hv]
    rw [b1] at HR0
    rw [b2] at HF0
    clear hv h1 h2 hx0 hg0
    go_enter Tryz.func34, Tryz.ntmps34
    go_wp2_with fail
    refine (HR0.out _).mono ?_
    rintro e w1 ⟨rfl, hb1⟩
    replace u0 := cell_kept u0 hb1
    replace u1 := cell_kept u1 hb1
    replace u2 := cell_kept u2 hb1
    replace u3 := cell_kept u3 hb1
    replace u4 := cell_kept u4 hb1
    replace u5 := cell_kept u5 hb1
    have HB1 := Lib.hid hb1
    clear hb1
    go_wp2_with fail
    refine (HF0.out _).mono ?_
    rintro e w2 ⟨rfl, hb2⟩
    have HB2 := Lib.hid (HB1.out.trans (hb2.mono HB1.out.size))
    clear hb2
    go_wp2_with fail
    go_ret
    exact tdid_same _ HT.out HB2.out
  | true =>
    have HS0 := Lib.hid (show tStep xs 0 = true by unfold tStep; rw [if_pos rfl, hg0, b1, b2]; rfl)
    have HX0 := Lib.hid (show x0.path = [47] by unfold lfRooty at b1; simp at b1; exact b1.1)
    have HD0 := Lib.hid (show x0.data.length ≤ 128 by unfold lfFit at b2; simp at b2; exact b2.2.2)
    have HT1 := Lib.hid (show xs.take 1 = [x0] by
      cases xs with
      | nil => cases hx0
      | cons z zs =>
        have : z = x0 := Option.some.inj hx0
        rw [this]; rfl)
    rw [b1] at HR0
    rw [b2] at HF0
    have HNO := Lib.hid (show ∀ r v, r = (if tTakes xs = true then xs else t) → v = tTakes xs → tTakes xs = false → r = t ∧ v = false from fun r v e1 e2 e => by rw [e1, e2, e]; exact ⟨rfl, rfl⟩)
    have HYES := Lib.hid (show ∀ r v, r = (if tTakes xs = true then xs else t) → v = tTakes xs → tTakes xs = true → r = xs ∧ v = true from fun r v e1 e2 e => by rw [e1, e2, e]; exact ⟨rfl, rfl⟩)
    obtain ⟨tr, htr⟩ : ∃ r, r = (if tTakes xs = true then xs else t) := ⟨_, rfl⟩
    obtain ⟨tv, htv⟩ : ∃ v, v = tTakes xs := ⟨_, rfl⟩
    rw [← htr, ← htv]
    replace HNO := Lib.hid (HNO.out tr tv htr htv)
    replace HYES := Lib.hid (HYES.out tr tv htr htv)
    clear h1 h2 hx0 hg0 b1 b2 htr htv
    go_enter Tryz.func34, Tryz.ntmps34
    go_wp2_with fail
    refine (HR0.out _).mono ?_
    rintro e w1 ⟨rfl, hb1⟩
    replace u0 := cell_kept u0 hb1
    replace u1 := cell_kept u1 hb1
    replace u2 := cell_kept u2 hb1
    replace u3 := cell_kept u3 hb1
    replace u4 := cell_kept u4 hb1
    replace u5 := cell_kept u5 hb1
    have HB1 := Lib.hid hb1
    clear hb1
    go_wp2_with fail
    refine (HF0.out _).mono ?_
    rintro e w2 ⟨rfl, hb2⟩
    have HB2 := Lib.hid (HB1.out.trans (hb2.mono HB1.out.size))
    replace u0 := cell_kept u0 hb2
    replace u1 := cell_kept u1 hb2
    replace u2 := cell_kept u2 hb2
    replace u3 := cell_kept u3 hb2
    replace u4 := cell_kept u4 hb2
    replace u5 := cell_kept u5 hb2
    clear hb2
    go_wp2_with fail
    refine (new_any _).mono ?_
    rintro e w3 ⟨g3, F3, rfl, hT3, hlo3, hb3⟩
    have HB3 := Lib.hid (HB2.out.trans (hb3.mono HB2.out.size))
    have HLO3 := Lib.hid (show ∀ k, F3 k → w.heap.size ≤ k from fun k hk => Nat.le_trans HB2.out.size (hlo3 k hk))
    replace u0 := cell_kept u0 hb3
    replace u1 := cell_kept u1 hb3
    replace u2 := cell_kept u2 hb3
    replace u3 := cell_kept u3 hb3
    replace u4 := cell_kept u4 hb3
    replace u5 := cell_kept u5 hb3
    have HPU := Lib.hid (put_any g3 [lfRoot] F3 x0 XA XC G w3 hT3 (HXD.out.below HB3.out) (by rw [HX0.out]; decide) (by have := HD0.out; omega) (by decide))
    clear hT3 hlo3 hb3
    go_wp2_with fail
    refine HPU.out.mono ?_
    rintro e w4 ⟨rfl, F4, hT4, hF4, hch4⟩
    have HB4 := Lib.hid (show Below w.heap.size w w4 from HB3.out.trans (hch4.below HLO3.out HB3.out.size))
    have HLO4 := Lib.hid (show ∀ k, F4 k → w.heap.size ≤ k from fun k hk => by
      rcases hF4 k hk with q | q
      · exact HLO3.out k q
      · exact Nat.le_trans HB3.out.size q)
    have HT4 := Lib.hid (show TreeAt F4 w4 g3 (xs.take 1) by
      rw [HT1.out]
      have : tWith x0 [lfRoot] = [x0] := by
        show tGo x0 false [lfRoot] = _
        unfold tGo
        rw [if_pos (show lfRoot.path = x0.path from HX0.out.symm)]
        rfl
      rw [← this]; exact hT4)
    clear hT4 hF4 hch4 u0 u1 u2 u3 u4 u5
    have y5 : (1 : Int) ≤ (xs.length : Int) := by omega
    have y6 : (xs.length : Int) ≤ (c : Int) := by have := HR.out.1; omega
    by_cases hc1 : c = 1
    · subst hc1
      have hx1 : xs.length = 1 := by omega
      have HTK := Lib.hid (show tTakes xs = true by
        unfold tTakes
        rw [hx1]
        simp [List.range_succ, HS0.out])
      obtain ⟨b0, b, k1, k2, k3, hdone⟩ := load_end (.bool true) HT.out HB4.out (show TreeAt F4 w4 g3 xs by have := HT4.out; rwa [List.take_of_length_le (by omega)] at this) HLO4.out
      obtain ⟨rfl, rfl⟩ := HYES.out HTK.out
      have HDN := Lib.hid hdone
      rw [hx1] at y5 y6 ⊢
      clear hdone HNO HYES
      go_wp2_with fail
      go_loopw [40] (fun i wr => i = .int .i64 0 ∧ wr = w4) (fun _ _ => 0)
      case atStart => exact ⟨rfl, rfl⟩
      case round =>
        obtain ⟨rfl, rfl⟩ := hrel
        go_wp2_with fail
        go_ret
        exact HDN.out
    · have y7 : 1 ≤ xs.length := by omega
      have yc : 1 < c := by have := HR.out.1; have : c ≠ 0 := fun e => by omega
                            omega
      go_wp2_with fail
      go_loopw [40] (fun i wr => ∃ (j : Nat) (F' : Nat → Prop), j ≤ xs.length - 1 ∧ i = .int .i64 j ∧ TreeAt F' wr g3 (xs.take (j + 1)) ∧ (∀ k, F' k → w.heap.size ≤ k) ∧ Below w.heap.size w wr ∧ (∀ i, i ≤ j → tStep xs i = true)) (fun i _ => xs.length - (intOf i).toNat)
      case atStart => exact ⟨0, F4, Nat.zero_le _, rfl, HT4.out, HLO4.out, HB4.out, fun i hi => by (rw [Nat.le_zero.1 hi]; exact HS0.out)⟩
      case round =>
        obtain ⟨j, F5, hj, rfl, hT5, hlo5, hb5, hst⟩ := hrel
        have HT5 := Lib.hid hT5
        have HLO5 := Lib.hid hlo5
        have HB5 := Lib.hid hb5
        have HST := Lib.hid hst
        clear hT5 hlo5 hb5 hst HT4 HLO4 HB4
        by_cases hlt : j < xs.length - 1
        · obtain ⟨p, hp⟩ : ∃ p, xs[j]? = some p := ⟨_, List.getElem?_eq_getElem (by omega)⟩
          obtain ⟨x, hx⟩ : ∃ x, xs[j + 1]? = some x := ⟨_, List.getElem?_eq_getElem (by omega)⟩
          obtain ⟨y', PA, PC, e', -, c0, -⟩ := (HR.out.below HB5.out).lf6 hp
          obtain rfl := Option.some.inj e'
          obtain ⟨y', QA, QC, e', -, d0, d1, d2, d3, d4, d5, hxd⟩ := (HR.out.below HB5.out).lf6 hx
          obtain rfl := Option.some.inj e'
          have ha : y.add ((j + 1) * 6) = ⟨y.block, y.off + 6 + j * 6, none⟩ := by
            unfold Addr.add
            rw [if_neg (by omega)]
            congr 1
            omega
          rw [ha] at d0 d1 d2 d3 d4 d5
          dsimp only at d1 d2 d3 d4 d5
          have HXD2 := Lib.hid hxd
          have HXL := Lib.hid (show xs.take (j + 1 + 1) = xs.take (j + 1) ++ [x] by
            obtain ⟨hh, rfl⟩ := List.getElem?_eq_some_iff.1 hx
            exact List.take_succ_eq_append_getElem hh)
          have HPL := Lib.hid (show xs.take (j + 1) = xs.take j ++ [p] by
            obtain ⟨hh, rfl⟩ := List.getElem?_eq_some_iff.1 hp
            exact List.take_succ_eq_append_getElem hh)
          have HSE := Lib.hid (show tStep xs (j + 1) = (Op.bytesLess p.path x.path && (lfFit x && tMay x.path (xs.take (j + 1)))) by
            unfold tStep
            rw [if_neg (by omega), List.getD_eq_getElem?_getD, List.getD_eq_getElem?_getD, hx, Nat.add_sub_cancel, hp]
            rfl)
          have HJL := Lib.hid (show j + 1 < xs.length by omega)
          have HRX := Lib.hid (fun X => isRight_any x QA QC X)
          have HMH := Lib.hid (fun X (hX : Below wr.heap.size wr X) => mayHold_any g3 (xs.take (j + 1)) F5 x.path X ((HE.out.below HB5.out).below hX) (HT5.out.below hX))
          have HKB := Lib.hid (Bk.new wr 50 [.string ⟨#[]⟩, .slice none 0 0, .int .i64 0, .int .i64 0, .int .i64 0, .int .i64 0])
          have z1 : (0 : Int) ≤ (j : Int) := by omega
          have z2 : (j : Int) < ((xs.length - 1 : Nat) : Int) := by omega
          have z3 : (j : Int) < (xs.length : Int) := by omega
          clear hp hx hxd ha
          cases b0 : Op.bytesLess p.path x.path with
          | false =>
            have hv : tTakes xs = false := takes_no HJL.out (by rw [HSE.out, b0]; rfl)
            obtain ⟨rfl, rfl⟩ := HNO.out hv
            clear hv HNO HYES
            go_wp2_with (first
              | (refine wpList_store_bkT rfl 50 _ _ rfl wr.heap.size (lfC x QA QC) rfl rfl 50 [.string ⟨#[]⟩, .slice none 0 0, .int .i64 0, .int .i64 0, .int .i64 0, .int .i64 0] HKB.out rfl info_leaf1 rfl ?_
                 intro w6 hk6 hg6
                 have HB6 := Lib.hid (show Below wr.heap.size wr w6 from ((Below.refl _ wr).alloc (Nat.le_refl _) _).grown hg6.out (by simp) (fun k e => by injection e with e; omega))
                 have c06 := cell_kept c0 HB6.out
                 have e0 : w6.cell? ⟨wr.heap.size, 0, none⟩ = some (.string ⟨x.path.toArray⟩) := hk6.out.at_ rfl
                 have e1 : w6.cell? ⟨wr.heap.size, 1, none⟩ = some (.slice QA x.data.length QC) := hk6.out.at_ rfl
                 have e2 : w6.cell? ⟨wr.heap.size, 2, none⟩ = some (.int .i64 x.ver) := hk6.out.at_ rfl
                 have e3 : w6.cell? ⟨wr.heap.size, 3, none⟩ = some (.int .i64 x.own) := hk6.out.at_ rfl
                 have e4 : w6.cell? ⟨wr.heap.size, 4, none⟩ = some (.int .i64 x.next) := hk6.out.at_ rfl
                 have e5 : w6.cell? ⟨wr.heap.size, 5, none⟩ = some (.int .i64 x.born) := hk6.out.at_ rfl
                 have hle : (binOp BinOp.leq 9 (.string ⟨x.path.toArray⟩) (.string ⟨p.path.toArray⟩)).run Tryz.prog w6 = .ok (.bool true) w6 := (by rw [run_leq_str, leq_not, b0]; rfl)))
            go_ret
            exact tdid_same _ HT.out (HB5.out.trans (HB6.out.mono HB5.out.size))
          | true =>
          cases b1 : lfFit x with
          | false =>
            have hv : tTakes xs = false := takes_no HJL.out (by rw [HSE.out, b0, b1]; rfl)
            obtain ⟨rfl, rfl⟩ := HNO.out hv
            clear hv HNO HYES
            rw [b1] at HRX
            clear HMH
            go_wp2_with (first
              | (refine wpList_store_bkT rfl 50 _ _ rfl wr.heap.size (lfC x QA QC) rfl rfl 50 [.string ⟨#[]⟩, .slice none 0 0, .int .i64 0, .int .i64 0, .int .i64 0, .int .i64 0] HKB.out rfl info_leaf1 rfl ?_
                 intro w6 hk6 hg6
                 have HB6 := Lib.hid (show Below wr.heap.size wr w6 from ((Below.refl _ wr).alloc (Nat.le_refl _) _).grown hg6.out (by simp) (fun k e => by injection e with e; omega))
                 have c06 := cell_kept c0 HB6.out
                 have e0 : w6.cell? ⟨wr.heap.size, 0, none⟩ = some (.string ⟨x.path.toArray⟩) := hk6.out.at_ rfl
                 have e1 : w6.cell? ⟨wr.heap.size, 1, none⟩ = some (.slice QA x.data.length QC) := hk6.out.at_ rfl
                 have e2 : w6.cell? ⟨wr.heap.size, 2, none⟩ = some (.int .i64 x.ver) := hk6.out.at_ rfl
                 have e3 : w6.cell? ⟨wr.heap.size, 3, none⟩ = some (.int .i64 x.own) := hk6.out.at_ rfl
                 have e4 : w6.cell? ⟨wr.heap.size, 4, none⟩ = some (.int .i64 x.next) := hk6.out.at_ rfl
                 have e5 : w6.cell? ⟨wr.heap.size, 5, none⟩ = some (.int .i64 x.born) := hk6.out.at_ rfl
                 have hle : (binOp BinOp.leq 9 (.string ⟨x.path.toArray⟩) (.string ⟨p.path.toArray⟩)).run Tryz.prog w6 = .ok (.bool false) w6 := (by rw [run_leq_str, leq_not, b0]; rfl)))
            refine (HRX.out _).mono ?_
            rintro e w7 ⟨rfl, hb7⟩
            have HB7 := Lib.hid (HB6.out.trans (hb7.mono HB6.out.size))
            clear hb7
            go_wp2_with fail
            go_ret
            exact tdid_same _ HT.out (HB5.out.trans (HB7.out.mono HB5.out.size))
          | true =>
          rw [b1] at HRX
          cases b2 : tMay x.path (xs.take (j + 1)) with
          | false =>
            have hv : tTakes xs = false := takes_no HJL.out (by rw [HSE.out, b0, b1, b2]; rfl)
            obtain ⟨rfl, rfl⟩ := HNO.out hv
            clear hv HNO HYES
            rw [b2] at HMH
            go_wp2_with (first
              | (refine wpList_store_bkT rfl 50 _ _ rfl wr.heap.size (lfC x QA QC) rfl rfl 50 [.string ⟨#[]⟩, .slice none 0 0, .int .i64 0, .int .i64 0, .int .i64 0, .int .i64 0] HKB.out rfl info_leaf1 rfl ?_
                 intro w6 hk6 hg6
                 have HB6 := Lib.hid (show Below wr.heap.size wr w6 from ((Below.refl _ wr).alloc (Nat.le_refl _) _).grown hg6.out (by simp) (fun k e => by injection e with e; omega))
                 have c06 := cell_kept c0 HB6.out
                 have e0 : w6.cell? ⟨wr.heap.size, 0, none⟩ = some (.string ⟨x.path.toArray⟩) := hk6.out.at_ rfl
                 have e1 : w6.cell? ⟨wr.heap.size, 1, none⟩ = some (.slice QA x.data.length QC) := hk6.out.at_ rfl
                 have e2 : w6.cell? ⟨wr.heap.size, 2, none⟩ = some (.int .i64 x.ver) := hk6.out.at_ rfl
                 have e3 : w6.cell? ⟨wr.heap.size, 3, none⟩ = some (.int .i64 x.own) := hk6.out.at_ rfl
                 have e4 : w6.cell? ⟨wr.heap.size, 4, none⟩ = some (.int .i64 x.next) := hk6.out.at_ rfl
                 have e5 : w6.cell? ⟨wr.heap.size, 5, none⟩ = some (.int .i64 x.born) := hk6.out.at_ rfl
                 have hle : (binOp BinOp.leq 9 (.string ⟨x.path.toArray⟩) (.string ⟨p.path.toArray⟩)).run Tryz.prog w6 = .ok (.bool false) w6 := (by rw [run_leq_str, leq_not, b0]; rfl)))
            refine (HRX.out _).mono ?_
            rintro e w7 ⟨rfl, hb7⟩
            have HB7 := Lib.hid (HB6.out.trans (hb7.mono HB6.out.size))
            have f0 := cell_kept e0 hb7
            have f1 := cell_kept e1 hb7
            have f2 := cell_kept e2 hb7
            have f3 := cell_kept e3 hb7
            have f4 := cell_kept e4 hb7
            have f5 := cell_kept e5 hb7
            clear hb7 e0 e1 e2 e3 e4 e5
            go_wp2_with fail
            refine (HMH.out _ HB7.out).mono ?_
            rintro e w8 ⟨rfl, hb8⟩
            have HB8 := Lib.hid (HB7.out.trans (hb8.mono HB7.out.size))

            clear hb8
            go_wp2_with fail
            go_ret
            exact tdid_same _ HT.out (HB5.out.trans (HB8.out.mono HB5.out.size))
          | true =>
            have HSJ := Lib.hid (show tStep xs (j + 1) = true by rw [HSE.out, b0, b1, b2]; rfl)
            have HLE := Lib.hid (may_le b2)
            have HLD := Lib.hid (show x.data.length ≤ 128 by unfold lfFit at b1; simp at b1; exact b1.2.2)
            have HWT := Lib.hid (show tWith x (xs.take (j + 1)) = xs.take (j + 1 + 1) by
              rw [HXL.out]
              refine tWith_end fun z hz => ?_
              have hs := HT5.out.srt
              rw [HPL.out] at hz hs
              rcases List.mem_append.1 hz with q | q
              · exact lb_trans ((List.pairwise_append.1 hs).2.2 z q p (List.mem_singleton.2 rfl)) b0
              · rw [List.mem_singleton.1 q]; exact b0)
            rw [b2] at HMH
            go_wp2_with (first
              | (refine wpList_store_bkT rfl 50 _ _ rfl wr.heap.size (lfC x QA QC) rfl rfl 50 [.string ⟨#[]⟩, .slice none 0 0, .int .i64 0, .int .i64 0, .int .i64 0, .int .i64 0] HKB.out rfl info_leaf1 rfl ?_
                 intro w6 hk6 hg6
                 have HB6 := Lib.hid (show Below wr.heap.size wr w6 from ((Below.refl _ wr).alloc (Nat.le_refl _) _).grown hg6.out (by simp) (fun k e => by injection e with e; omega))
                 have c06 := cell_kept c0 HB6.out
                 have e0 : w6.cell? ⟨wr.heap.size, 0, none⟩ = some (.string ⟨x.path.toArray⟩) := hk6.out.at_ rfl
                 have e1 : w6.cell? ⟨wr.heap.size, 1, none⟩ = some (.slice QA x.data.length QC) := hk6.out.at_ rfl
                 have e2 : w6.cell? ⟨wr.heap.size, 2, none⟩ = some (.int .i64 x.ver) := hk6.out.at_ rfl
                 have e3 : w6.cell? ⟨wr.heap.size, 3, none⟩ = some (.int .i64 x.own) := hk6.out.at_ rfl
                 have e4 : w6.cell? ⟨wr.heap.size, 4, none⟩ = some (.int .i64 x.next) := hk6.out.at_ rfl
                 have e5 : w6.cell? ⟨wr.heap.size, 5, none⟩ = some (.int .i64 x.born) := hk6.out.at_ rfl
                 have hle : (binOp BinOp.leq 9 (.string ⟨x.path.toArray⟩) (.string ⟨p.path.toArray⟩)).run Tryz.prog w6 = .ok (.bool false) w6 := (by rw [run_leq_str, leq_not, b0]; rfl)))
            refine (HRX.out _).mono ?_
            rintro e w7 ⟨rfl, hb7⟩
            have HB7 := Lib.hid (HB6.out.trans (hb7.mono HB6.out.size))
            have f0 := cell_kept e0 hb7
            have f1 := cell_kept e1 hb7
            have f2 := cell_kept e2 hb7
            have f3 := cell_kept e3 hb7
            have f4 := cell_kept e4 hb7
            have f5 := cell_kept e5 hb7
            clear hb7 e0 e1 e2 e3 e4 e5
            go_wp2_with fail
            refine (HMH.out _ HB7.out).mono ?_
            rintro e w8 ⟨rfl, hb8⟩
            have HB8 := Lib.hid (HB7.out.trans (hb8.mono HB7.out.size))

            have k0 := cell_kept f0 hb8
            have k1 := cell_kept f1 hb8
            have k2 := cell_kept f2 hb8
            have k3 := cell_kept f3 hb8
            have k4 := cell_kept f4 hb8
            have k5 := cell_kept f5 hb8
            clear hb8 f0 f1 f2 f3 f4 f5
            have HPT := Lib.hid (put_any g3 (xs.take (j + 1)) F5 x QA QC G w8 (HT5.out.below HB8.out) (HXD2.out.below HB8.out) HLE.out (by have := HLD.out; omega) (by have := HL.out.2; rw [List.length_take]; omega))
            go_wp2_with fail
            refine HPT.out.mono ?_
            rintro e w9 ⟨rfl, F9, hT9, hF9, hch9⟩
            have HT9 := Lib.hid (show TreeAt F9 w9 g3 (xs.take (j + 1 + 1)) by rw [← HWT.out]; exact hT9)
            have HB58 := Lib.hid (HB5.out.trans (HB8.out.mono HB5.out.size))
            have HB9 := Lib.hid (HB58.out.trans (hch9.below HLO5.out HB58.out.size))
            have HLO9 := Lib.hid (show ∀ k, F9 k → w.heap.size ≤ k from fun k hk => by
              rcases hF9 k hk with q | q
              · exact HLO5.out k q
              · exact Nat.le_trans HB58.out.size q)
            clear hT9 hF9 hch9
            go_wp2_with fail
            go_roundw
            case rel => exact ⟨j + 1, F9, by omega, by go_num, HT9.out, HLO9.out, HB9.out, fun i hi => by rcases Nat.lt_or_ge i (j + 1) with q | q; exact HST.out i (by omega); obtain rfl : i = j + 1 := (by omega); exact HSJ.out⟩
            case measure => have := HJL.out; simp [intOf]; omega
        · obtain rfl : j = xs.length - 1 := by omega
          have HTK := Lib.hid (show tTakes xs = true by
            unfold tTakes
            rw [decide_eq_true HL.out, Bool.true_and, List.all_eq_true]
            intro i hi
            exact HST.out i (by have := List.mem_range.1 hi; omega))
          obtain ⟨b0, b, k1, k2, k3, hdone⟩ := load_end (.bool true) HT.out HB5.out (show TreeAt F5 wr g3 xs by have := HT5.out; rwa [List.take_of_length_le (by omega)] at this) HLO5.out
          obtain ⟨rfl, rfl⟩ := HYES.out HTK.out
          have HDN := Lib.hid hdone
          clear hdone HNO HYES
          go_wp2_with fail
          go_ret
          exact HDN.out
end Go.Proofs.YtgppclmofphlfaaGreatDoor
