/-
  SessionSteps: a walk over the calls' contracts; no statement.
-/
import Derived.Test.YtfbdmemjojjgnaaSessAlive
import Derived.Test.YtfbdmemjojjgnaaSessRef4
import Derived.Test.YtfbdmemjojjgnaaSessRef5
import Derived.Test.YtfbdmemjojjgnaaStoreCell
import Derived.Deep.CutRange
import Derived.Deep.RegionHeld3
namespace Go.Proofs.Ytfbdmemjojjgnaa
set_option maxRecDepth 100000
open Go.RowKit
set_option linter.unusedVariables false
set_option maxRecDepth 100000

theorem sec_client : ∀ (l : List Se) (i : Nat) (x : Se) (z : Int), l[i]? = some x → (sec l).set (i * 3) (.int .i64 z) = sec (l.set i { x with client := z })
  | [], i, x, z, h => by simp at h
  | y :: r, 0, x, z, h => by obtain rfl := Option.some.inj h; rfl
  | y :: r, i + 1, x, z, h => by
    rw [show (i + 1) * 3 = i * 3 + 1 + 1 + 1 by omega]
    simp only [sec, List.set_cons_succ]
    rw [sec_client r i x z h]
/-- a client's number written into a row -/
theorem OwnE.set77 {w : World} {base n c : Nat} {A : Option Addr} {l : List Se} {i : Nat} {x : Se} (h : OwnE w base A n c l) (hx : l[i]? = some x) (z : Int) :
    ∃ g, A = some ⟨g, 0, none⟩ ∧ base ≤ g ∧ w.cell? ⟨g, i * 3, none⟩ = some (.int .i64 x.client) ∧ w.frozen? ⟨g, i * 3, none⟩ = false ∧ OwnE (w.setCell ⟨g, i * 3, none⟩ (.int .i64 z)) base A n c (l.set i { x with client := z }) := by
  have hl := h.len
  have hi := (List.getElem?_eq_some_iff.1 hx).1
  obtain ⟨g, rfl, hb, hnc, hcm, rest, hk, hkl⟩ := ownE_at h (by omega)
  have hc := hk.cell (i * 3)
  rw [List.getElem?_append_left (by rw [sec_len]; omega), (sec_at l i x hx).1] at hc
  refine ⟨g, rfl, hb, hc, hk.frozen _, ?_⟩
  have hs := hk.set (i * 3) (.int .i64 z)
  rw [List.set_append_left _ _ (by rw [sec_len]; omega), sec_client l i x z hx] at hs
  refine ownE_back hs ?_ hb (by rw [List.length_set]; exact hl) hnc hcm
  rw [List.length_append, sec_len] at hkl ⊢
  rw [List.length_set]
  exact hkl
theorem Calls.quiet_ans {P : Program} {f : FuncId} {args : Array Value} {w : World} {r : Value} (h : Calls P f args w (Quiet r w)) : Calls P f args w (Ans r w) := h.mono fun _ _ ⟨h1, n, h2⟩ => ⟨h1, by rw [h2]; exact below_drewN (Below.refl _ _) n⟩
set_option maxHeartbeats 25600000 in
theorem sessionSteps_walk (HC0 : BookCalls) (w : World) (v0 : Value) (ops : List So) (h0 : InSos w v0 ops) (v1 : Value) (xs : List Se) (h1 : InSes w v1 xs) :
    Calls Try.prog 3 #[v0, v1] w (Tr w) := by
  obtain ⟨SA, sc, rfl, hso, hbig⟩ := h0
  obtain ⟨LA, lc, rfl, hls, hlw, -⟩ := h1
  have HAL := Lib.hid (aliveS_ok HC0 w)
  have HGR := Lib.hid (fun W (hW : Below w.heap.size w W) => greatS_any SA sc ops W (hso.below hW) hbig)
  have HC := Lib.hid HC0
  have HSO := Lib.hid hso
  have HBG := Lib.hid hbig
  have HLS := Lib.hid hls
  obtain ⟨n, hn⟩ : ∃ n, n = ops.length := ⟨_, rfl⟩
  have HNX := Lib.hid hn
  have hn63 : n ≤ 9223372036854775807 := by have := hso.1; have := hso.2.1; simp only [maxLen] at *; omega
  obtain ⟨m, hm⟩ : ∃ m, m = xs.length := ⟨_, rfl⟩
  have HMX := Lib.hid hm
  rw [← hm] at hlw
  rw [← hn] at HGR
  rw [← hn, ← hm]
  clear hso hls hn hm hbig HC0
  go_enter Try.func3, Try.ntmps3
  go_wp2_with fail
  refine (HAL.out).mono ?_
  rintro e w1 ⟨rfl, hb1⟩
  have HB1 := Lib.hid hb1
  clear hb1 HAL
  go_wp2_with fail
  refine (HGR.out w1 HB1.out).mono ?_
  rintro e w2 ⟨bg, rfl, hgr, rfl⟩
  have HGV := Lib.hid hgr
  clear hgr HGR
  cases bg with
  | true =>
    go_wp2_with fail
    go_ret
    exact ⟨rfl, HB1.out⟩
  | false =>
  have HGN := Lib.hid (HGV.out rfl)
  clear HGV
  by_cases h200 : 200 < m
  · have y200 : (200 : Int) < (m : Int) := by omega
    go_wp2_with fail
    go_ret
    exact ⟨rfl, HB1.out⟩
  have y200 : ¬ (200 : Int) < (m : Int) := by omega
  have HM200 := Lib.hid (show m ≤ 200 by omega)
  have HNW := Lib.hid (HC.out.new_ w2)
  clear h200
  go_wp2_with fail
  refine (HNW.out).mono ?_
  intro e w3 h3
  obtain ⟨g, F1, rfl, t1, f1, b3⟩ := SOn.of_new HB1.out h3
  have hba := (Below.refl w3.heap.size w3).alloc (Nat.le_refl _) (.cells #[.slice none 0 0] 29)
  have RW1 := Lib.hid (RefV.new (w := w3) (G := F1) fun k hk => (t1.low k hk).2)
  have T1 := Lib.hid (t1.kept hba)
  have HLO := Lib.hid (fun k hk => (t1.low k hk).2)
  obtain ⟨gm, hgm⟩ : ∃ gm, gm = w3.heap.size := ⟨_, rfl⟩
  have HGM := Lib.hid (show w.heap.size ≤ gm by have := t1.be.size; omega)
  obtain ⟨w4, hw4⟩ : ∃ w4, w4 = w3.alloc (.cells #[.slice none 0 0] 29) := ⟨_, rfl⟩
  rw [← hgm] at RW1 HLO
  rw [← hw4] at RW1 T1
  clear h3 t1 f1 b3 HNW hba
  go_upto_region 9 with fail
  rw [← hw4, ← hgm]
  clear hw4 hgm
  have HCP := Lib.hid (show Calls Try.prog 10 #[.slice LA m lc] w4 (FreshE xs w4) from by
    have := copyE_any LA lc xs AllB w4 (HLS.out.below T1.out.be) (by have := HM200.out; have := HMX.out; omega)
    rwa [← HMX.out] at this)
  go_wp2_with fail
  refine HCP.out.mono ?_
  rintro e w5 ⟨A5, c5, rfl, ho5, hb5⟩
  rw [← HMX.out] at ho5 ⊢
  have HO5 := Lib.hid ho5
  have HB5 := Lib.hid hb5
  have T5 := Lib.hid (T1.out.kept hb5)
  obtain ⟨RA, rc, kg, hrd, hng⟩ := RW1.out
  have HKG := Lib.hid (kg.kept hb5)
  have HNG := Lib.hid hng
  have HGS := Lib.hid kg.lt
  have m5 := (kg.kept hb5).at_ (i := 0) rfl
  obtain ⟨tb, htb⟩ : ∃ tb, tb = seTakes xs := ⟨_, rfl⟩
  obtain ⟨TL, hTL⟩ : ∃ TL, TL = seLoaded xs [] := ⟨_, rfl⟩
  have HRL := Lib.hid (show Calls Try.prog 11 #[.agg #[.slice RA 0 rc], .slice LA m lc] w5 (RefB (fun _ => False) [.bool tb] TL w5) from by
    have := refLoadE_any RA rc [] (fun _ => False) LA lc xs AllB w5 ⟨hrd.1, hrd.2.1, hrd.2.2.1, fun k x h => by simp at h⟩ (HLS.out.below T5.out.be) (by have := HM200.out; have := HMX.out; omega)
    rw [← HMX.out, ← htb, ← hTL] at this
    exact this)
  have HLD := Lib.hid (fun W (hW : SOn F1 w g [] W) (hr : RdS RSe AllB W A5 c5 xs) => show Calls Try.prog 12 #[.pointer (some ⟨g, 0, none⟩), .slice A5 m c5] W (MvS F1 w g TL (.bool tb) W) from by
    have := hW.load_ HC.out A5 c5 xs AllB hr (by have := HM200.out; have := HMX.out; omega)
    rw [← HMX.out, ← htb, ← hTL] at this
    exact this)
  have m5 : w5.cell? ⟨gm, 0, none⟩ = some (.slice RA 0 rc) := m5
  clear ho5 hb5 HCP kg hrd hng htb hTL
  go_wp2_with fail
  refine HRL.out.mono ?_
  rintro e w6 ⟨hb6, A6, c6, rfl, hr6⟩
  have hb1 := (Below.refl w6.heap.size w6).alloc (Nat.le_refl _) (.cells #[.slice A6 TL.length c6] 29)
  have hba := hb6.trans (hb1.mono hb6.size)
  have m6 : (w6.alloc (.cells #[.slice A6 TL.length c6] 29)).cell? ⟨gm, 0, none⟩ = some (.slice RA 0 rc) := (HKG.out.kept hba).at_ rfl
  have z6 : (w6.alloc (.cells #[.slice A6 TL.length c6] 29)).frozen? ⟨gm, 0, none⟩ = false := (HKG.out.kept hba).frozen 0
  have m7 : (w6.alloc (.cells #[.slice A6 TL.length c6] 29)).cell? ⟨w6.heap.size, 0, none⟩ = some (.slice A6 TL.length c6) := (Bk.new w6 29 [.slice A6 TL.length c6]).at_ rfl
  have g7 := grown_set (grown_refl (w6.alloc (.cells #[.slice A6 TL.length c6] 29)) (some gm)) 0 (.slice A6 TL.length c6)
  have T7 := Lib.hid ((T5.out.kept hba).set_far (v := .slice A6 TL.length c6) HNG.out HGM.out)
  have HK7 := Lib.hid ((HKG.out.kept hba).set 0 (.slice A6 TL.length c6))
  have HR7 := Lib.hid ((hr6.below hb1).keep (F' := From w5.heap.size) (Kp.of_grown g7 fun b hb e => by
    have h1 := Option.some.inj e
    have h2 := HGS.out
    have h3 := HB5.out.size
    rcases hb with q | q
    · exact q
    · omega) fun b hb _ => by
    rcases hb with q | q
    · exact q.elim
    · exact q)
  have HO7 := Lib.hid (show OwnE _ w4.heap.size A5 m c5 xs from World.ownsRow.kept (HO5.out.below hba) g7 (.inr (fun e => by have h1 := HO5.out.block _ e; have h2 := HGS.out; omega)))
  have HS7 := Lib.hid (Nat.le_trans hba.size g7.size)
  obtain ⟨w7, hw7⟩ : ∃ w7, w7 = (w6.alloc (.cells #[.slice A6 TL.length c6] 29)).setCell ⟨gm, 0, none⟩ (.slice A6 TL.length c6) := ⟨_, rfl⟩
  rw [← hw7] at T7 HK7 HR7 HO7 HS7
  clear hb6 hb1 hba hr6 g7 HRL
  have HL7 := Lib.hid (HLD.out w7 T7.out (HO7.out.rds fun _ _ => trivial))
  have qb : (tb != tb) = false := by simp
  go_upto_region 12 with fail
  rw [← hw7]
  clear hw7 m5 m6 m7 z6
  go_wp2_with fail
  refine HL7.out.mono ?_
  rintro e w8 ⟨rfl, G8, t8, f8, cg8⟩
  have T8 := Lib.hid t8
  have HO8 := Lib.hid (show OwnE w8 w4.heap.size A5 m c5 xs from cg8.ownE HO7.out fun b hb hg => by have h1 := HO7.out.block _ hb; have h2 := HLO.out _ hg; have h3 := HGS.out; omega)
  have HN8 := Lib.hid (show ¬ G8 gm ∧ (∀ b, (Value.slice A5 m c5).ownBlock = some b → ¬ G8 b ∧ b < w5.heap.size) from ⟨fun h => (f8 _ h).elim HNG.out fun q => by have h1 := HGS.out; have h2 := HB5.out.size; have h3 := HS7.out; omega, fun b hb => ⟨fun h => by
    have h1 := HO5.out.lt b hb
    have h2 := HO5.out.block b hb
    have h3 := HS7.out
    rcases f8 _ h with q | q
    · have h4 := HLO.out _ q; have h5 := HGS.out; omega
    · omega, HO5.out.lt b hb⟩⟩)
  have HK8 := Lib.hid (cg8.bk HK7.out HNG.out)
  have HR8 := Lib.hid (HR7.out.keep (F' := fun b => (¬ G8 b ∧ b ≠ gm) ∧ w5.heap.size ≤ b) ⟨cg8.size, fun b hb hl => cg8.block b hl (fun hg => by have h1 : w5.heap.size ≤ b := hb; have h2 := (T5.out.low _ hg).2; omega)⟩ fun b hb hl => by
    have h1 : w5.heap.size ≤ b := hb
    refine ⟨⟨fun h => ?_, by have h2 := HGS.out; have h3 := HB5.out.size; omega⟩, h1⟩
    rcases f8 _ h with q | q
    · have h2 := (T5.out.low _ q).2; omega
    · omega)
  have HSM := Lib.hid (show Calls Try.prog 13 #[.slice A5 m c5, .slice LA m lc] w8 (Ans (.bool true) w8) from by
    have := sameE_any A5 LA c5 lc w8 AllB AllB xs xs (HO8.out.rds fun _ _ => trivial) (HLS.out.below t8.be) (by have := HM200.out; have := HMX.out; omega)
    rw [decide_eq_true rfl, ← HMX.out] at this
    exact this)
  clear t8 f8 cg8 HL7
  go_wp2_with fail
  refine HSM.out.mono ?_
  rintro e w9 ⟨rfl, hb9⟩
  have T9 := Lib.hid (T8.out.kept hb9)
  have HO9 := Lib.hid (HO8.out.below hb9)
  have HK9 := Lib.hid (HK8.out.kept hb9)
  have HR9 := Lib.hid (HR8.out.below hb9)
  have hm200 : m ≤ 200 := HM200.out
  clear hb9 HSM
  go_wp2_with fail
  go_loopw [10] (fun si wz => ∃ (i : Nat) (ys : List Se), i ≤ m ∧ si = .int .i64 i ∧ ys.length = m ∧ OwnE wz w4.heap.size A5 m c5 ys ∧ w9.grownBy wz (Value.slice A5 m c5).ownBlock) (fun si _ => m - (intOf si).toNat)
  case atStart => exact ⟨0, xs, by omega, rfl, HMX.out.symm, HO9.out, grown_refl _ _⟩
  case round =>
    rename World => wz
    obtain ⟨i, ys, hi, rfl, hyl, hoz, hgz⟩ := hrel
    by_cases hlt2 : i < m
    · have hy : ys[i]? = some (ys[i]'(by omega)) := List.getElem?_eq_getElem (by omega)
      obtain ⟨go, rfl, hgo, d0, d1, ho2⟩ := hoz.set77 hy 77
      generalize ys[i]'(by omega) = y at *
      have HO2 := Lib.hid ho2
      have HG2 := Lib.hid (show w9.grownBy (wz.setCell ⟨go, i * 3, none⟩ (.int .i64 77)) (Value.slice (some ⟨go, 0, none⟩) m c5).ownBlock from grown_set hgz _ _)
      have HYL := Lib.hid hyl
      have HLT2 := Lib.hid hlt2
      have y1 : (0 : Int) ≤ (i : Int) := by omega
      have y2 : (i : Int) < (m : Int) := by omega
      clear hoz hgz hy ho2 hyl hlt2 hgo
      go_wp2_with fail
      go_roundw
      case rel => exact ⟨i + 1, ys.set i { y with client := 77 }, HLT2.out, by go_num, by rw [List.length_set]; exact HYL.out, HO2.out, HG2.out⟩
      case measure => have := HLT2.out; simp [intOf]; omega
    · have hcz : Chg (fun b => (Value.slice A5 m c5).ownBlock = some b) w9 wz := (Chg.refl _ _).grown hgz fun b hb => .inl hb
      have hbz := T9.out.be.grown hgz T9.out.be.size (fun b hb => Nat.le_trans T1.out.be.size (hoz.block b hb))
      have T10 := Lib.hid (T9.out.other hcz (fun k hk e => (HN8.out.2 k e).1 hk) hbz)
      have RW10 := Lib.hid (show RefV G8 gm TL wz from ⟨A6, c6, HK9.out.grown hgz (fun e => by have h1 := HO9.out.block _ e.symm; have h2 := HGS.out; omega), HR9.out.keep (Kp.of_grown hgz fun b hb e => by
        have h1 := (HN8.out.2 b e.symm).2
        have h2 := hb.2
        omega) fun b hb _ => hb.1, HN8.out.1⟩)
      clear hcz hbz hoz hgz hyl hi
      go_wp2_with fail
      go_loopw [11] (fun i wr => ∃ (k : Nat) (G : Nat → Prop) (T : List Se), k ≤ n ∧ i = .int .i64 k ∧ SOn G w g T wr ∧ RefV G gm T wr) (fun i _ => n - (intOf i).toNat)
      case atStart => exact ⟨0, G8, TL, by omega, rfl, T10.out, RW10.out⟩
      case round =>
        rename World => wr
        obtain ⟨k, G, T, hk, rfl, htt, hrw⟩ := hrel
        by_cases hlt : k < n
        · have hkx : k < ops.length := by have := HNX.out; omega
          have hx : ops[k]? = some ops[k] := List.getElem?_eq_getElem hkx
          obtain ⟨a, C, f, rfl, hal, c0, c1, c2, c3, c4, hC⟩ := HSO.out.so5 hx
          have hwf := (HBG.out _ (List.getElem_mem hkx)).client
          have hwo := Nat.le_trans (soW_mem (List.getElem_mem hkx)) HGN.out
          generalize ops[k] = o at *
          obtain ⟨what, x, cs⟩ := o
          have HWF := Lib.hid (show (Lit.int .i64 x.client).wf = true from hwf)
          clear hwf
          have hcn : cs.length ≤ 3000 := hwo
          have c0 : wr.cell? (a.add (k * 5)) = some (.int .i64 what) := cell_kept c0 htt.be
          have c1 : wr.cell? ⟨(a.add (k * 5)).block, (a.add (k * 5)).off + 1, none⟩ = some (.int .i64 x.client) := cell_kept c1 htt.be
          have c2 : wr.cell? ⟨(a.add (k * 5)).block, (a.add (k * 5)).off + 2, none⟩ = some (.int .i64 x.span) := cell_kept c2 htt.be
          have c3 : wr.cell? ⟨(a.add (k * 5)).block, (a.add (k * 5)).off + 3, none⟩ = some (.int .i64 x.seen) := cell_kept c3 htt.be
          have c4 : wr.cell? ⟨(a.add (k * 5)).block, (a.add (k * 5)).off + 4, none⟩ = some (.slice C cs.length f) := cell_kept c4 htt.be
          have HCI := Lib.hid (fun W (hW : Below w.heap.size w W) => show Rd W C cs.length (cs.map (.int .i64 ·)) from (RdS.intsE (show RdS RIn AllB w C f cs from hC)).below hW)
          have hba := ((((Below.refl wr.heap.size wr).alloc (Nat.le_refl _) (.cells #[.int .i64 what, .int .i64 x.client, .int .i64 x.span, .int .i64 x.seen, .slice C cs.length f] 39)).alloc (by simp) (.cells #[] 3)).alloc (by simp; omega) (.cells #[] 3))
          have hbk := ((Bk.new wr 39 [.int .i64 what, .int .i64 x.client, .int .i64 x.span, .int .i64 x.seen, .slice C cs.length f]).alloc (.cells #[] 3)).alloc (.cells #[] 3)
          have HTA := Lib.hid (htt.kept hba)
          have HRA := Lib.hid (hrw.below hba)
          have HNB := Lib.hid (show ¬ G wr.heap.size ∧ wr.heap.size ≠ gm from ⟨fun h => by have := (htt.low _ h).2; omega, by have := hrw.lt; omega⟩)
          have HKB := Lib.hid (show Bk (((wr.alloc (.cells #[.int .i64 what, .int .i64 x.client, .int .i64 x.span, .int .i64 x.seen, .slice C cs.length f] 39)).alloc (.cells #[] 3)).alloc (.cells #[] 3)) wr.heap.size 39 [.int .i64 what, .int .i64 x.client, .int .i64 x.span, .int .i64 x.seen, .slice C cs.length f] from hbk)
          have HLT := Lib.hid hlt
          have y1 : (0 : Int) ≤ (k : Int) := by omega
          have y2 : (k : Int) < (n : Int) := by omega
          obtain ⟨wa, hwa⟩ : ∃ wa, wa = ((wr.alloc (.cells #[.int .i64 what, .int .i64 x.client, .int .i64 x.span, .int .i64 x.seen, .slice C cs.length f] 39)).alloc (.cells #[] 3)).alloc (.cells #[] 3) := ⟨_, rfl⟩
          obtain ⟨bo, hbo⟩ : ∃ bo, bo = wr.heap.size := ⟨_, rfl⟩
          rw [← hwa] at HTA HRA HKB
          rw [← hbo] at HKB HNB
          clear htt hrw hx hkx hlt hk hal hwo hC hba hbk
          go_upto_region 26 with fail
          rw [← hwa, ← hbo]
          clear hwa hbo c0 c1 c2 c3 c4
          obtain ⟨d0, d1, d2, d3, d4⟩ : wa.cell? ⟨bo, 0, none⟩ = some (.int .i64 what) ∧ wa.cell? ⟨bo, 1, none⟩ = some (.int .i64 x.client) ∧ wa.cell? ⟨bo, 2, none⟩ = some (.int .i64 x.span) ∧ wa.cell? ⟨bo, 3, none⟩ = some (.int .i64 x.seen) ∧ wa.cell? ⟨bo, 4, none⟩ = some (.slice C cs.length f) :=
            ⟨HKB.out.at_ rfl, HKB.out.at_ rfl, HKB.out.at_ rfl, HKB.out.at_ rfl, HKB.out.at_ rfl⟩
          have HE0 := Lib.hid (fun (W0 W : World) (hW : Below W0.heap.size W0 W) => show Calls Try.prog 23 #[.slice (some ⟨bo + 1, 0, none⟩) 0 0, .slice (some ⟨bo + 1 + 1, 0, none⟩) 0 0] W (Ans (.bool true) W) from
            Calls.quiet_ans (sameInts_eq (some ⟨bo + 1, 0, none⟩) (some ⟨bo + 1 + 1, 0, none⟩) 0 0 0 W [] [] (Rd.nil_ _ _) (Rd.nil_ _ _) (by simp [maxLen])))
          by_cases hw1 : what = 1
          · have q1 : (what == 1) = true := by simpa using hw1
            clear hw1
            obtain ⟨ev, hev⟩ : ∃ ev, ev = (seOpen x T).2 := ⟨_, rfl⟩
            obtain ⟨TZ, hTZ⟩ : ∃ TZ, TZ = (seOpen x T).1 := ⟨_, rfl⟩
            have HCA := Lib.hid (show Calls Try.prog 14 #[.pointer (some ⟨g, 0, none⟩), .int .i64 x.client, .int .i64 x.span, .int .i64 x.seen] wa (MvS G w g TZ (.int .i64 ev) wa) from by
              rw [hTZ, hev]; exact HTA.out.open_ HC.out x)
            clear d4
            go_wp2_with fail
            refine HCA.out.mono ?_
            rintro e w5 ⟨rfl, GZ, t5, f5, cg5⟩
            have HT5 := Lib.hid t5
            have HR5 := Lib.hid (HRA.out.did cg5 f5)
            have HK5 := Lib.hid (cg5.bk HKB.out HNB.out.1)
            obtain ⟨RA, rc, kg, hrd, hng⟩ := HR5.out
            have HKG := Lib.hid kg
            have m5 := kg.at_ (i := 0) rfl
            have HRC := Lib.hid (show Calls Try.prog 15 #[.agg #[.slice RA T.length rc], .int .i64 x.client, .int .i64 x.span, .int .i64 x.seen] w5 (RefB _ [.int .i64 ev] TZ w5) from by
              rw [hTZ, hev]; exact refOpen_any RA rc T _ x w5 hrd (by have := HTA.out.ok.len; omega))
            clear kg hrd hng t5 f5 cg5 HCA d0 d1 d2 d3 hev hTZ
            obtain ⟨d1, d2, d3⟩ : w5.cell? ⟨bo, 1, none⟩ = some (.int .i64 x.client) ∧ w5.cell? ⟨bo, 2, none⟩ = some (.int .i64 x.span) ∧ w5.cell? ⟨bo, 3, none⟩ = some (.int .i64 x.seen) := ⟨HK5.out.at_ rfl, HK5.out.at_ rfl, HK5.out.at_ rfl⟩
            go_wp2_with fail
            refine HRC.out.mono ?_
            rintro e w7 ⟨hb7, A7, c7, rfl, hr7⟩
            have m7 : w7.cell? ⟨gm, 0, none⟩ = some (.slice RA T.length rc) := (HKG.out.kept hb7).at_ rfl
            have z7 : w7.frozen? ⟨gm, 0, none⟩ = false := (HKG.out.kept hb7).frozen 0
            have HRZ := Lib.hid (HR5.out.put hb7 (fun b hb => (HT5.out.low b hb).2) hr7)
            have HTZ := Lib.hid ((HT5.out.kept hb7).set_far (v := .slice A7 TZ.length c7) HR5.out.notin HGM.out)
            have HKZ := Lib.hid ((HK5.out.kept hb7).far (p := ⟨gm, 0, none⟩) HNB.out.2 (.slice A7 TZ.length c7))
            obtain ⟨wz, hwz⟩ : ∃ wz, wz = w7.setCell ⟨gm, 0, none⟩ (.slice A7 TZ.length c7) := ⟨_, rfl⟩
            rw [← hwz] at HRZ HTZ HKZ
            have HXY := Lib.hid (HE0.out wz)
            have qe : (ev != ev) = false := by simp
            clear hb7 hr7 HRC d1 d2 d3
            go_upto_region 42 with fail
            rw [← hwz]
            clear hwz m5 m7 z7
            obtain ⟨RZ, cz, kz, rz, -⟩ := HRZ.out
            have HRS := Lib.hid rz
            have HKQ := Lib.hid kz
            have HSS := Lib.hid (fun X (hX : Below wz.heap.size wz X) => show X.cell? ⟨gm, 0, none⟩ = some (.slice RZ TZ.length cz) ∧ X.cell? ⟨bo, 1, none⟩ = some (.int .i64 x.client) from ⟨(HKQ.out.kept hX).at_ rfl, (HKZ.out.kept hX).at_ rfl⟩)
            obtain ⟨lb, hlb⟩ : ∃ lb, lb = seLive x.client TZ := ⟨_, rfl⟩
            have ql : (lb != lb) = false := by simp
            have HAQ := Lib.hid (fun W (hW : Below wz.heap.size wz W) => (HTZ.out.kept hW).all_ HC.out)
            have HSQ := Lib.hid (fun W A c (ho : RdS RSe AllB W A c TZ) (hW : Below wz.heap.size wz W) => show Calls Try.prog 13 #[.slice A TZ.length c, .slice RZ TZ.length cz] W (Ans (.bool true) W) from by
              have := sameE_any A RZ c cz W AllB _ _ _ ho (HRS.out.below hW) (by have := HTZ.out.ok.len; omega)
              rwa [decide_eq_true rfl] at this)
            have HLQ := Lib.hid (fun W (hW : Below wz.heap.size wz W) => show Calls Try.prog 25 #[.pointer (some ⟨g, 0, none⟩), .int .i64 x.client] W (Ans (.bool lb) W) from by rw [hlb]; exact (HTZ.out.kept hW).live_ HC.out x.client HWF.out)
            have HVQ := Lib.hid (fun W (hW : Below wz.heap.size wz W) => show Calls Try.prog 26 #[.agg #[.slice RZ TZ.length cz], .int .i64 x.client] W (Ans (.bool lb) W) from by rw [hlb]; exact refLive_any RZ cz TZ _ x.client W (HRS.out.below hW) (by have := HTZ.out.ok.len; omega))
            clear kz rz hlb
            refine wp_region_held_drew (S := fun X => X.cell? ⟨gm, 0, none⟩ = some (.slice RZ TZ.length cz) ∧ X.cell? ⟨bo, 1, none⟩ = some (.int .i64 x.client)) (by kernel_rfl) (HSS.out _ (below_drewN (Below.refl _ _) 1)) (fun hHeld => ?_)
            refine wpAnyH_take (i := 0) (oi := ({ dst := some 146, op := Op.move (Operand.tmp 13), type := 40, pos := "law.go:77", after := #[], guard := none } : Oper)) (v := ?_) rfl (by kernel_rfl) (by kernel_rfl) (by kernel_rfl) (fun _ _ _ h => h) (Or.inl ⟨by rfl, ?_⟩) (by assumption) ?_
            rotate_left
            · rintro w ⟨s0, s1⟩; (try dsimp only); go_simp; first | done | with_reducible rfl
            try simp only [Act.put, List.setIfInBounds_toArray, List.set_cons_zero, List.set_cons_succ]
            refine wpAnyH_take (i := 1) (oi := ({ dst := some 147, op := Op.move (Operand.tmp 14), type := 40, pos := "law.go:77", after := #[], guard := none } : Oper)) (v := ?_) rfl (by kernel_rfl) (by kernel_rfl) (by kernel_rfl) (fun _ _ _ h => h) (Or.inl ⟨by rfl, ?_⟩) (by assumption) ?_
            rotate_left
            · rintro w ⟨s0, s1⟩; (try dsimp only); go_simp; first | done | with_reducible rfl
            try simp only [Act.put, List.setIfInBounds_toArray, List.set_cons_zero, List.set_cons_succ]
            refine wpAnyH_take (i := 2) (oi := ({ dst := some 148, op := Op.binOp BinOp.neq 40 (Operand.tmp 146) (Operand.tmp 147) 40, type := 4, pos := "law.go:77", after := #[{ on := 0, ground := Ground.data }, { on := 1, ground := Ground.data }], guard := none } : Oper)) (v := ?_) rfl (by kernel_rfl) (by kernel_rfl) (by kernel_rfl) (fun _ _ _ h => h) (Or.inl ⟨by rfl, ?_⟩) (by assumption) ?_
            rotate_left
            · rintro w ⟨s0, s1⟩; (try dsimp only); go_simp; first | done | with_reducible rfl
            try simp only [Act.put, List.setIfInBounds_toArray, List.set_cons_zero, List.set_cons_succ]
            refine wpAnyH_take (i := 3) (oi := ({ dst := some 149, op := Op.move (Operand.tmp 148), type := 4, pos := "law.go:77", after := #[{ on := 2, ground := Ground.data }], guard := none } : Oper)) (v := ?_) rfl (by kernel_rfl) (by kernel_rfl) (by kernel_rfl) (fun _ _ _ h => h) (Or.inl ⟨by rfl, ?_⟩) (by assumption) ?_
            rotate_left
            · rintro w ⟨s0, s1⟩; (try dsimp only); go_simp; first | done | with_reducible rfl
            try simp only [Act.put, List.setIfInBounds_toArray, List.set_cons_zero, List.set_cons_succ]
            refine wpAnyH_take (i := 4) (oi := ({ dst := some 150, op := Op.move (Operand.tmp 15), type := 37, pos := "law.go:77", after := #[{ on := 3, ground := Ground.guard }], guard := some (3, false) } : Oper)) (v := ?_) rfl (by kernel_rfl) (by kernel_rfl) (by kernel_rfl) (fun _ _ _ h => h) (Or.inl ⟨by rfl, ?_⟩) (by assumption) ?_
            rotate_left
            · rintro w ⟨s0, s1⟩; (try dsimp only); go_simp; first | done | with_reducible rfl
            try simp only [Act.put, List.setIfInBounds_toArray, List.set_cons_zero, List.set_cons_succ]
            refine wpAnyH_take (i := 5) (oi := ({ dst := some 151, op := Op.move (Operand.tmp 16), type := 37, pos := "law.go:77", after := #[{ on := 3, ground := Ground.guard }], guard := some (3, false) } : Oper)) (v := ?_) rfl (by kernel_rfl) (by kernel_rfl) (by kernel_rfl) (fun _ _ _ h => h) (Or.inl ⟨by rfl, ?_⟩) (by assumption) ?_
            rotate_left
            · rintro w ⟨s0, s1⟩; (try dsimp only); go_simp; first | done | with_reducible rfl
            try simp only [Act.put, List.setIfInBounds_toArray, List.set_cons_zero, List.set_cons_succ]
            refine wpAnyH_ready (rs := [6]) (by kernel_rfl) (by simp) ?_
            refine AllReadyH.cons (o := ({ dst := some 152, op := Op.call { callee := Callee.value (Operand.func 23), args := #[Operand.tmp 150, Operand.tmp 151], argTypes := #[37, 37] }, type := 4, pos := "law.go:77", after := #[{ on := 4, ground := Ground.data }, { on := 5, ground := Ground.data }, { on := 3, ground := Ground.chain }, { on := 3, ground := Ground.guard }], guard := some (3, false) } : Oper)) rfl (fun K hK => ?_) AllReadyH.nil
            go_simp
            refine (HXY.out _ (below_drewN (Below.refl _ _) 1)).mono ?_
            rintro e u1 ⟨rfl, hq1⟩
            have HQ1 := Lib.hid (show Below wz.heap.size wz u1 from below_undrawn (n := 1) hq1)
            clear hq1
            go_wp2_with fail
            refine hK.out _ _ (HSS.out _ HQ1.out) (fun hHeld => ?_)
            clear hK K
            try simp only [Act.put, List.setIfInBounds_toArray, List.set_cons_zero, List.set_cons_succ]
            refine wpAnyH_take (i := 7) (oi := ({ dst := some 153, op := Op.unOp UnOp.not 4 (Operand.tmp 152), type := 4, pos := "law.go:77", after := #[{ on := 6, ground := Ground.data }, { on := 3, ground := Ground.guard }], guard := some (3, false) } : Oper)) (v := ?_) rfl (by kernel_rfl) (by kernel_rfl) (by kernel_rfl) (fun _ _ _ h => h) (Or.inl ⟨by rfl, ?_⟩) (by assumption) ?_
            rotate_left
            · rintro w ⟨s0, s1⟩; (try dsimp only); go_simp; first | done | with_reducible rfl
            try simp only [Act.put, List.setIfInBounds_toArray, List.set_cons_zero, List.set_cons_succ]
            refine wpAnyH_take (i := 8) (oi := ({ dst := some 154, op := Op.pick (Operand.tmp 149) (Operand.const (Value.bool true)) (Operand.tmp 153), type := 4, pos := "law.go:77", after := #[{ on := 3, ground := Ground.data }, { on := 7, ground := Ground.data }], guard := none } : Oper)) (v := ?_) rfl (by kernel_rfl) (by kernel_rfl) (by kernel_rfl) (fun _ _ _ h => h) (Or.inl ⟨by rfl, ?_⟩) (by assumption) ?_
            rotate_left
            · rintro w ⟨s0, s1⟩; (try dsimp only); go_simp; first | done | with_reducible rfl
            try simp only [Act.put, List.setIfInBounds_toArray, List.set_cons_zero, List.set_cons_succ]
            refine wpAnyH_take (i := 9) (oi := ({ dst := some 155, op := Op.move (Operand.tmp 154), type := 4, pos := "law.go:77", after := #[{ on := 8, ground := Ground.data }, { on := 6, ground := Ground.chain }], guard := none } : Oper)) (v := ?_) rfl (by kernel_rfl) (by kernel_rfl) (by kernel_rfl) (fun _ _ _ h => h) (Or.inl ⟨by rfl, ?_⟩) (by assumption) ?_
            rotate_left
            · rintro w ⟨s0, s1⟩; (try dsimp only); go_simp; first | done | with_reducible rfl
            try simp only [Act.put, List.setIfInBounds_toArray, List.set_cons_zero, List.set_cons_succ]
            refine wpAnyH_take (i := 10) (oi := ({ dst := some 156, op := Op.move (Operand.tmp 5), type := 26, pos := "law.go:77", after := #[{ on := 9, ground := Ground.guard }], guard := some (9, false) } : Oper)) (v := ?_) rfl (by kernel_rfl) (by kernel_rfl) (by kernel_rfl) (fun _ _ _ h => h) (Or.inl ⟨by rfl, ?_⟩) (by assumption) ?_
            rotate_left
            · rintro w ⟨s0, s1⟩; (try dsimp only); go_simp; first | done | with_reducible rfl
            try simp only [Act.put, List.setIfInBounds_toArray, List.set_cons_zero, List.set_cons_succ]
            refine wpAnyH_take (i := 12) (oi := ({ dst := some 158, op := Op.fieldAddr 29 (Operand.tmp 6) 0, type := 0, pos := "law.go:77", after := #[{ on := 9, ground := Ground.guard }], guard := some (9, false) } : Oper)) (v := ?_) rfl (by kernel_rfl) (by kernel_rfl) (by kernel_rfl) (fun _ _ _ h => h) (Or.inl ⟨by rfl, ?_⟩) (by assumption) ?_
            rotate_left
            · rintro w ⟨s0, s1⟩; (try dsimp only); go_simp; first | done | with_reducible rfl
            try simp only [Act.put, List.setIfInBounds_toArray, List.set_cons_zero, List.set_cons_succ]
            refine wpAnyH_take (i := 13) (oi := ({ dst := some 159, op := Op.load 23 (Operand.tmp 158), type := 23, pos := "law.go:77", after := #[{ on := 12, ground := Ground.data }, { on := 9, ground := Ground.guard }], guard := some (9, false) } : Oper)) (v := ?_) rfl (by kernel_rfl) (by kernel_rfl) (by kernel_rfl) (fun _ _ _ h => h) (Or.inl ⟨by rfl, ?_⟩) (by assumption) ?_
            rotate_left
            · rintro w ⟨s0, s1⟩; (try dsimp only); go_simp; first | done | with_reducible rfl
            try simp only [Act.put, List.setIfInBounds_toArray, List.set_cons_zero, List.set_cons_succ]
            refine wpAnyH_ready (rs := [11]) (by kernel_rfl) (by simp) ?_
            refine AllReadyH.cons (o := ({ dst := some 157, op := Op.call { callee := Callee.value (Operand.func 24), args := #[Operand.tmp 156], argTypes := #[26] }, type := 23, pos := "law.go:77", after := #[{ on := 10, ground := Ground.data }, { on := 9, ground := Ground.chain }, { on := 9, ground := Ground.guard }], guard := some (9, false) } : Oper)) rfl (fun K hK => ?_) AllReadyH.nil
            go_simp
            refine (HAQ.out _ HQ1.out).mono ?_
            rintro e u2 ⟨AQ, cq, rfl, hoq, hq2⟩
            have HQ2 := Lib.hid (HQ1.out.trans (hq2.mono HQ1.out.size))
            have HOQ := Lib.hid hoq
            clear hq2 hoq
            go_wp2_with fail
            refine hK.out _ _ (HSS.out _ HQ2.out) (fun hHeld => ?_)
            clear hK K
            try simp only [Act.put, List.setIfInBounds_toArray, List.set_cons_zero, List.set_cons_succ]
            refine wpAnyH_ready (rs := [14]) (by kernel_rfl) (by simp) ?_
            refine AllReadyH.cons (o := ({ dst := some 160, op := Op.call { callee := Callee.value (Operand.func 13), args := #[Operand.tmp 157, Operand.tmp 159], argTypes := #[23, 23] }, type := 4, pos := "law.go:77", after := #[{ on := 11, ground := Ground.data }, { on := 13, ground := Ground.data }, { on := 11, ground := Ground.chain }, { on := 9, ground := Ground.guard }], guard := some (9, false) } : Oper)) rfl (fun K hK => ?_) AllReadyH.nil
            go_simp
            refine (HSQ.out _ _ _ (HOQ.out.rds fun _ _ => trivial) HQ2.out).mono ?_
            rintro e u3 ⟨rfl, hq3⟩
            have HQ3 := Lib.hid (HQ2.out.trans (hq3.mono HQ2.out.size))
            clear hq3
            go_wp2_with fail
            refine hK.out _ _ (HSS.out _ HQ3.out) (fun hHeld => ?_)
            clear hK K
            try simp only [Act.put, List.setIfInBounds_toArray, List.set_cons_zero, List.set_cons_succ]
            refine wpAnyH_take (i := 15) (oi := ({ dst := some 161, op := Op.unOp UnOp.not 4 (Operand.tmp 160), type := 4, pos := "law.go:77", after := #[{ on := 14, ground := Ground.data }, { on := 9, ground := Ground.guard }], guard := some (9, false) } : Oper)) (v := ?_) rfl (by kernel_rfl) (by kernel_rfl) (by kernel_rfl) (fun _ _ _ h => h) (Or.inl ⟨by rfl, ?_⟩) (by assumption) ?_
            rotate_left
            · rintro w ⟨s0, s1⟩; (try dsimp only); go_simp; first | done | with_reducible rfl
            try simp only [Act.put, List.setIfInBounds_toArray, List.set_cons_zero, List.set_cons_succ]
            refine wpAnyH_take (i := 16) (oi := ({ dst := some 162, op := Op.pick (Operand.tmp 155) (Operand.const (Value.bool true)) (Operand.tmp 161), type := 4, pos := "law.go:77", after := #[{ on := 9, ground := Ground.data }, { on := 15, ground := Ground.data }], guard := none } : Oper)) (v := ?_) rfl (by kernel_rfl) (by kernel_rfl) (by kernel_rfl) (fun _ _ _ h => h) (Or.inl ⟨by rfl, ?_⟩) (by assumption) ?_
            rotate_left
            · rintro w ⟨s0, s1⟩; (try dsimp only); go_simp; first | done | with_reducible rfl
            try simp only [Act.put, List.setIfInBounds_toArray, List.set_cons_zero, List.set_cons_succ]
            refine wpAnyH_take (i := 17) (oi := ({ dst := some 163, op := Op.move (Operand.tmp 162), type := 4, pos := "law.go:77", after := #[{ on := 16, ground := Ground.data }, { on := 14, ground := Ground.chain }], guard := none } : Oper)) (v := ?_) rfl (by kernel_rfl) (by kernel_rfl) (by kernel_rfl) (fun _ _ _ h => h) (Or.inl ⟨by rfl, ?_⟩) (by assumption) ?_
            rotate_left
            · rintro w ⟨s0, s1⟩; (try dsimp only); go_simp; first | done | with_reducible rfl
            try simp only [Act.put, List.setIfInBounds_toArray, List.set_cons_zero, List.set_cons_succ]
            refine wpAnyH_take (i := 18) (oi := ({ dst := some 164, op := Op.move (Operand.tmp 5), type := 26, pos := "law.go:77", after := #[{ on := 17, ground := Ground.guard }], guard := some (17, false) } : Oper)) (v := ?_) rfl (by kernel_rfl) (by kernel_rfl) (by kernel_rfl) (fun _ _ _ h => h) (Or.inl ⟨by rfl, ?_⟩) (by assumption) ?_
            rotate_left
            · rintro w ⟨s0, s1⟩; (try dsimp only); go_simp; first | done | with_reducible rfl
            try simp only [Act.put, List.setIfInBounds_toArray, List.set_cons_zero, List.set_cons_succ]
            refine wpAnyH_take (i := 19) (oi := ({ dst := some 165, op := Op.fieldAddr 39 (Operand.tmp 12) 1, type := 0, pos := "law.go:77", after := #[{ on := 17, ground := Ground.guard }], guard := some (17, false) } : Oper)) (v := ?_) rfl (by kernel_rfl) (by kernel_rfl) (by kernel_rfl) (fun _ _ _ h => h) (Or.inl ⟨by rfl, ?_⟩) (by assumption) ?_
            rotate_left
            · rintro w ⟨s0, s1⟩; (try dsimp only); go_simp; first | done | with_reducible rfl
            try simp only [Act.put, List.setIfInBounds_toArray, List.set_cons_zero, List.set_cons_succ]
            refine wpAnyH_take (i := 20) (oi := ({ dst := some 166, op := Op.load 3 (Operand.tmp 165), type := 3, pos := "law.go:77", after := #[{ on := 19, ground := Ground.data }, { on := 17, ground := Ground.guard }], guard := some (17, false) } : Oper)) (v := ?_) rfl (by kernel_rfl) (by kernel_rfl) (by kernel_rfl) (fun _ _ _ h => h) (Or.inl ⟨by rfl, ?_⟩) (by assumption) ?_
            rotate_left
            · rintro w ⟨s0, s1⟩; (try dsimp only); go_simp; first | done | with_reducible rfl
            try simp only [Act.put, List.setIfInBounds_toArray, List.set_cons_zero, List.set_cons_succ]
            refine wpAnyH_take (i := 22) (oi := ({ dst := some 168, op := Op.load 29 (Operand.tmp 6), type := 29, pos := "law.go:77", after := #[{ on := 17, ground := Ground.guard }], guard := some (17, false) } : Oper)) (v := ?_) rfl (by kernel_rfl) (by kernel_rfl) (by kernel_rfl) (fun _ _ _ h => h) (Or.inl ⟨by rfl, ?_⟩) (by assumption) ?_
            rotate_left
            · rintro w ⟨s0, s1⟩; (try dsimp only); go_simp; first | done | with_reducible rfl
            try simp only [Act.put, List.setIfInBounds_toArray, List.set_cons_zero, List.set_cons_succ]
            refine wpAnyH_take (i := 23) (oi := ({ dst := some 169, op := Op.fieldAddr 39 (Operand.tmp 12) 1, type := 0, pos := "law.go:77", after := #[{ on := 17, ground := Ground.guard }], guard := some (17, false) } : Oper)) (v := ?_) rfl (by kernel_rfl) (by kernel_rfl) (by kernel_rfl) (fun _ _ _ h => h) (Or.inl ⟨by rfl, ?_⟩) (by assumption) ?_
            rotate_left
            · rintro w ⟨s0, s1⟩; (try dsimp only); go_simp; first | done | with_reducible rfl
            try simp only [Act.put, List.setIfInBounds_toArray, List.set_cons_zero, List.set_cons_succ]
            refine wpAnyH_take (i := 24) (oi := ({ dst := some 170, op := Op.load 3 (Operand.tmp 169), type := 3, pos := "law.go:77", after := #[{ on := 23, ground := Ground.data }, { on := 17, ground := Ground.guard }], guard := some (17, false) } : Oper)) (v := ?_) rfl (by kernel_rfl) (by kernel_rfl) (by kernel_rfl) (fun _ _ _ h => h) (Or.inl ⟨by rfl, ?_⟩) (by assumption) ?_
            rotate_left
            · rintro w ⟨s0, s1⟩; (try dsimp only); go_simp; first | done | with_reducible rfl
            try simp only [Act.put, List.setIfInBounds_toArray, List.set_cons_zero, List.set_cons_succ]
            refine wpAnyH_ready (rs := [21]) (by kernel_rfl) (by simp) ?_
            refine AllReadyH.cons (o := ({ dst := some 167, op := Op.call { callee := Callee.value (Operand.func 25), args := #[Operand.tmp 164, Operand.tmp 166], argTypes := #[26, 3] }, type := 4, pos := "law.go:77", after := #[{ on := 18, ground := Ground.data }, { on := 20, ground := Ground.data }, { on := 17, ground := Ground.chain }, { on := 17, ground := Ground.guard }], guard := some (17, false) } : Oper)) rfl (fun K hK => ?_) AllReadyH.nil
            go_simp
            refine (HLQ.out _ HQ3.out).mono ?_
            rintro e u4 ⟨rfl, hq4⟩
            have HQ4 := Lib.hid (HQ3.out.trans (hq4.mono HQ3.out.size))
            clear hq4
            go_wp2_with fail
            refine hK.out _ _ (HSS.out _ HQ4.out) (fun hHeld => ?_)
            clear hK K
            try simp only [Act.put, List.setIfInBounds_toArray, List.set_cons_zero, List.set_cons_succ]
            refine wpAnyH_ready (rs := [25]) (by kernel_rfl) (by simp) ?_
            refine AllReadyH.cons (o := ({ dst := some 171, op := Op.call { callee := Callee.value (Operand.func 26), args := #[Operand.tmp 168, Operand.tmp 170], argTypes := #[29, 3] }, type := 4, pos := "law.go:77", after := #[{ on := 22, ground := Ground.data }, { on := 24, ground := Ground.data }, { on := 21, ground := Ground.chain }, { on := 17, ground := Ground.guard }], guard := some (17, false) } : Oper)) rfl (fun K hK => ?_) AllReadyH.nil
            go_simp
            refine (HVQ.out _ HQ4.out).mono ?_
            rintro e u5 ⟨rfl, hq5⟩
            have HQ5 := Lib.hid (HQ4.out.trans (hq5.mono HQ4.out.size))
            clear hq5
            go_wp2_with fail
            refine hK.out _ _ (HSS.out _ HQ5.out) (fun hHeld => ?_)
            clear hK K
            try simp only [Act.put, List.setIfInBounds_toArray, List.set_cons_zero, List.set_cons_succ]
            refine wpAnyH_take (i := 26) (oi := ({ dst := some 172, op := Op.binOp BinOp.neq 4 (Operand.tmp 167) (Operand.tmp 171) 4, type := 4, pos := "law.go:77", after := #[{ on := 21, ground := Ground.data }, { on := 25, ground := Ground.data }, { on := 17, ground := Ground.guard }], guard := some (17, false) } : Oper)) (v := ?_) rfl (by kernel_rfl) (by kernel_rfl) (by kernel_rfl) (fun _ _ _ h => h) (Or.inl ⟨by rfl, ?_⟩) (by assumption) ?_
            rotate_left
            · rintro w ⟨s0, s1⟩; (try dsimp only); go_simp; first | done | with_reducible rfl
            try simp only [Act.put, List.setIfInBounds_toArray, List.set_cons_zero, List.set_cons_succ]
            refine wpAnyH_take (i := 27) (oi := ({ dst := some 173, op := Op.pick (Operand.tmp 163) (Operand.const (Value.bool true)) (Operand.tmp 172), type := 4, pos := "law.go:77", after := #[{ on := 17, ground := Ground.data }, { on := 26, ground := Ground.data }], guard := none } : Oper)) (v := ?_) rfl (by kernel_rfl) (by kernel_rfl) (by kernel_rfl) (fun _ _ _ h => h) (Or.inl ⟨by rfl, ?_⟩) (by assumption) ?_
            rotate_left
            · rintro w ⟨s0, s1⟩; (try dsimp only); go_simp; first | done | with_reducible rfl
            try simp only [Act.put, List.setIfInBounds_toArray, List.set_cons_zero, List.set_cons_succ]
            refine wpAnyH_done (by kernel_rfl) ?_ _
            go_wp2_with fail
            go_roundw
            case rel => exact ⟨k + 1, GZ, TZ, HLT.out, by go_num, HTZ.out.kept HQ5.out, HRZ.out.below HQ5.out⟩
            case measure => have := HLT.out; simp [intOf]; omega
          have q1 : (what == 1) = false := by simpa using hw1
          clear hw1
          by_cases hw2 : what = 2
          · have q2 : (what == 2) = true := by simpa using hw2
            clear hw2
            obtain ⟨ev, hev⟩ : ∃ ev, ev = (seTouch x.client x.seen T).2 := ⟨_, rfl⟩
            obtain ⟨TZ, hTZ⟩ : ∃ TZ, TZ = (seTouch x.client x.seen T).1 := ⟨_, rfl⟩
            have HCA := Lib.hid (show Calls Try.prog 16 #[.pointer (some ⟨g, 0, none⟩), .int .i64 x.client, .int .i64 x.seen] wa (MvS G w g TZ (.int .i64 ev) wa) from by
              rw [hTZ, hev]; exact HTA.out.touch_ HC.out x.client x.seen HWF.out)
            clear d4
            go_wp2_with fail
            refine HCA.out.mono ?_
            rintro e w5 ⟨rfl, GZ, t5, f5, cg5⟩
            have HT5 := Lib.hid t5
            have HR5 := Lib.hid (HRA.out.did cg5 f5)
            have HK5 := Lib.hid (cg5.bk HKB.out HNB.out.1)
            obtain ⟨RA, rc, kg, hrd, hng⟩ := HR5.out
            have HKG := Lib.hid kg
            have m5 := kg.at_ (i := 0) rfl
            have HRC := Lib.hid (show Calls Try.prog 17 #[.agg #[.slice RA T.length rc], .int .i64 x.client, .int .i64 x.seen] w5 (RefB _ [.int .i64 ev] TZ w5) from by
              rw [hTZ, hev]; exact refTouch_any RA rc T _ x.client x.seen w5 hrd (by have := HTA.out.ok.len; omega))
            clear kg hrd hng t5 f5 cg5 HCA d0 d1 d2 d3 hev hTZ
            obtain ⟨d1, d2, d3⟩ : w5.cell? ⟨bo, 1, none⟩ = some (.int .i64 x.client) ∧ w5.cell? ⟨bo, 2, none⟩ = some (.int .i64 x.span) ∧ w5.cell? ⟨bo, 3, none⟩ = some (.int .i64 x.seen) := ⟨HK5.out.at_ rfl, HK5.out.at_ rfl, HK5.out.at_ rfl⟩
            go_wp2_with fail
            refine HRC.out.mono ?_
            rintro e w7 ⟨hb7, A7, c7, rfl, hr7⟩
            have m7 : w7.cell? ⟨gm, 0, none⟩ = some (.slice RA T.length rc) := (HKG.out.kept hb7).at_ rfl
            have z7 : w7.frozen? ⟨gm, 0, none⟩ = false := (HKG.out.kept hb7).frozen 0
            have HRZ := Lib.hid (HR5.out.put hb7 (fun b hb => (HT5.out.low b hb).2) hr7)
            have HTZ := Lib.hid ((HT5.out.kept hb7).set_far (v := .slice A7 TZ.length c7) HR5.out.notin HGM.out)
            have HKZ := Lib.hid ((HK5.out.kept hb7).far (p := ⟨gm, 0, none⟩) HNB.out.2 (.slice A7 TZ.length c7))
            obtain ⟨wz, hwz⟩ : ∃ wz, wz = w7.setCell ⟨gm, 0, none⟩ (.slice A7 TZ.length c7) := ⟨_, rfl⟩
            rw [← hwz] at HRZ HTZ HKZ
            have HXY := Lib.hid (HE0.out wz)
            have qe : (ev != ev) = false := by simp
            clear hb7 hr7 HRC d1 d2 d3
            go_upto_region 42 with fail
            rw [← hwz]
            clear hwz m5 m7 z7
            obtain ⟨RZ, cz, kz, rz, -⟩ := HRZ.out
            have HRS := Lib.hid rz
            have HKQ := Lib.hid kz
            have HSS := Lib.hid (fun X (hX : Below wz.heap.size wz X) => show X.cell? ⟨gm, 0, none⟩ = some (.slice RZ TZ.length cz) ∧ X.cell? ⟨bo, 1, none⟩ = some (.int .i64 x.client) from ⟨(HKQ.out.kept hX).at_ rfl, (HKZ.out.kept hX).at_ rfl⟩)
            obtain ⟨lb, hlb⟩ : ∃ lb, lb = seLive x.client TZ := ⟨_, rfl⟩
            have ql : (lb != lb) = false := by simp
            have HAQ := Lib.hid (fun W (hW : Below wz.heap.size wz W) => (HTZ.out.kept hW).all_ HC.out)
            have HSQ := Lib.hid (fun W A c (ho : RdS RSe AllB W A c TZ) (hW : Below wz.heap.size wz W) => show Calls Try.prog 13 #[.slice A TZ.length c, .slice RZ TZ.length cz] W (Ans (.bool true) W) from by
              have := sameE_any A RZ c cz W AllB _ _ _ ho (HRS.out.below hW) (by have := HTZ.out.ok.len; omega)
              rwa [decide_eq_true rfl] at this)
            have HLQ := Lib.hid (fun W (hW : Below wz.heap.size wz W) => show Calls Try.prog 25 #[.pointer (some ⟨g, 0, none⟩), .int .i64 x.client] W (Ans (.bool lb) W) from by rw [hlb]; exact (HTZ.out.kept hW).live_ HC.out x.client HWF.out)
            have HVQ := Lib.hid (fun W (hW : Below wz.heap.size wz W) => show Calls Try.prog 26 #[.agg #[.slice RZ TZ.length cz], .int .i64 x.client] W (Ans (.bool lb) W) from by rw [hlb]; exact refLive_any RZ cz TZ _ x.client W (HRS.out.below hW) (by have := HTZ.out.ok.len; omega))
            clear kz rz hlb
            refine wp_region_held_drew (S := fun X => X.cell? ⟨gm, 0, none⟩ = some (.slice RZ TZ.length cz) ∧ X.cell? ⟨bo, 1, none⟩ = some (.int .i64 x.client)) (by kernel_rfl) (HSS.out _ (below_drewN (Below.refl _ _) 1)) (fun hHeld => ?_)
            refine wpAnyH_take (i := 0) (oi := ({ dst := some 146, op := Op.move (Operand.tmp 13), type := 40, pos := "law.go:77", after := #[], guard := none } : Oper)) (v := ?_) rfl (by kernel_rfl) (by kernel_rfl) (by kernel_rfl) (fun _ _ _ h => h) (Or.inl ⟨by rfl, ?_⟩) (by assumption) ?_
            rotate_left
            · rintro w ⟨s0, s1⟩; (try dsimp only); go_simp; first | done | with_reducible rfl
            try simp only [Act.put, List.setIfInBounds_toArray, List.set_cons_zero, List.set_cons_succ]
            refine wpAnyH_take (i := 1) (oi := ({ dst := some 147, op := Op.move (Operand.tmp 14), type := 40, pos := "law.go:77", after := #[], guard := none } : Oper)) (v := ?_) rfl (by kernel_rfl) (by kernel_rfl) (by kernel_rfl) (fun _ _ _ h => h) (Or.inl ⟨by rfl, ?_⟩) (by assumption) ?_
            rotate_left
            · rintro w ⟨s0, s1⟩; (try dsimp only); go_simp; first | done | with_reducible rfl
            try simp only [Act.put, List.setIfInBounds_toArray, List.set_cons_zero, List.set_cons_succ]
            refine wpAnyH_take (i := 2) (oi := ({ dst := some 148, op := Op.binOp BinOp.neq 40 (Operand.tmp 146) (Operand.tmp 147) 40, type := 4, pos := "law.go:77", after := #[{ on := 0, ground := Ground.data }, { on := 1, ground := Ground.data }], guard := none } : Oper)) (v := ?_) rfl (by kernel_rfl) (by kernel_rfl) (by kernel_rfl) (fun _ _ _ h => h) (Or.inl ⟨by rfl, ?_⟩) (by assumption) ?_
            rotate_left
            · rintro w ⟨s0, s1⟩; (try dsimp only); go_simp; first | done | with_reducible rfl
            try simp only [Act.put, List.setIfInBounds_toArray, List.set_cons_zero, List.set_cons_succ]
            refine wpAnyH_take (i := 3) (oi := ({ dst := some 149, op := Op.move (Operand.tmp 148), type := 4, pos := "law.go:77", after := #[{ on := 2, ground := Ground.data }], guard := none } : Oper)) (v := ?_) rfl (by kernel_rfl) (by kernel_rfl) (by kernel_rfl) (fun _ _ _ h => h) (Or.inl ⟨by rfl, ?_⟩) (by assumption) ?_
            rotate_left
            · rintro w ⟨s0, s1⟩; (try dsimp only); go_simp; first | done | with_reducible rfl
            try simp only [Act.put, List.setIfInBounds_toArray, List.set_cons_zero, List.set_cons_succ]
            refine wpAnyH_take (i := 4) (oi := ({ dst := some 150, op := Op.move (Operand.tmp 15), type := 37, pos := "law.go:77", after := #[{ on := 3, ground := Ground.guard }], guard := some (3, false) } : Oper)) (v := ?_) rfl (by kernel_rfl) (by kernel_rfl) (by kernel_rfl) (fun _ _ _ h => h) (Or.inl ⟨by rfl, ?_⟩) (by assumption) ?_
            rotate_left
            · rintro w ⟨s0, s1⟩; (try dsimp only); go_simp; first | done | with_reducible rfl
            try simp only [Act.put, List.setIfInBounds_toArray, List.set_cons_zero, List.set_cons_succ]
            refine wpAnyH_take (i := 5) (oi := ({ dst := some 151, op := Op.move (Operand.tmp 16), type := 37, pos := "law.go:77", after := #[{ on := 3, ground := Ground.guard }], guard := some (3, false) } : Oper)) (v := ?_) rfl (by kernel_rfl) (by kernel_rfl) (by kernel_rfl) (fun _ _ _ h => h) (Or.inl ⟨by rfl, ?_⟩) (by assumption) ?_
            rotate_left
            · rintro w ⟨s0, s1⟩; (try dsimp only); go_simp; first | done | with_reducible rfl
            try simp only [Act.put, List.setIfInBounds_toArray, List.set_cons_zero, List.set_cons_succ]
            refine wpAnyH_ready (rs := [6]) (by kernel_rfl) (by simp) ?_
            refine AllReadyH.cons (o := ({ dst := some 152, op := Op.call { callee := Callee.value (Operand.func 23), args := #[Operand.tmp 150, Operand.tmp 151], argTypes := #[37, 37] }, type := 4, pos := "law.go:77", after := #[{ on := 4, ground := Ground.data }, { on := 5, ground := Ground.data }, { on := 3, ground := Ground.chain }, { on := 3, ground := Ground.guard }], guard := some (3, false) } : Oper)) rfl (fun K hK => ?_) AllReadyH.nil
            go_simp
            refine (HXY.out _ (below_drewN (Below.refl _ _) 1)).mono ?_
            rintro e u1 ⟨rfl, hq1⟩
            have HQ1 := Lib.hid (show Below wz.heap.size wz u1 from below_undrawn (n := 1) hq1)
            clear hq1
            go_wp2_with fail
            refine hK.out _ _ (HSS.out _ HQ1.out) (fun hHeld => ?_)
            clear hK K
            try simp only [Act.put, List.setIfInBounds_toArray, List.set_cons_zero, List.set_cons_succ]
            refine wpAnyH_take (i := 7) (oi := ({ dst := some 153, op := Op.unOp UnOp.not 4 (Operand.tmp 152), type := 4, pos := "law.go:77", after := #[{ on := 6, ground := Ground.data }, { on := 3, ground := Ground.guard }], guard := some (3, false) } : Oper)) (v := ?_) rfl (by kernel_rfl) (by kernel_rfl) (by kernel_rfl) (fun _ _ _ h => h) (Or.inl ⟨by rfl, ?_⟩) (by assumption) ?_
            rotate_left
            · rintro w ⟨s0, s1⟩; (try dsimp only); go_simp; first | done | with_reducible rfl
            try simp only [Act.put, List.setIfInBounds_toArray, List.set_cons_zero, List.set_cons_succ]
            refine wpAnyH_take (i := 8) (oi := ({ dst := some 154, op := Op.pick (Operand.tmp 149) (Operand.const (Value.bool true)) (Operand.tmp 153), type := 4, pos := "law.go:77", after := #[{ on := 3, ground := Ground.data }, { on := 7, ground := Ground.data }], guard := none } : Oper)) (v := ?_) rfl (by kernel_rfl) (by kernel_rfl) (by kernel_rfl) (fun _ _ _ h => h) (Or.inl ⟨by rfl, ?_⟩) (by assumption) ?_
            rotate_left
            · rintro w ⟨s0, s1⟩; (try dsimp only); go_simp; first | done | with_reducible rfl
            try simp only [Act.put, List.setIfInBounds_toArray, List.set_cons_zero, List.set_cons_succ]
            refine wpAnyH_take (i := 9) (oi := ({ dst := some 155, op := Op.move (Operand.tmp 154), type := 4, pos := "law.go:77", after := #[{ on := 8, ground := Ground.data }, { on := 6, ground := Ground.chain }], guard := none } : Oper)) (v := ?_) rfl (by kernel_rfl) (by kernel_rfl) (by kernel_rfl) (fun _ _ _ h => h) (Or.inl ⟨by rfl, ?_⟩) (by assumption) ?_
            rotate_left
            · rintro w ⟨s0, s1⟩; (try dsimp only); go_simp; first | done | with_reducible rfl
            try simp only [Act.put, List.setIfInBounds_toArray, List.set_cons_zero, List.set_cons_succ]
            refine wpAnyH_take (i := 10) (oi := ({ dst := some 156, op := Op.move (Operand.tmp 5), type := 26, pos := "law.go:77", after := #[{ on := 9, ground := Ground.guard }], guard := some (9, false) } : Oper)) (v := ?_) rfl (by kernel_rfl) (by kernel_rfl) (by kernel_rfl) (fun _ _ _ h => h) (Or.inl ⟨by rfl, ?_⟩) (by assumption) ?_
            rotate_left
            · rintro w ⟨s0, s1⟩; (try dsimp only); go_simp; first | done | with_reducible rfl
            try simp only [Act.put, List.setIfInBounds_toArray, List.set_cons_zero, List.set_cons_succ]
            refine wpAnyH_take (i := 12) (oi := ({ dst := some 158, op := Op.fieldAddr 29 (Operand.tmp 6) 0, type := 0, pos := "law.go:77", after := #[{ on := 9, ground := Ground.guard }], guard := some (9, false) } : Oper)) (v := ?_) rfl (by kernel_rfl) (by kernel_rfl) (by kernel_rfl) (fun _ _ _ h => h) (Or.inl ⟨by rfl, ?_⟩) (by assumption) ?_
            rotate_left
            · rintro w ⟨s0, s1⟩; (try dsimp only); go_simp; first | done | with_reducible rfl
            try simp only [Act.put, List.setIfInBounds_toArray, List.set_cons_zero, List.set_cons_succ]
            refine wpAnyH_take (i := 13) (oi := ({ dst := some 159, op := Op.load 23 (Operand.tmp 158), type := 23, pos := "law.go:77", after := #[{ on := 12, ground := Ground.data }, { on := 9, ground := Ground.guard }], guard := some (9, false) } : Oper)) (v := ?_) rfl (by kernel_rfl) (by kernel_rfl) (by kernel_rfl) (fun _ _ _ h => h) (Or.inl ⟨by rfl, ?_⟩) (by assumption) ?_
            rotate_left
            · rintro w ⟨s0, s1⟩; (try dsimp only); go_simp; first | done | with_reducible rfl
            try simp only [Act.put, List.setIfInBounds_toArray, List.set_cons_zero, List.set_cons_succ]
            refine wpAnyH_ready (rs := [11]) (by kernel_rfl) (by simp) ?_
            refine AllReadyH.cons (o := ({ dst := some 157, op := Op.call { callee := Callee.value (Operand.func 24), args := #[Operand.tmp 156], argTypes := #[26] }, type := 23, pos := "law.go:77", after := #[{ on := 10, ground := Ground.data }, { on := 9, ground := Ground.chain }, { on := 9, ground := Ground.guard }], guard := some (9, false) } : Oper)) rfl (fun K hK => ?_) AllReadyH.nil
            go_simp
            refine (HAQ.out _ HQ1.out).mono ?_
            rintro e u2 ⟨AQ, cq, rfl, hoq, hq2⟩
            have HQ2 := Lib.hid (HQ1.out.trans (hq2.mono HQ1.out.size))
            have HOQ := Lib.hid hoq
            clear hq2 hoq
            go_wp2_with fail
            refine hK.out _ _ (HSS.out _ HQ2.out) (fun hHeld => ?_)
            clear hK K
            try simp only [Act.put, List.setIfInBounds_toArray, List.set_cons_zero, List.set_cons_succ]
            refine wpAnyH_ready (rs := [14]) (by kernel_rfl) (by simp) ?_
            refine AllReadyH.cons (o := ({ dst := some 160, op := Op.call { callee := Callee.value (Operand.func 13), args := #[Operand.tmp 157, Operand.tmp 159], argTypes := #[23, 23] }, type := 4, pos := "law.go:77", after := #[{ on := 11, ground := Ground.data }, { on := 13, ground := Ground.data }, { on := 11, ground := Ground.chain }, { on := 9, ground := Ground.guard }], guard := some (9, false) } : Oper)) rfl (fun K hK => ?_) AllReadyH.nil
            go_simp
            refine (HSQ.out _ _ _ (HOQ.out.rds fun _ _ => trivial) HQ2.out).mono ?_
            rintro e u3 ⟨rfl, hq3⟩
            have HQ3 := Lib.hid (HQ2.out.trans (hq3.mono HQ2.out.size))
            clear hq3
            go_wp2_with fail
            refine hK.out _ _ (HSS.out _ HQ3.out) (fun hHeld => ?_)
            clear hK K
            try simp only [Act.put, List.setIfInBounds_toArray, List.set_cons_zero, List.set_cons_succ]
            refine wpAnyH_take (i := 15) (oi := ({ dst := some 161, op := Op.unOp UnOp.not 4 (Operand.tmp 160), type := 4, pos := "law.go:77", after := #[{ on := 14, ground := Ground.data }, { on := 9, ground := Ground.guard }], guard := some (9, false) } : Oper)) (v := ?_) rfl (by kernel_rfl) (by kernel_rfl) (by kernel_rfl) (fun _ _ _ h => h) (Or.inl ⟨by rfl, ?_⟩) (by assumption) ?_
            rotate_left
            · rintro w ⟨s0, s1⟩; (try dsimp only); go_simp; first | done | with_reducible rfl
            try simp only [Act.put, List.setIfInBounds_toArray, List.set_cons_zero, List.set_cons_succ]
            refine wpAnyH_take (i := 16) (oi := ({ dst := some 162, op := Op.pick (Operand.tmp 155) (Operand.const (Value.bool true)) (Operand.tmp 161), type := 4, pos := "law.go:77", after := #[{ on := 9, ground := Ground.data }, { on := 15, ground := Ground.data }], guard := none } : Oper)) (v := ?_) rfl (by kernel_rfl) (by kernel_rfl) (by kernel_rfl) (fun _ _ _ h => h) (Or.inl ⟨by rfl, ?_⟩) (by assumption) ?_
            rotate_left
            · rintro w ⟨s0, s1⟩; (try dsimp only); go_simp; first | done | with_reducible rfl
            try simp only [Act.put, List.setIfInBounds_toArray, List.set_cons_zero, List.set_cons_succ]
            refine wpAnyH_take (i := 17) (oi := ({ dst := some 163, op := Op.move (Operand.tmp 162), type := 4, pos := "law.go:77", after := #[{ on := 16, ground := Ground.data }, { on := 14, ground := Ground.chain }], guard := none } : Oper)) (v := ?_) rfl (by kernel_rfl) (by kernel_rfl) (by kernel_rfl) (fun _ _ _ h => h) (Or.inl ⟨by rfl, ?_⟩) (by assumption) ?_
            rotate_left
            · rintro w ⟨s0, s1⟩; (try dsimp only); go_simp; first | done | with_reducible rfl
            try simp only [Act.put, List.setIfInBounds_toArray, List.set_cons_zero, List.set_cons_succ]
            refine wpAnyH_take (i := 18) (oi := ({ dst := some 164, op := Op.move (Operand.tmp 5), type := 26, pos := "law.go:77", after := #[{ on := 17, ground := Ground.guard }], guard := some (17, false) } : Oper)) (v := ?_) rfl (by kernel_rfl) (by kernel_rfl) (by kernel_rfl) (fun _ _ _ h => h) (Or.inl ⟨by rfl, ?_⟩) (by assumption) ?_
            rotate_left
            · rintro w ⟨s0, s1⟩; (try dsimp only); go_simp; first | done | with_reducible rfl
            try simp only [Act.put, List.setIfInBounds_toArray, List.set_cons_zero, List.set_cons_succ]
            refine wpAnyH_take (i := 19) (oi := ({ dst := some 165, op := Op.fieldAddr 39 (Operand.tmp 12) 1, type := 0, pos := "law.go:77", after := #[{ on := 17, ground := Ground.guard }], guard := some (17, false) } : Oper)) (v := ?_) rfl (by kernel_rfl) (by kernel_rfl) (by kernel_rfl) (fun _ _ _ h => h) (Or.inl ⟨by rfl, ?_⟩) (by assumption) ?_
            rotate_left
            · rintro w ⟨s0, s1⟩; (try dsimp only); go_simp; first | done | with_reducible rfl
            try simp only [Act.put, List.setIfInBounds_toArray, List.set_cons_zero, List.set_cons_succ]
            refine wpAnyH_take (i := 20) (oi := ({ dst := some 166, op := Op.load 3 (Operand.tmp 165), type := 3, pos := "law.go:77", after := #[{ on := 19, ground := Ground.data }, { on := 17, ground := Ground.guard }], guard := some (17, false) } : Oper)) (v := ?_) rfl (by kernel_rfl) (by kernel_rfl) (by kernel_rfl) (fun _ _ _ h => h) (Or.inl ⟨by rfl, ?_⟩) (by assumption) ?_
            rotate_left
            · rintro w ⟨s0, s1⟩; (try dsimp only); go_simp; first | done | with_reducible rfl
            try simp only [Act.put, List.setIfInBounds_toArray, List.set_cons_zero, List.set_cons_succ]
            refine wpAnyH_take (i := 22) (oi := ({ dst := some 168, op := Op.load 29 (Operand.tmp 6), type := 29, pos := "law.go:77", after := #[{ on := 17, ground := Ground.guard }], guard := some (17, false) } : Oper)) (v := ?_) rfl (by kernel_rfl) (by kernel_rfl) (by kernel_rfl) (fun _ _ _ h => h) (Or.inl ⟨by rfl, ?_⟩) (by assumption) ?_
            rotate_left
            · rintro w ⟨s0, s1⟩; (try dsimp only); go_simp; first | done | with_reducible rfl
            try simp only [Act.put, List.setIfInBounds_toArray, List.set_cons_zero, List.set_cons_succ]
            refine wpAnyH_take (i := 23) (oi := ({ dst := some 169, op := Op.fieldAddr 39 (Operand.tmp 12) 1, type := 0, pos := "law.go:77", after := #[{ on := 17, ground := Ground.guard }], guard := some (17, false) } : Oper)) (v := ?_) rfl (by kernel_rfl) (by kernel_rfl) (by kernel_rfl) (fun _ _ _ h => h) (Or.inl ⟨by rfl, ?_⟩) (by assumption) ?_
            rotate_left
            · rintro w ⟨s0, s1⟩; (try dsimp only); go_simp; first | done | with_reducible rfl
            try simp only [Act.put, List.setIfInBounds_toArray, List.set_cons_zero, List.set_cons_succ]
            refine wpAnyH_take (i := 24) (oi := ({ dst := some 170, op := Op.load 3 (Operand.tmp 169), type := 3, pos := "law.go:77", after := #[{ on := 23, ground := Ground.data }, { on := 17, ground := Ground.guard }], guard := some (17, false) } : Oper)) (v := ?_) rfl (by kernel_rfl) (by kernel_rfl) (by kernel_rfl) (fun _ _ _ h => h) (Or.inl ⟨by rfl, ?_⟩) (by assumption) ?_
            rotate_left
            · rintro w ⟨s0, s1⟩; (try dsimp only); go_simp; first | done | with_reducible rfl
            try simp only [Act.put, List.setIfInBounds_toArray, List.set_cons_zero, List.set_cons_succ]
            refine wpAnyH_ready (rs := [21]) (by kernel_rfl) (by simp) ?_
            refine AllReadyH.cons (o := ({ dst := some 167, op := Op.call { callee := Callee.value (Operand.func 25), args := #[Operand.tmp 164, Operand.tmp 166], argTypes := #[26, 3] }, type := 4, pos := "law.go:77", after := #[{ on := 18, ground := Ground.data }, { on := 20, ground := Ground.data }, { on := 17, ground := Ground.chain }, { on := 17, ground := Ground.guard }], guard := some (17, false) } : Oper)) rfl (fun K hK => ?_) AllReadyH.nil
            go_simp
            refine (HLQ.out _ HQ3.out).mono ?_
            rintro e u4 ⟨rfl, hq4⟩
            have HQ4 := Lib.hid (HQ3.out.trans (hq4.mono HQ3.out.size))
            clear hq4
            go_wp2_with fail
            refine hK.out _ _ (HSS.out _ HQ4.out) (fun hHeld => ?_)
            clear hK K
            try simp only [Act.put, List.setIfInBounds_toArray, List.set_cons_zero, List.set_cons_succ]
            refine wpAnyH_ready (rs := [25]) (by kernel_rfl) (by simp) ?_
            refine AllReadyH.cons (o := ({ dst := some 171, op := Op.call { callee := Callee.value (Operand.func 26), args := #[Operand.tmp 168, Operand.tmp 170], argTypes := #[29, 3] }, type := 4, pos := "law.go:77", after := #[{ on := 22, ground := Ground.data }, { on := 24, ground := Ground.data }, { on := 21, ground := Ground.chain }, { on := 17, ground := Ground.guard }], guard := some (17, false) } : Oper)) rfl (fun K hK => ?_) AllReadyH.nil
            go_simp
            refine (HVQ.out _ HQ4.out).mono ?_
            rintro e u5 ⟨rfl, hq5⟩
            have HQ5 := Lib.hid (HQ4.out.trans (hq5.mono HQ4.out.size))
            clear hq5
            go_wp2_with fail
            refine hK.out _ _ (HSS.out _ HQ5.out) (fun hHeld => ?_)
            clear hK K
            try simp only [Act.put, List.setIfInBounds_toArray, List.set_cons_zero, List.set_cons_succ]
            refine wpAnyH_take (i := 26) (oi := ({ dst := some 172, op := Op.binOp BinOp.neq 4 (Operand.tmp 167) (Operand.tmp 171) 4, type := 4, pos := "law.go:77", after := #[{ on := 21, ground := Ground.data }, { on := 25, ground := Ground.data }, { on := 17, ground := Ground.guard }], guard := some (17, false) } : Oper)) (v := ?_) rfl (by kernel_rfl) (by kernel_rfl) (by kernel_rfl) (fun _ _ _ h => h) (Or.inl ⟨by rfl, ?_⟩) (by assumption) ?_
            rotate_left
            · rintro w ⟨s0, s1⟩; (try dsimp only); go_simp; first | done | with_reducible rfl
            try simp only [Act.put, List.setIfInBounds_toArray, List.set_cons_zero, List.set_cons_succ]
            refine wpAnyH_take (i := 27) (oi := ({ dst := some 173, op := Op.pick (Operand.tmp 163) (Operand.const (Value.bool true)) (Operand.tmp 172), type := 4, pos := "law.go:77", after := #[{ on := 17, ground := Ground.data }, { on := 26, ground := Ground.data }], guard := none } : Oper)) (v := ?_) rfl (by kernel_rfl) (by kernel_rfl) (by kernel_rfl) (fun _ _ _ h => h) (Or.inl ⟨by rfl, ?_⟩) (by assumption) ?_
            rotate_left
            · rintro w ⟨s0, s1⟩; (try dsimp only); go_simp; first | done | with_reducible rfl
            try simp only [Act.put, List.setIfInBounds_toArray, List.set_cons_zero, List.set_cons_succ]
            refine wpAnyH_done (by kernel_rfl) ?_ _
            go_wp2_with fail
            go_roundw
            case rel => exact ⟨k + 1, GZ, TZ, HLT.out, by go_num, HTZ.out.kept HQ5.out, HRZ.out.below HQ5.out⟩
            case measure => have := HLT.out; simp [intOf]; omega
          have q2 : (what == 2) = false := by simpa using hw2
          clear hw2
          by_cases hw3 : what = 3
          · have q3 : (what == 3) = true := by simpa using hw3
            clear hw3
            have HCA := Lib.hid (HTA.out.expire_ HC.out x.seen)
            clear d4
            go_wp2_with fail
            refine HCA.out.mono ?_
            rintro e w5 ⟨A5', c5', GZ, rfl, ho5, hn5, t5, f5, cg5⟩
            have HT5 := Lib.hid t5
            have HI5 := Lib.hid ho5
            have HR5 := Lib.hid (HRA.out.did cg5 f5)
            have HK5 := Lib.hid (cg5.bk HKB.out HNB.out.1)
            have HGW := Lib.hid HRA.out.lt
            obtain ⟨RA, rc, kg, hrd, hng⟩ := HR5.out
            have HKG := Lib.hid kg
            have m5 := kg.at_ (i := 0) rfl
            obtain ⟨TZ, hTZ⟩ : ∃ TZ, TZ = seLeft (seEnds x.seen) T := ⟨_, rfl⟩
            obtain ⟨GC, hGC⟩ : ∃ GC, GC = seGone (seEnds x.seen) T := ⟨_, rfl⟩
            have HGL := Lib.hid (show GC.length ≤ 8 by have h1 := HTA.out.ok.len; have h2 := List.length_filter_le (seEnds x.seen) T; rw [hGC]; unfold seGone; rw [List.length_map]; omega)
            have HRC := Lib.hid (show Calls Try.prog 19 #[.agg #[.slice RA T.length rc], .int .i64 x.seen] w5 (RefG TZ GC w5) from by
              rw [hTZ, hGC]; exact refExpire_any RA rc T _ x.seen w5 hrd (by have := HTA.out.ok.len; omega) (fun y hy => by have := HTA.out.ok.2 y hy; unfold seRight at this; have := of_decide_eq_true this; omega))
            rw [← hGC] at HI5 ⊢
            rw [← hTZ] at HT5
            clear kg hrd hng t5 f5 cg5 hn5 ho5 HCA hGC hTZ d0 d1 d2 d3
            have d3 : w5.cell? ⟨bo, 3, none⟩ = some (.int .i64 x.seen) := HK5.out.at_ rfl
            go_wp2_with fail
            refine HRC.out.mono ?_
            rintro e w7 ⟨hb7, A7, c7, A8, c8, rfl, hr7, hi7⟩
            have m7 : w7.cell? ⟨gm, 0, none⟩ = some (.slice RA T.length rc) := (HKG.out.kept hb7).at_ rfl
            have z7 : w7.frozen? ⟨gm, 0, none⟩ = false := (HKG.out.kept hb7).frozen 0
            have HRZ := Lib.hid (HR5.out.put hb7 (fun b hb => (HT5.out.low b hb).2) (hr7.keep (F' := fun b => (¬ GZ b ∧ b ≠ gm) ∨ w5.heap.size ≤ b) ⟨Nat.le_refl _, fun _ _ _ => rfl⟩ fun b hb _ => .inr hb))
            have HTZ := Lib.hid ((HT5.out.kept hb7).set_far (v := .slice A7 TZ.length c7) HR5.out.notin HGM.out)
            have HKZ := Lib.hid ((HK5.out.kept hb7).far (p := ⟨gm, 0, none⟩) HNB.out.2 (.slice A7 TZ.length c7))
            have g7 := grown_set (grown_refl w7 (some gm)) 0 (.slice A7 TZ.length c7)
            have HX7 := Lib.hid (show OwnI _ wa.heap.size A5' GC.length c5' GC from World.ownsRow.kept (HI5.out.below hb7) g7 (.inr (fun e => by have h1 := HI5.out.block _ e; have h2 := HGW.out; omega)))
            have HY7 := Lib.hid (show OwnI _ w5.heap.size A8 GC.length c8 GC from World.ownsRow.kept hi7 g7 (.inr (fun e => by have h1 := hi7.block _ e; have h2 := HR5.out.lt; omega)))
            obtain ⟨wz, hwz⟩ : ∃ wz, wz = w7.setCell ⟨gm, 0, none⟩ (.slice A7 TZ.length c7) := ⟨_, rfl⟩
            rw [← hwz] at HRZ HTZ HKZ HX7 HY7
            have qe : ((0 : Int) != 0) = false := by decide
            obtain ⟨ev, hev⟩ : ∃ ev : Int, ev = 0 := ⟨_, rfl⟩
            clear hb7 hr7 hi7 g7 HRC
            have HXY := Lib.hid (fun W (hW : Below wz.heap.size wz W) => show Calls Try.prog 23 #[.slice A5' GC.length c5', .slice A8 GC.length c8] W (Ans (.bool true) W) from
              Calls.quiet_ans (sameInts_self A5' A8 GC.length GC.length c5' c8 W GC ((HX7.out.rd).below hW) ((HY7.out.rd).below hW) (by have := HGL.out; simp only [maxLen]; omega)))
            go_upto_region 42 with fail
            rw [← hwz]
            clear hwz m5 m7 z7 d3
            obtain ⟨RZ, cz, kz, rz, -⟩ := HRZ.out
            have HRS := Lib.hid rz
            have HKQ := Lib.hid kz
            have HSS := Lib.hid (fun X (hX : Below wz.heap.size wz X) => show X.cell? ⟨gm, 0, none⟩ = some (.slice RZ TZ.length cz) ∧ X.cell? ⟨bo, 1, none⟩ = some (.int .i64 x.client) from ⟨(HKQ.out.kept hX).at_ rfl, (HKZ.out.kept hX).at_ rfl⟩)
            obtain ⟨lb, hlb⟩ : ∃ lb, lb = seLive x.client TZ := ⟨_, rfl⟩
            have ql : (lb != lb) = false := by simp
            have HAQ := Lib.hid (fun W (hW : Below wz.heap.size wz W) => (HTZ.out.kept hW).all_ HC.out)
            have HSQ := Lib.hid (fun W A c (ho : RdS RSe AllB W A c TZ) (hW : Below wz.heap.size wz W) => show Calls Try.prog 13 #[.slice A TZ.length c, .slice RZ TZ.length cz] W (Ans (.bool true) W) from by
              have := sameE_any A RZ c cz W AllB _ _ _ ho (HRS.out.below hW) (by have := HTZ.out.ok.len; omega)
              rwa [decide_eq_true rfl] at this)
            have HLQ := Lib.hid (fun W (hW : Below wz.heap.size wz W) => show Calls Try.prog 25 #[.pointer (some ⟨g, 0, none⟩), .int .i64 x.client] W (Ans (.bool lb) W) from by rw [hlb]; exact (HTZ.out.kept hW).live_ HC.out x.client HWF.out)
            have HVQ := Lib.hid (fun W (hW : Below wz.heap.size wz W) => show Calls Try.prog 26 #[.agg #[.slice RZ TZ.length cz], .int .i64 x.client] W (Ans (.bool lb) W) from by rw [hlb]; exact refLive_any RZ cz TZ _ x.client W (HRS.out.below hW) (by have := HTZ.out.ok.len; omega))
            clear kz rz hlb
            refine wp_region_held_drew (S := fun X => X.cell? ⟨gm, 0, none⟩ = some (.slice RZ TZ.length cz) ∧ X.cell? ⟨bo, 1, none⟩ = some (.int .i64 x.client)) (by kernel_rfl) (HSS.out _ (below_drewN (Below.refl _ _) 1)) (fun hHeld => ?_)
            refine wpAnyH_take (i := 0) (oi := ({ dst := some 146, op := Op.move (Operand.tmp 13), type := 40, pos := "law.go:77", after := #[], guard := none } : Oper)) (v := ?_) rfl (by kernel_rfl) (by kernel_rfl) (by kernel_rfl) (fun _ _ _ h => h) (Or.inl ⟨by rfl, ?_⟩) (by assumption) ?_
            rotate_left
            · rintro w ⟨s0, s1⟩; (try dsimp only); go_simp; first | done | with_reducible rfl
            try simp only [Act.put, List.setIfInBounds_toArray, List.set_cons_zero, List.set_cons_succ]
            refine wpAnyH_take (i := 1) (oi := ({ dst := some 147, op := Op.move (Operand.tmp 14), type := 40, pos := "law.go:77", after := #[], guard := none } : Oper)) (v := ?_) rfl (by kernel_rfl) (by kernel_rfl) (by kernel_rfl) (fun _ _ _ h => h) (Or.inl ⟨by rfl, ?_⟩) (by assumption) ?_
            rotate_left
            · rintro w ⟨s0, s1⟩; (try dsimp only); go_simp; first | done | with_reducible rfl
            try simp only [Act.put, List.setIfInBounds_toArray, List.set_cons_zero, List.set_cons_succ]
            refine wpAnyH_take (i := 2) (oi := ({ dst := some 148, op := Op.binOp BinOp.neq 40 (Operand.tmp 146) (Operand.tmp 147) 40, type := 4, pos := "law.go:77", after := #[{ on := 0, ground := Ground.data }, { on := 1, ground := Ground.data }], guard := none } : Oper)) (v := ?_) rfl (by kernel_rfl) (by kernel_rfl) (by kernel_rfl) (fun _ _ _ h => h) (Or.inl ⟨by rfl, ?_⟩) (by assumption) ?_
            rotate_left
            · rintro w ⟨s0, s1⟩; (try dsimp only); go_simp; first | done | with_reducible rfl
            try simp only [Act.put, List.setIfInBounds_toArray, List.set_cons_zero, List.set_cons_succ]
            refine wpAnyH_take (i := 3) (oi := ({ dst := some 149, op := Op.move (Operand.tmp 148), type := 4, pos := "law.go:77", after := #[{ on := 2, ground := Ground.data }], guard := none } : Oper)) (v := ?_) rfl (by kernel_rfl) (by kernel_rfl) (by kernel_rfl) (fun _ _ _ h => h) (Or.inl ⟨by rfl, ?_⟩) (by assumption) ?_
            rotate_left
            · rintro w ⟨s0, s1⟩; (try dsimp only); go_simp; first | done | with_reducible rfl
            try simp only [Act.put, List.setIfInBounds_toArray, List.set_cons_zero, List.set_cons_succ]
            refine wpAnyH_take (i := 4) (oi := ({ dst := some 150, op := Op.move (Operand.tmp 15), type := 37, pos := "law.go:77", after := #[{ on := 3, ground := Ground.guard }], guard := some (3, false) } : Oper)) (v := ?_) rfl (by kernel_rfl) (by kernel_rfl) (by kernel_rfl) (fun _ _ _ h => h) (Or.inl ⟨by rfl, ?_⟩) (by assumption) ?_
            rotate_left
            · rintro w ⟨s0, s1⟩; (try dsimp only); go_simp; first | done | with_reducible rfl
            try simp only [Act.put, List.setIfInBounds_toArray, List.set_cons_zero, List.set_cons_succ]
            refine wpAnyH_take (i := 5) (oi := ({ dst := some 151, op := Op.move (Operand.tmp 16), type := 37, pos := "law.go:77", after := #[{ on := 3, ground := Ground.guard }], guard := some (3, false) } : Oper)) (v := ?_) rfl (by kernel_rfl) (by kernel_rfl) (by kernel_rfl) (fun _ _ _ h => h) (Or.inl ⟨by rfl, ?_⟩) (by assumption) ?_
            rotate_left
            · rintro w ⟨s0, s1⟩; (try dsimp only); go_simp; first | done | with_reducible rfl
            try simp only [Act.put, List.setIfInBounds_toArray, List.set_cons_zero, List.set_cons_succ]
            refine wpAnyH_ready (rs := [6]) (by kernel_rfl) (by simp) ?_
            refine AllReadyH.cons (o := ({ dst := some 152, op := Op.call { callee := Callee.value (Operand.func 23), args := #[Operand.tmp 150, Operand.tmp 151], argTypes := #[37, 37] }, type := 4, pos := "law.go:77", after := #[{ on := 4, ground := Ground.data }, { on := 5, ground := Ground.data }, { on := 3, ground := Ground.chain }, { on := 3, ground := Ground.guard }], guard := some (3, false) } : Oper)) rfl (fun K hK => ?_) AllReadyH.nil
            go_simp
            refine (HXY.out _ (below_drewN (Below.refl _ _) 1)).mono ?_
            rintro e u1 ⟨rfl, hq1⟩
            have HQ1 := Lib.hid (show Below wz.heap.size wz u1 from below_undrawn (n := 1) hq1)
            clear hq1
            go_wp2_with fail
            refine hK.out _ _ (HSS.out _ HQ1.out) (fun hHeld => ?_)
            clear hK K
            try simp only [Act.put, List.setIfInBounds_toArray, List.set_cons_zero, List.set_cons_succ]
            refine wpAnyH_take (i := 7) (oi := ({ dst := some 153, op := Op.unOp UnOp.not 4 (Operand.tmp 152), type := 4, pos := "law.go:77", after := #[{ on := 6, ground := Ground.data }, { on := 3, ground := Ground.guard }], guard := some (3, false) } : Oper)) (v := ?_) rfl (by kernel_rfl) (by kernel_rfl) (by kernel_rfl) (fun _ _ _ h => h) (Or.inl ⟨by rfl, ?_⟩) (by assumption) ?_
            rotate_left
            · rintro w ⟨s0, s1⟩; (try dsimp only); go_simp; first | done | with_reducible rfl
            try simp only [Act.put, List.setIfInBounds_toArray, List.set_cons_zero, List.set_cons_succ]
            refine wpAnyH_take (i := 8) (oi := ({ dst := some 154, op := Op.pick (Operand.tmp 149) (Operand.const (Value.bool true)) (Operand.tmp 153), type := 4, pos := "law.go:77", after := #[{ on := 3, ground := Ground.data }, { on := 7, ground := Ground.data }], guard := none } : Oper)) (v := ?_) rfl (by kernel_rfl) (by kernel_rfl) (by kernel_rfl) (fun _ _ _ h => h) (Or.inl ⟨by rfl, ?_⟩) (by assumption) ?_
            rotate_left
            · rintro w ⟨s0, s1⟩; (try dsimp only); go_simp; first | done | with_reducible rfl
            try simp only [Act.put, List.setIfInBounds_toArray, List.set_cons_zero, List.set_cons_succ]
            refine wpAnyH_take (i := 9) (oi := ({ dst := some 155, op := Op.move (Operand.tmp 154), type := 4, pos := "law.go:77", after := #[{ on := 8, ground := Ground.data }, { on := 6, ground := Ground.chain }], guard := none } : Oper)) (v := ?_) rfl (by kernel_rfl) (by kernel_rfl) (by kernel_rfl) (fun _ _ _ h => h) (Or.inl ⟨by rfl, ?_⟩) (by assumption) ?_
            rotate_left
            · rintro w ⟨s0, s1⟩; (try dsimp only); go_simp; first | done | with_reducible rfl
            try simp only [Act.put, List.setIfInBounds_toArray, List.set_cons_zero, List.set_cons_succ]
            refine wpAnyH_take (i := 10) (oi := ({ dst := some 156, op := Op.move (Operand.tmp 5), type := 26, pos := "law.go:77", after := #[{ on := 9, ground := Ground.guard }], guard := some (9, false) } : Oper)) (v := ?_) rfl (by kernel_rfl) (by kernel_rfl) (by kernel_rfl) (fun _ _ _ h => h) (Or.inl ⟨by rfl, ?_⟩) (by assumption) ?_
            rotate_left
            · rintro w ⟨s0, s1⟩; (try dsimp only); go_simp; first | done | with_reducible rfl
            try simp only [Act.put, List.setIfInBounds_toArray, List.set_cons_zero, List.set_cons_succ]
            refine wpAnyH_take (i := 12) (oi := ({ dst := some 158, op := Op.fieldAddr 29 (Operand.tmp 6) 0, type := 0, pos := "law.go:77", after := #[{ on := 9, ground := Ground.guard }], guard := some (9, false) } : Oper)) (v := ?_) rfl (by kernel_rfl) (by kernel_rfl) (by kernel_rfl) (fun _ _ _ h => h) (Or.inl ⟨by rfl, ?_⟩) (by assumption) ?_
            rotate_left
            · rintro w ⟨s0, s1⟩; (try dsimp only); go_simp; first | done | with_reducible rfl
            try simp only [Act.put, List.setIfInBounds_toArray, List.set_cons_zero, List.set_cons_succ]
            refine wpAnyH_take (i := 13) (oi := ({ dst := some 159, op := Op.load 23 (Operand.tmp 158), type := 23, pos := "law.go:77", after := #[{ on := 12, ground := Ground.data }, { on := 9, ground := Ground.guard }], guard := some (9, false) } : Oper)) (v := ?_) rfl (by kernel_rfl) (by kernel_rfl) (by kernel_rfl) (fun _ _ _ h => h) (Or.inl ⟨by rfl, ?_⟩) (by assumption) ?_
            rotate_left
            · rintro w ⟨s0, s1⟩; (try dsimp only); go_simp; first | done | with_reducible rfl
            try simp only [Act.put, List.setIfInBounds_toArray, List.set_cons_zero, List.set_cons_succ]
            refine wpAnyH_ready (rs := [11]) (by kernel_rfl) (by simp) ?_
            refine AllReadyH.cons (o := ({ dst := some 157, op := Op.call { callee := Callee.value (Operand.func 24), args := #[Operand.tmp 156], argTypes := #[26] }, type := 23, pos := "law.go:77", after := #[{ on := 10, ground := Ground.data }, { on := 9, ground := Ground.chain }, { on := 9, ground := Ground.guard }], guard := some (9, false) } : Oper)) rfl (fun K hK => ?_) AllReadyH.nil
            go_simp
            refine (HAQ.out _ HQ1.out).mono ?_
            rintro e u2 ⟨AQ, cq, rfl, hoq, hq2⟩
            have HQ2 := Lib.hid (HQ1.out.trans (hq2.mono HQ1.out.size))
            have HOQ := Lib.hid hoq
            clear hq2 hoq
            go_wp2_with fail
            refine hK.out _ _ (HSS.out _ HQ2.out) (fun hHeld => ?_)
            clear hK K
            try simp only [Act.put, List.setIfInBounds_toArray, List.set_cons_zero, List.set_cons_succ]
            refine wpAnyH_ready (rs := [14]) (by kernel_rfl) (by simp) ?_
            refine AllReadyH.cons (o := ({ dst := some 160, op := Op.call { callee := Callee.value (Operand.func 13), args := #[Operand.tmp 157, Operand.tmp 159], argTypes := #[23, 23] }, type := 4, pos := "law.go:77", after := #[{ on := 11, ground := Ground.data }, { on := 13, ground := Ground.data }, { on := 11, ground := Ground.chain }, { on := 9, ground := Ground.guard }], guard := some (9, false) } : Oper)) rfl (fun K hK => ?_) AllReadyH.nil
            go_simp
            refine (HSQ.out _ _ _ (HOQ.out.rds fun _ _ => trivial) HQ2.out).mono ?_
            rintro e u3 ⟨rfl, hq3⟩
            have HQ3 := Lib.hid (HQ2.out.trans (hq3.mono HQ2.out.size))
            clear hq3
            go_wp2_with fail
            refine hK.out _ _ (HSS.out _ HQ3.out) (fun hHeld => ?_)
            clear hK K
            try simp only [Act.put, List.setIfInBounds_toArray, List.set_cons_zero, List.set_cons_succ]
            refine wpAnyH_take (i := 15) (oi := ({ dst := some 161, op := Op.unOp UnOp.not 4 (Operand.tmp 160), type := 4, pos := "law.go:77", after := #[{ on := 14, ground := Ground.data }, { on := 9, ground := Ground.guard }], guard := some (9, false) } : Oper)) (v := ?_) rfl (by kernel_rfl) (by kernel_rfl) (by kernel_rfl) (fun _ _ _ h => h) (Or.inl ⟨by rfl, ?_⟩) (by assumption) ?_
            rotate_left
            · rintro w ⟨s0, s1⟩; (try dsimp only); go_simp; first | done | with_reducible rfl
            try simp only [Act.put, List.setIfInBounds_toArray, List.set_cons_zero, List.set_cons_succ]
            refine wpAnyH_take (i := 16) (oi := ({ dst := some 162, op := Op.pick (Operand.tmp 155) (Operand.const (Value.bool true)) (Operand.tmp 161), type := 4, pos := "law.go:77", after := #[{ on := 9, ground := Ground.data }, { on := 15, ground := Ground.data }], guard := none } : Oper)) (v := ?_) rfl (by kernel_rfl) (by kernel_rfl) (by kernel_rfl) (fun _ _ _ h => h) (Or.inl ⟨by rfl, ?_⟩) (by assumption) ?_
            rotate_left
            · rintro w ⟨s0, s1⟩; (try dsimp only); go_simp; first | done | with_reducible rfl
            try simp only [Act.put, List.setIfInBounds_toArray, List.set_cons_zero, List.set_cons_succ]
            refine wpAnyH_take (i := 17) (oi := ({ dst := some 163, op := Op.move (Operand.tmp 162), type := 4, pos := "law.go:77", after := #[{ on := 16, ground := Ground.data }, { on := 14, ground := Ground.chain }], guard := none } : Oper)) (v := ?_) rfl (by kernel_rfl) (by kernel_rfl) (by kernel_rfl) (fun _ _ _ h => h) (Or.inl ⟨by rfl, ?_⟩) (by assumption) ?_
            rotate_left
            · rintro w ⟨s0, s1⟩; (try dsimp only); go_simp; first | done | with_reducible rfl
            try simp only [Act.put, List.setIfInBounds_toArray, List.set_cons_zero, List.set_cons_succ]
            refine wpAnyH_take (i := 18) (oi := ({ dst := some 164, op := Op.move (Operand.tmp 5), type := 26, pos := "law.go:77", after := #[{ on := 17, ground := Ground.guard }], guard := some (17, false) } : Oper)) (v := ?_) rfl (by kernel_rfl) (by kernel_rfl) (by kernel_rfl) (fun _ _ _ h => h) (Or.inl ⟨by rfl, ?_⟩) (by assumption) ?_
            rotate_left
            · rintro w ⟨s0, s1⟩; (try dsimp only); go_simp; first | done | with_reducible rfl
            try simp only [Act.put, List.setIfInBounds_toArray, List.set_cons_zero, List.set_cons_succ]
            refine wpAnyH_take (i := 19) (oi := ({ dst := some 165, op := Op.fieldAddr 39 (Operand.tmp 12) 1, type := 0, pos := "law.go:77", after := #[{ on := 17, ground := Ground.guard }], guard := some (17, false) } : Oper)) (v := ?_) rfl (by kernel_rfl) (by kernel_rfl) (by kernel_rfl) (fun _ _ _ h => h) (Or.inl ⟨by rfl, ?_⟩) (by assumption) ?_
            rotate_left
            · rintro w ⟨s0, s1⟩; (try dsimp only); go_simp; first | done | with_reducible rfl
            try simp only [Act.put, List.setIfInBounds_toArray, List.set_cons_zero, List.set_cons_succ]
            refine wpAnyH_take (i := 20) (oi := ({ dst := some 166, op := Op.load 3 (Operand.tmp 165), type := 3, pos := "law.go:77", after := #[{ on := 19, ground := Ground.data }, { on := 17, ground := Ground.guard }], guard := some (17, false) } : Oper)) (v := ?_) rfl (by kernel_rfl) (by kernel_rfl) (by kernel_rfl) (fun _ _ _ h => h) (Or.inl ⟨by rfl, ?_⟩) (by assumption) ?_
            rotate_left
            · rintro w ⟨s0, s1⟩; (try dsimp only); go_simp; first | done | with_reducible rfl
            try simp only [Act.put, List.setIfInBounds_toArray, List.set_cons_zero, List.set_cons_succ]
            refine wpAnyH_take (i := 22) (oi := ({ dst := some 168, op := Op.load 29 (Operand.tmp 6), type := 29, pos := "law.go:77", after := #[{ on := 17, ground := Ground.guard }], guard := some (17, false) } : Oper)) (v := ?_) rfl (by kernel_rfl) (by kernel_rfl) (by kernel_rfl) (fun _ _ _ h => h) (Or.inl ⟨by rfl, ?_⟩) (by assumption) ?_
            rotate_left
            · rintro w ⟨s0, s1⟩; (try dsimp only); go_simp; first | done | with_reducible rfl
            try simp only [Act.put, List.setIfInBounds_toArray, List.set_cons_zero, List.set_cons_succ]
            refine wpAnyH_take (i := 23) (oi := ({ dst := some 169, op := Op.fieldAddr 39 (Operand.tmp 12) 1, type := 0, pos := "law.go:77", after := #[{ on := 17, ground := Ground.guard }], guard := some (17, false) } : Oper)) (v := ?_) rfl (by kernel_rfl) (by kernel_rfl) (by kernel_rfl) (fun _ _ _ h => h) (Or.inl ⟨by rfl, ?_⟩) (by assumption) ?_
            rotate_left
            · rintro w ⟨s0, s1⟩; (try dsimp only); go_simp; first | done | with_reducible rfl
            try simp only [Act.put, List.setIfInBounds_toArray, List.set_cons_zero, List.set_cons_succ]
            refine wpAnyH_take (i := 24) (oi := ({ dst := some 170, op := Op.load 3 (Operand.tmp 169), type := 3, pos := "law.go:77", after := #[{ on := 23, ground := Ground.data }, { on := 17, ground := Ground.guard }], guard := some (17, false) } : Oper)) (v := ?_) rfl (by kernel_rfl) (by kernel_rfl) (by kernel_rfl) (fun _ _ _ h => h) (Or.inl ⟨by rfl, ?_⟩) (by assumption) ?_
            rotate_left
            · rintro w ⟨s0, s1⟩; (try dsimp only); go_simp; first | done | with_reducible rfl
            try simp only [Act.put, List.setIfInBounds_toArray, List.set_cons_zero, List.set_cons_succ]
            refine wpAnyH_ready (rs := [21]) (by kernel_rfl) (by simp) ?_
            refine AllReadyH.cons (o := ({ dst := some 167, op := Op.call { callee := Callee.value (Operand.func 25), args := #[Operand.tmp 164, Operand.tmp 166], argTypes := #[26, 3] }, type := 4, pos := "law.go:77", after := #[{ on := 18, ground := Ground.data }, { on := 20, ground := Ground.data }, { on := 17, ground := Ground.chain }, { on := 17, ground := Ground.guard }], guard := some (17, false) } : Oper)) rfl (fun K hK => ?_) AllReadyH.nil
            go_simp
            refine (HLQ.out _ HQ3.out).mono ?_
            rintro e u4 ⟨rfl, hq4⟩
            have HQ4 := Lib.hid (HQ3.out.trans (hq4.mono HQ3.out.size))
            clear hq4
            go_wp2_with fail
            refine hK.out _ _ (HSS.out _ HQ4.out) (fun hHeld => ?_)
            clear hK K
            try simp only [Act.put, List.setIfInBounds_toArray, List.set_cons_zero, List.set_cons_succ]
            refine wpAnyH_ready (rs := [25]) (by kernel_rfl) (by simp) ?_
            refine AllReadyH.cons (o := ({ dst := some 171, op := Op.call { callee := Callee.value (Operand.func 26), args := #[Operand.tmp 168, Operand.tmp 170], argTypes := #[29, 3] }, type := 4, pos := "law.go:77", after := #[{ on := 22, ground := Ground.data }, { on := 24, ground := Ground.data }, { on := 21, ground := Ground.chain }, { on := 17, ground := Ground.guard }], guard := some (17, false) } : Oper)) rfl (fun K hK => ?_) AllReadyH.nil
            go_simp
            refine (HVQ.out _ HQ4.out).mono ?_
            rintro e u5 ⟨rfl, hq5⟩
            have HQ5 := Lib.hid (HQ4.out.trans (hq5.mono HQ4.out.size))
            clear hq5
            go_wp2_with fail
            refine hK.out _ _ (HSS.out _ HQ5.out) (fun hHeld => ?_)
            clear hK K
            try simp only [Act.put, List.setIfInBounds_toArray, List.set_cons_zero, List.set_cons_succ]
            refine wpAnyH_take (i := 26) (oi := ({ dst := some 172, op := Op.binOp BinOp.neq 4 (Operand.tmp 167) (Operand.tmp 171) 4, type := 4, pos := "law.go:77", after := #[{ on := 21, ground := Ground.data }, { on := 25, ground := Ground.data }, { on := 17, ground := Ground.guard }], guard := some (17, false) } : Oper)) (v := ?_) rfl (by kernel_rfl) (by kernel_rfl) (by kernel_rfl) (fun _ _ _ h => h) (Or.inl ⟨by rfl, ?_⟩) (by assumption) ?_
            rotate_left
            · rintro w ⟨s0, s1⟩; (try dsimp only); go_simp; first | done | with_reducible rfl
            try simp only [Act.put, List.setIfInBounds_toArray, List.set_cons_zero, List.set_cons_succ]
            refine wpAnyH_take (i := 27) (oi := ({ dst := some 173, op := Op.pick (Operand.tmp 163) (Operand.const (Value.bool true)) (Operand.tmp 172), type := 4, pos := "law.go:77", after := #[{ on := 17, ground := Ground.data }, { on := 26, ground := Ground.data }], guard := none } : Oper)) (v := ?_) rfl (by kernel_rfl) (by kernel_rfl) (by kernel_rfl) (fun _ _ _ h => h) (Or.inl ⟨by rfl, ?_⟩) (by assumption) ?_
            rotate_left
            · rintro w ⟨s0, s1⟩; (try dsimp only); go_simp; first | done | with_reducible rfl
            try simp only [Act.put, List.setIfInBounds_toArray, List.set_cons_zero, List.set_cons_succ]
            refine wpAnyH_done (by kernel_rfl) ?_ _
            go_wp2_with fail
            go_roundw
            case rel => exact ⟨k + 1, GZ, TZ, HLT.out, by go_num, HTZ.out.kept HQ5.out, HRZ.out.below HQ5.out⟩
            case measure => have := HLT.out; simp [intOf]; omega
          have q3 : (what == 3) = false := by simpa using hw3
          clear hw3
          by_cases hw4 : what = 4
          · have q4 : (what == 4) = true := by simpa using hw4
            clear hw4
            have HGA := Lib.hid HRA.out.lt
            have HSA := Lib.hid (fun k hk => (HTA.out.low k hk).2)
            have HCT := Lib.hid (copyInts_any C cs.length f cs wa (HCI.out _ HTA.out.be) (by omega))
            go_wp2_with fail
            refine HCT.out.mono ?_
            rintro e wb ⟨⟨A3, c3, rfl, ho3⟩, hb3⟩
            have HO3 := Lib.hid ho3
            have HTA := Lib.hid (HTA.out.kept hb3)
            have HRA := Lib.hid (HRA.out.below hb3)
            have HKB := Lib.hid (HKB.out.kept hb3)
            have HSB := Lib.hid (show ∀ k, G k → k < wa.heap.size from fun k hk => by have := HSA.out k hk; exact this)
            have HCA := Lib.hid (HTA.out.close_ HC.out A3 cs.length c3 cs ho3.rd (by simp only [maxLen]; omega))
            clear ho3 hb3 HCT d0 d1 d2 d3 d4
            go_wp2_with fail
            refine HCA.out.mono ?_
            rintro e w5 ⟨A5', c5', GZ, rfl, ho5, hn5, t5, f5, cg5⟩
            have HT5 := Lib.hid t5
            have HI5 := Lib.hid ho5
            have HR5 := Lib.hid (HRA.out.did cg5 f5)
            have HK5 := Lib.hid (cg5.bk HKB.out HNB.out.1)
            have HGW := Lib.hid HRA.out.lt
            obtain ⟨RA, rc, kg, hrd, hng⟩ := HR5.out
            have HKG := Lib.hid kg
            have m5 := kg.at_ (i := 0) rfl
            have HO5' := Lib.hid (show OwnI w5 wa.heap.size A3 cs.length c3 cs from cg5.owns HO3.out fun b hb hg => by have h1 := HO3.out.block _ hb; have h2 := HSB.out _ hg; omega)
            obtain ⟨TZ, hTZ⟩ : ∃ TZ, TZ = seLeft (seIn cs) T := ⟨_, rfl⟩
            obtain ⟨GC, hGC⟩ : ∃ GC, GC = seGone (seIn cs) T := ⟨_, rfl⟩
            have HGL := Lib.hid (show GC.length ≤ 8 by have h1 := HTA.out.ok.len; have h2 := List.length_filter_le (seIn cs) T; rw [hGC]; unfold seGone; rw [List.length_map]; omega)
            have HRC := Lib.hid (show Calls Try.prog 22 #[.agg #[.slice RA T.length rc], .slice C cs.length f] w5 (RefG TZ GC w5) from by
              rw [hTZ, hGC]; exact refClose_any RA rc T _ C cs.length f cs w5 hrd (by have := HTA.out.ok.len; omega) (HCI.out _ t5.be) (by omega))
            rw [← hGC] at HI5 ⊢
            rw [← hTZ] at HT5
            clear kg hrd hng t5 f5 cg5 hn5 ho5 HCA hGC hTZ
            have d4 : w5.cell? ⟨bo, 4, none⟩ = some (.slice C cs.length f) := HK5.out.at_ rfl
            go_wp2_with fail
            refine HRC.out.mono ?_
            rintro e w7 ⟨hb7, A7, c7, A8, c8, rfl, hr7, hi7⟩
            have m7 : w7.cell? ⟨gm, 0, none⟩ = some (.slice RA T.length rc) := (HKG.out.kept hb7).at_ rfl
            have z7 : w7.frozen? ⟨gm, 0, none⟩ = false := (HKG.out.kept hb7).frozen 0
            have HRZ := Lib.hid (HR5.out.put hb7 (fun b hb => (HT5.out.low b hb).2) (hr7.keep (F' := fun b => (¬ GZ b ∧ b ≠ gm) ∨ w5.heap.size ≤ b) ⟨Nat.le_refl _, fun _ _ _ => rfl⟩ fun b hb _ => .inr hb))
            have HTZ := Lib.hid ((HT5.out.kept hb7).set_far (v := .slice A7 TZ.length c7) HR5.out.notin HGM.out)
            have HKZ := Lib.hid ((HK5.out.kept hb7).far (p := ⟨gm, 0, none⟩) HNB.out.2 (.slice A7 TZ.length c7))
            have g7 := grown_set (grown_refl w7 (some gm)) 0 (.slice A7 TZ.length c7)
            have HX7 := Lib.hid (show OwnI _ wb.heap.size A5' GC.length c5' GC from World.ownsRow.kept (HI5.out.below hb7) g7 (.inr (fun e => by have h1 := HI5.out.block _ e; have h2 := HGW.out; omega)))
            have HY7 := Lib.hid (show OwnI _ w5.heap.size A8 GC.length c8 GC from World.ownsRow.kept hi7 g7 (.inr (fun e => by have h1 := hi7.block _ e; have h2 := HR5.out.lt; omega)))
            have HO7 := Lib.hid (show OwnI _ wa.heap.size A3 cs.length c3 cs from World.ownsRow.kept (HO5'.out.below hb7) g7 (.inr (fun e => by have h1 := HO5'.out.block _ e; have h2 := HGA.out; omega)))
            obtain ⟨wz, hwz⟩ : ∃ wz, wz = w7.setCell ⟨gm, 0, none⟩ (.slice A7 TZ.length c7) := ⟨_, rfl⟩
            rw [← hwz] at HRZ HTZ HKZ HX7 HY7 HO7
            have qe : ((0 : Int) != 0) = false := by decide
            obtain ⟨ev, hev⟩ : ∃ ev : Int, ev = 0 := ⟨_, rfl⟩
            clear hb7 hr7 hi7 g7 HRC
            have HSI := Lib.hid (show Calls Try.prog 23 #[.slice A3 cs.length c3, .slice C cs.length f] wz (Ans (.bool true) wz) from
              Calls.quiet_ans (sameInts_self A3 C cs.length cs.length c3 f wz cs HO7.out.rd (HCI.out _ HTZ.out.be) (by simp only [maxLen]; omega)))
            have d4' : wz.cell? ⟨bo, 4, none⟩ = some (.slice C cs.length f) := HKZ.out.at_ rfl
            go_upto_region 40 with fail
            rw [← hwz]
            clear hwz m5 m7 z7 d4
            go_wp2_with fail
            refine HSI.out.mono ?_
            rintro e wv ⟨rfl, hbv⟩
            have HTZ := Lib.hid (HTZ.out.kept hbv)
            have HRZ := Lib.hid (HRZ.out.below hbv)
            have HKZ := Lib.hid (HKZ.out.kept hbv)
            have HXY := Lib.hid (fun W (hW : Below wv.heap.size wv W) => show Calls Try.prog 23 #[.slice A5' GC.length c5', .slice A8 GC.length c8] W (Ans (.bool true) W) from
              Calls.quiet_ans (sameInts_self A5' A8 GC.length GC.length c5' c8 W GC ((HX7.out.below hbv).rd.below hW) ((HY7.out.below hbv).rd.below hW) (by have := HGL.out; simp only [maxLen]; omega)))
            clear hbv d4' HSI
            obtain ⟨wz, hwz2⟩ : ∃ wz, wz = wv := ⟨_, rfl⟩
            subst hwz2
            go_upto_region 42 with fail
            obtain ⟨RZ, cz, kz, rz, -⟩ := HRZ.out
            have HRS := Lib.hid rz
            have HKQ := Lib.hid kz
            have HSS := Lib.hid (fun X (hX : Below wz.heap.size wz X) => show X.cell? ⟨gm, 0, none⟩ = some (.slice RZ TZ.length cz) ∧ X.cell? ⟨bo, 1, none⟩ = some (.int .i64 x.client) from ⟨(HKQ.out.kept hX).at_ rfl, (HKZ.out.kept hX).at_ rfl⟩)
            obtain ⟨lb, hlb⟩ : ∃ lb, lb = seLive x.client TZ := ⟨_, rfl⟩
            have ql : (lb != lb) = false := by simp
            have HAQ := Lib.hid (fun W (hW : Below wz.heap.size wz W) => (HTZ.out.kept hW).all_ HC.out)
            have HSQ := Lib.hid (fun W A c (ho : RdS RSe AllB W A c TZ) (hW : Below wz.heap.size wz W) => show Calls Try.prog 13 #[.slice A TZ.length c, .slice RZ TZ.length cz] W (Ans (.bool true) W) from by
              have := sameE_any A RZ c cz W AllB _ _ _ ho (HRS.out.below hW) (by have := HTZ.out.ok.len; omega)
              rwa [decide_eq_true rfl] at this)
            have HLQ := Lib.hid (fun W (hW : Below wz.heap.size wz W) => show Calls Try.prog 25 #[.pointer (some ⟨g, 0, none⟩), .int .i64 x.client] W (Ans (.bool lb) W) from by rw [hlb]; exact (HTZ.out.kept hW).live_ HC.out x.client HWF.out)
            have HVQ := Lib.hid (fun W (hW : Below wz.heap.size wz W) => show Calls Try.prog 26 #[.agg #[.slice RZ TZ.length cz], .int .i64 x.client] W (Ans (.bool lb) W) from by rw [hlb]; exact refLive_any RZ cz TZ _ x.client W (HRS.out.below hW) (by have := HTZ.out.ok.len; omega))
            clear kz rz hlb
            refine wp_region_held_drew (S := fun X => X.cell? ⟨gm, 0, none⟩ = some (.slice RZ TZ.length cz) ∧ X.cell? ⟨bo, 1, none⟩ = some (.int .i64 x.client)) (by kernel_rfl) (HSS.out _ (below_drewN (Below.refl _ _) 1)) (fun hHeld => ?_)
            refine wpAnyH_take (i := 0) (oi := ({ dst := some 146, op := Op.move (Operand.tmp 13), type := 40, pos := "law.go:77", after := #[], guard := none } : Oper)) (v := ?_) rfl (by kernel_rfl) (by kernel_rfl) (by kernel_rfl) (fun _ _ _ h => h) (Or.inl ⟨by rfl, ?_⟩) (by assumption) ?_
            rotate_left
            · rintro w ⟨s0, s1⟩; (try dsimp only); go_simp; first | done | with_reducible rfl
            try simp only [Act.put, List.setIfInBounds_toArray, List.set_cons_zero, List.set_cons_succ]
            refine wpAnyH_take (i := 1) (oi := ({ dst := some 147, op := Op.move (Operand.tmp 14), type := 40, pos := "law.go:77", after := #[], guard := none } : Oper)) (v := ?_) rfl (by kernel_rfl) (by kernel_rfl) (by kernel_rfl) (fun _ _ _ h => h) (Or.inl ⟨by rfl, ?_⟩) (by assumption) ?_
            rotate_left
            · rintro w ⟨s0, s1⟩; (try dsimp only); go_simp; first | done | with_reducible rfl
            try simp only [Act.put, List.setIfInBounds_toArray, List.set_cons_zero, List.set_cons_succ]
            refine wpAnyH_take (i := 2) (oi := ({ dst := some 148, op := Op.binOp BinOp.neq 40 (Operand.tmp 146) (Operand.tmp 147) 40, type := 4, pos := "law.go:77", after := #[{ on := 0, ground := Ground.data }, { on := 1, ground := Ground.data }], guard := none } : Oper)) (v := ?_) rfl (by kernel_rfl) (by kernel_rfl) (by kernel_rfl) (fun _ _ _ h => h) (Or.inl ⟨by rfl, ?_⟩) (by assumption) ?_
            rotate_left
            · rintro w ⟨s0, s1⟩; (try dsimp only); go_simp; first | done | with_reducible rfl
            try simp only [Act.put, List.setIfInBounds_toArray, List.set_cons_zero, List.set_cons_succ]
            refine wpAnyH_take (i := 3) (oi := ({ dst := some 149, op := Op.move (Operand.tmp 148), type := 4, pos := "law.go:77", after := #[{ on := 2, ground := Ground.data }], guard := none } : Oper)) (v := ?_) rfl (by kernel_rfl) (by kernel_rfl) (by kernel_rfl) (fun _ _ _ h => h) (Or.inl ⟨by rfl, ?_⟩) (by assumption) ?_
            rotate_left
            · rintro w ⟨s0, s1⟩; (try dsimp only); go_simp; first | done | with_reducible rfl
            try simp only [Act.put, List.setIfInBounds_toArray, List.set_cons_zero, List.set_cons_succ]
            refine wpAnyH_take (i := 4) (oi := ({ dst := some 150, op := Op.move (Operand.tmp 15), type := 37, pos := "law.go:77", after := #[{ on := 3, ground := Ground.guard }], guard := some (3, false) } : Oper)) (v := ?_) rfl (by kernel_rfl) (by kernel_rfl) (by kernel_rfl) (fun _ _ _ h => h) (Or.inl ⟨by rfl, ?_⟩) (by assumption) ?_
            rotate_left
            · rintro w ⟨s0, s1⟩; (try dsimp only); go_simp; first | done | with_reducible rfl
            try simp only [Act.put, List.setIfInBounds_toArray, List.set_cons_zero, List.set_cons_succ]
            refine wpAnyH_take (i := 5) (oi := ({ dst := some 151, op := Op.move (Operand.tmp 16), type := 37, pos := "law.go:77", after := #[{ on := 3, ground := Ground.guard }], guard := some (3, false) } : Oper)) (v := ?_) rfl (by kernel_rfl) (by kernel_rfl) (by kernel_rfl) (fun _ _ _ h => h) (Or.inl ⟨by rfl, ?_⟩) (by assumption) ?_
            rotate_left
            · rintro w ⟨s0, s1⟩; (try dsimp only); go_simp; first | done | with_reducible rfl
            try simp only [Act.put, List.setIfInBounds_toArray, List.set_cons_zero, List.set_cons_succ]
            refine wpAnyH_ready (rs := [6]) (by kernel_rfl) (by simp) ?_
            refine AllReadyH.cons (o := ({ dst := some 152, op := Op.call { callee := Callee.value (Operand.func 23), args := #[Operand.tmp 150, Operand.tmp 151], argTypes := #[37, 37] }, type := 4, pos := "law.go:77", after := #[{ on := 4, ground := Ground.data }, { on := 5, ground := Ground.data }, { on := 3, ground := Ground.chain }, { on := 3, ground := Ground.guard }], guard := some (3, false) } : Oper)) rfl (fun K hK => ?_) AllReadyH.nil
            go_simp
            refine (HXY.out _ (below_drewN (Below.refl _ _) 1)).mono ?_
            rintro e u1 ⟨rfl, hq1⟩
            have HQ1 := Lib.hid (show Below wz.heap.size wz u1 from below_undrawn (n := 1) hq1)
            clear hq1
            go_wp2_with fail
            refine hK.out _ _ (HSS.out _ HQ1.out) (fun hHeld => ?_)
            clear hK K
            try simp only [Act.put, List.setIfInBounds_toArray, List.set_cons_zero, List.set_cons_succ]
            refine wpAnyH_take (i := 7) (oi := ({ dst := some 153, op := Op.unOp UnOp.not 4 (Operand.tmp 152), type := 4, pos := "law.go:77", after := #[{ on := 6, ground := Ground.data }, { on := 3, ground := Ground.guard }], guard := some (3, false) } : Oper)) (v := ?_) rfl (by kernel_rfl) (by kernel_rfl) (by kernel_rfl) (fun _ _ _ h => h) (Or.inl ⟨by rfl, ?_⟩) (by assumption) ?_
            rotate_left
            · rintro w ⟨s0, s1⟩; (try dsimp only); go_simp; first | done | with_reducible rfl
            try simp only [Act.put, List.setIfInBounds_toArray, List.set_cons_zero, List.set_cons_succ]
            refine wpAnyH_take (i := 8) (oi := ({ dst := some 154, op := Op.pick (Operand.tmp 149) (Operand.const (Value.bool true)) (Operand.tmp 153), type := 4, pos := "law.go:77", after := #[{ on := 3, ground := Ground.data }, { on := 7, ground := Ground.data }], guard := none } : Oper)) (v := ?_) rfl (by kernel_rfl) (by kernel_rfl) (by kernel_rfl) (fun _ _ _ h => h) (Or.inl ⟨by rfl, ?_⟩) (by assumption) ?_
            rotate_left
            · rintro w ⟨s0, s1⟩; (try dsimp only); go_simp; first | done | with_reducible rfl
            try simp only [Act.put, List.setIfInBounds_toArray, List.set_cons_zero, List.set_cons_succ]
            refine wpAnyH_take (i := 9) (oi := ({ dst := some 155, op := Op.move (Operand.tmp 154), type := 4, pos := "law.go:77", after := #[{ on := 8, ground := Ground.data }, { on := 6, ground := Ground.chain }], guard := none } : Oper)) (v := ?_) rfl (by kernel_rfl) (by kernel_rfl) (by kernel_rfl) (fun _ _ _ h => h) (Or.inl ⟨by rfl, ?_⟩) (by assumption) ?_
            rotate_left
            · rintro w ⟨s0, s1⟩; (try dsimp only); go_simp; first | done | with_reducible rfl
            try simp only [Act.put, List.setIfInBounds_toArray, List.set_cons_zero, List.set_cons_succ]
            refine wpAnyH_take (i := 10) (oi := ({ dst := some 156, op := Op.move (Operand.tmp 5), type := 26, pos := "law.go:77", after := #[{ on := 9, ground := Ground.guard }], guard := some (9, false) } : Oper)) (v := ?_) rfl (by kernel_rfl) (by kernel_rfl) (by kernel_rfl) (fun _ _ _ h => h) (Or.inl ⟨by rfl, ?_⟩) (by assumption) ?_
            rotate_left
            · rintro w ⟨s0, s1⟩; (try dsimp only); go_simp; first | done | with_reducible rfl
            try simp only [Act.put, List.setIfInBounds_toArray, List.set_cons_zero, List.set_cons_succ]
            refine wpAnyH_take (i := 12) (oi := ({ dst := some 158, op := Op.fieldAddr 29 (Operand.tmp 6) 0, type := 0, pos := "law.go:77", after := #[{ on := 9, ground := Ground.guard }], guard := some (9, false) } : Oper)) (v := ?_) rfl (by kernel_rfl) (by kernel_rfl) (by kernel_rfl) (fun _ _ _ h => h) (Or.inl ⟨by rfl, ?_⟩) (by assumption) ?_
            rotate_left
            · rintro w ⟨s0, s1⟩; (try dsimp only); go_simp; first | done | with_reducible rfl
            try simp only [Act.put, List.setIfInBounds_toArray, List.set_cons_zero, List.set_cons_succ]
            refine wpAnyH_take (i := 13) (oi := ({ dst := some 159, op := Op.load 23 (Operand.tmp 158), type := 23, pos := "law.go:77", after := #[{ on := 12, ground := Ground.data }, { on := 9, ground := Ground.guard }], guard := some (9, false) } : Oper)) (v := ?_) rfl (by kernel_rfl) (by kernel_rfl) (by kernel_rfl) (fun _ _ _ h => h) (Or.inl ⟨by rfl, ?_⟩) (by assumption) ?_
            rotate_left
            · rintro w ⟨s0, s1⟩; (try dsimp only); go_simp; first | done | with_reducible rfl
            try simp only [Act.put, List.setIfInBounds_toArray, List.set_cons_zero, List.set_cons_succ]
            refine wpAnyH_ready (rs := [11]) (by kernel_rfl) (by simp) ?_
            refine AllReadyH.cons (o := ({ dst := some 157, op := Op.call { callee := Callee.value (Operand.func 24), args := #[Operand.tmp 156], argTypes := #[26] }, type := 23, pos := "law.go:77", after := #[{ on := 10, ground := Ground.data }, { on := 9, ground := Ground.chain }, { on := 9, ground := Ground.guard }], guard := some (9, false) } : Oper)) rfl (fun K hK => ?_) AllReadyH.nil
            go_simp
            refine (HAQ.out _ HQ1.out).mono ?_
            rintro e u2 ⟨AQ, cq, rfl, hoq, hq2⟩
            have HQ2 := Lib.hid (HQ1.out.trans (hq2.mono HQ1.out.size))
            have HOQ := Lib.hid hoq
            clear hq2 hoq
            go_wp2_with fail
            refine hK.out _ _ (HSS.out _ HQ2.out) (fun hHeld => ?_)
            clear hK K
            try simp only [Act.put, List.setIfInBounds_toArray, List.set_cons_zero, List.set_cons_succ]
            refine wpAnyH_ready (rs := [14]) (by kernel_rfl) (by simp) ?_
            refine AllReadyH.cons (o := ({ dst := some 160, op := Op.call { callee := Callee.value (Operand.func 13), args := #[Operand.tmp 157, Operand.tmp 159], argTypes := #[23, 23] }, type := 4, pos := "law.go:77", after := #[{ on := 11, ground := Ground.data }, { on := 13, ground := Ground.data }, { on := 11, ground := Ground.chain }, { on := 9, ground := Ground.guard }], guard := some (9, false) } : Oper)) rfl (fun K hK => ?_) AllReadyH.nil
            go_simp
            refine (HSQ.out _ _ _ (HOQ.out.rds fun _ _ => trivial) HQ2.out).mono ?_
            rintro e u3 ⟨rfl, hq3⟩
            have HQ3 := Lib.hid (HQ2.out.trans (hq3.mono HQ2.out.size))
            clear hq3
            go_wp2_with fail
            refine hK.out _ _ (HSS.out _ HQ3.out) (fun hHeld => ?_)
            clear hK K
            try simp only [Act.put, List.setIfInBounds_toArray, List.set_cons_zero, List.set_cons_succ]
            refine wpAnyH_take (i := 15) (oi := ({ dst := some 161, op := Op.unOp UnOp.not 4 (Operand.tmp 160), type := 4, pos := "law.go:77", after := #[{ on := 14, ground := Ground.data }, { on := 9, ground := Ground.guard }], guard := some (9, false) } : Oper)) (v := ?_) rfl (by kernel_rfl) (by kernel_rfl) (by kernel_rfl) (fun _ _ _ h => h) (Or.inl ⟨by rfl, ?_⟩) (by assumption) ?_
            rotate_left
            · rintro w ⟨s0, s1⟩; (try dsimp only); go_simp; first | done | with_reducible rfl
            try simp only [Act.put, List.setIfInBounds_toArray, List.set_cons_zero, List.set_cons_succ]
            refine wpAnyH_take (i := 16) (oi := ({ dst := some 162, op := Op.pick (Operand.tmp 155) (Operand.const (Value.bool true)) (Operand.tmp 161), type := 4, pos := "law.go:77", after := #[{ on := 9, ground := Ground.data }, { on := 15, ground := Ground.data }], guard := none } : Oper)) (v := ?_) rfl (by kernel_rfl) (by kernel_rfl) (by kernel_rfl) (fun _ _ _ h => h) (Or.inl ⟨by rfl, ?_⟩) (by assumption) ?_
            rotate_left
            · rintro w ⟨s0, s1⟩; (try dsimp only); go_simp; first | done | with_reducible rfl
            try simp only [Act.put, List.setIfInBounds_toArray, List.set_cons_zero, List.set_cons_succ]
            refine wpAnyH_take (i := 17) (oi := ({ dst := some 163, op := Op.move (Operand.tmp 162), type := 4, pos := "law.go:77", after := #[{ on := 16, ground := Ground.data }, { on := 14, ground := Ground.chain }], guard := none } : Oper)) (v := ?_) rfl (by kernel_rfl) (by kernel_rfl) (by kernel_rfl) (fun _ _ _ h => h) (Or.inl ⟨by rfl, ?_⟩) (by assumption) ?_
            rotate_left
            · rintro w ⟨s0, s1⟩; (try dsimp only); go_simp; first | done | with_reducible rfl
            try simp only [Act.put, List.setIfInBounds_toArray, List.set_cons_zero, List.set_cons_succ]
            refine wpAnyH_take (i := 18) (oi := ({ dst := some 164, op := Op.move (Operand.tmp 5), type := 26, pos := "law.go:77", after := #[{ on := 17, ground := Ground.guard }], guard := some (17, false) } : Oper)) (v := ?_) rfl (by kernel_rfl) (by kernel_rfl) (by kernel_rfl) (fun _ _ _ h => h) (Or.inl ⟨by rfl, ?_⟩) (by assumption) ?_
            rotate_left
            · rintro w ⟨s0, s1⟩; (try dsimp only); go_simp; first | done | with_reducible rfl
            try simp only [Act.put, List.setIfInBounds_toArray, List.set_cons_zero, List.set_cons_succ]
            refine wpAnyH_take (i := 19) (oi := ({ dst := some 165, op := Op.fieldAddr 39 (Operand.tmp 12) 1, type := 0, pos := "law.go:77", after := #[{ on := 17, ground := Ground.guard }], guard := some (17, false) } : Oper)) (v := ?_) rfl (by kernel_rfl) (by kernel_rfl) (by kernel_rfl) (fun _ _ _ h => h) (Or.inl ⟨by rfl, ?_⟩) (by assumption) ?_
            rotate_left
            · rintro w ⟨s0, s1⟩; (try dsimp only); go_simp; first | done | with_reducible rfl
            try simp only [Act.put, List.setIfInBounds_toArray, List.set_cons_zero, List.set_cons_succ]
            refine wpAnyH_take (i := 20) (oi := ({ dst := some 166, op := Op.load 3 (Operand.tmp 165), type := 3, pos := "law.go:77", after := #[{ on := 19, ground := Ground.data }, { on := 17, ground := Ground.guard }], guard := some (17, false) } : Oper)) (v := ?_) rfl (by kernel_rfl) (by kernel_rfl) (by kernel_rfl) (fun _ _ _ h => h) (Or.inl ⟨by rfl, ?_⟩) (by assumption) ?_
            rotate_left
            · rintro w ⟨s0, s1⟩; (try dsimp only); go_simp; first | done | with_reducible rfl
            try simp only [Act.put, List.setIfInBounds_toArray, List.set_cons_zero, List.set_cons_succ]
            refine wpAnyH_take (i := 22) (oi := ({ dst := some 168, op := Op.load 29 (Operand.tmp 6), type := 29, pos := "law.go:77", after := #[{ on := 17, ground := Ground.guard }], guard := some (17, false) } : Oper)) (v := ?_) rfl (by kernel_rfl) (by kernel_rfl) (by kernel_rfl) (fun _ _ _ h => h) (Or.inl ⟨by rfl, ?_⟩) (by assumption) ?_
            rotate_left
            · rintro w ⟨s0, s1⟩; (try dsimp only); go_simp; first | done | with_reducible rfl
            try simp only [Act.put, List.setIfInBounds_toArray, List.set_cons_zero, List.set_cons_succ]
            refine wpAnyH_take (i := 23) (oi := ({ dst := some 169, op := Op.fieldAddr 39 (Operand.tmp 12) 1, type := 0, pos := "law.go:77", after := #[{ on := 17, ground := Ground.guard }], guard := some (17, false) } : Oper)) (v := ?_) rfl (by kernel_rfl) (by kernel_rfl) (by kernel_rfl) (fun _ _ _ h => h) (Or.inl ⟨by rfl, ?_⟩) (by assumption) ?_
            rotate_left
            · rintro w ⟨s0, s1⟩; (try dsimp only); go_simp; first | done | with_reducible rfl
            try simp only [Act.put, List.setIfInBounds_toArray, List.set_cons_zero, List.set_cons_succ]
            refine wpAnyH_take (i := 24) (oi := ({ dst := some 170, op := Op.load 3 (Operand.tmp 169), type := 3, pos := "law.go:77", after := #[{ on := 23, ground := Ground.data }, { on := 17, ground := Ground.guard }], guard := some (17, false) } : Oper)) (v := ?_) rfl (by kernel_rfl) (by kernel_rfl) (by kernel_rfl) (fun _ _ _ h => h) (Or.inl ⟨by rfl, ?_⟩) (by assumption) ?_
            rotate_left
            · rintro w ⟨s0, s1⟩; (try dsimp only); go_simp; first | done | with_reducible rfl
            try simp only [Act.put, List.setIfInBounds_toArray, List.set_cons_zero, List.set_cons_succ]
            refine wpAnyH_ready (rs := [21]) (by kernel_rfl) (by simp) ?_
            refine AllReadyH.cons (o := ({ dst := some 167, op := Op.call { callee := Callee.value (Operand.func 25), args := #[Operand.tmp 164, Operand.tmp 166], argTypes := #[26, 3] }, type := 4, pos := "law.go:77", after := #[{ on := 18, ground := Ground.data }, { on := 20, ground := Ground.data }, { on := 17, ground := Ground.chain }, { on := 17, ground := Ground.guard }], guard := some (17, false) } : Oper)) rfl (fun K hK => ?_) AllReadyH.nil
            go_simp
            refine (HLQ.out _ HQ3.out).mono ?_
            rintro e u4 ⟨rfl, hq4⟩
            have HQ4 := Lib.hid (HQ3.out.trans (hq4.mono HQ3.out.size))
            clear hq4
            go_wp2_with fail
            refine hK.out _ _ (HSS.out _ HQ4.out) (fun hHeld => ?_)
            clear hK K
            try simp only [Act.put, List.setIfInBounds_toArray, List.set_cons_zero, List.set_cons_succ]
            refine wpAnyH_ready (rs := [25]) (by kernel_rfl) (by simp) ?_
            refine AllReadyH.cons (o := ({ dst := some 171, op := Op.call { callee := Callee.value (Operand.func 26), args := #[Operand.tmp 168, Operand.tmp 170], argTypes := #[29, 3] }, type := 4, pos := "law.go:77", after := #[{ on := 22, ground := Ground.data }, { on := 24, ground := Ground.data }, { on := 21, ground := Ground.chain }, { on := 17, ground := Ground.guard }], guard := some (17, false) } : Oper)) rfl (fun K hK => ?_) AllReadyH.nil
            go_simp
            refine (HVQ.out _ HQ4.out).mono ?_
            rintro e u5 ⟨rfl, hq5⟩
            have HQ5 := Lib.hid (HQ4.out.trans (hq5.mono HQ4.out.size))
            clear hq5
            go_wp2_with fail
            refine hK.out _ _ (HSS.out _ HQ5.out) (fun hHeld => ?_)
            clear hK K
            try simp only [Act.put, List.setIfInBounds_toArray, List.set_cons_zero, List.set_cons_succ]
            refine wpAnyH_take (i := 26) (oi := ({ dst := some 172, op := Op.binOp BinOp.neq 4 (Operand.tmp 167) (Operand.tmp 171) 4, type := 4, pos := "law.go:77", after := #[{ on := 21, ground := Ground.data }, { on := 25, ground := Ground.data }, { on := 17, ground := Ground.guard }], guard := some (17, false) } : Oper)) (v := ?_) rfl (by kernel_rfl) (by kernel_rfl) (by kernel_rfl) (fun _ _ _ h => h) (Or.inl ⟨by rfl, ?_⟩) (by assumption) ?_
            rotate_left
            · rintro w ⟨s0, s1⟩; (try dsimp only); go_simp; first | done | with_reducible rfl
            try simp only [Act.put, List.setIfInBounds_toArray, List.set_cons_zero, List.set_cons_succ]
            refine wpAnyH_take (i := 27) (oi := ({ dst := some 173, op := Op.pick (Operand.tmp 163) (Operand.const (Value.bool true)) (Operand.tmp 172), type := 4, pos := "law.go:77", after := #[{ on := 17, ground := Ground.data }, { on := 26, ground := Ground.data }], guard := none } : Oper)) (v := ?_) rfl (by kernel_rfl) (by kernel_rfl) (by kernel_rfl) (fun _ _ _ h => h) (Or.inl ⟨by rfl, ?_⟩) (by assumption) ?_
            rotate_left
            · rintro w ⟨s0, s1⟩; (try dsimp only); go_simp; first | done | with_reducible rfl
            try simp only [Act.put, List.setIfInBounds_toArray, List.set_cons_zero, List.set_cons_succ]
            refine wpAnyH_done (by kernel_rfl) ?_ _
            go_wp2_with fail
            go_roundw
            case rel => exact ⟨k + 1, GZ, TZ, HLT.out, by go_num, HTZ.out.kept HQ5.out, HRZ.out.below HQ5.out⟩
            case measure => have := HLT.out; simp [intOf]; omega
          have q4 : (what == 4) = false := by simpa using hw4
          clear hw4
          obtain ⟨wz, hwz⟩ : ∃ wz, wz = wa := ⟨_, rfl⟩
          subst hwz
          obtain ⟨GZ, hGZ⟩ : ∃ GZ, GZ = G := ⟨_, rfl⟩
          subst hGZ
          obtain ⟨TZ, hTZ⟩ : ∃ TZ, TZ = T := ⟨_, rfl⟩
          subst hTZ
          have HTZ := HTA
          have HRZ := HRA
          have HKZ := HKB
          have HXY := Lib.hid (HE0.out wz)
          have qe : ((0 : Int) != 0) = false := by decide
          go_upto_region 42 with fail
          clear d0 d1 d2 d3 d4
          obtain ⟨RZ, cz, kz, rz, -⟩ := HRZ.out
          have HRS := Lib.hid rz
          have HKQ := Lib.hid kz
          have HSS := Lib.hid (fun X (hX : Below wz.heap.size wz X) => show X.cell? ⟨gm, 0, none⟩ = some (.slice RZ TZ.length cz) ∧ X.cell? ⟨bo, 1, none⟩ = some (.int .i64 x.client) from ⟨(HKQ.out.kept hX).at_ rfl, (HKZ.out.kept hX).at_ rfl⟩)
          obtain ⟨lb, hlb⟩ : ∃ lb, lb = seLive x.client TZ := ⟨_, rfl⟩
          have ql : (lb != lb) = false := by simp
          have HAQ := Lib.hid (fun W (hW : Below wz.heap.size wz W) => (HTZ.out.kept hW).all_ HC.out)
          have HSQ := Lib.hid (fun W A c (ho : RdS RSe AllB W A c TZ) (hW : Below wz.heap.size wz W) => show Calls Try.prog 13 #[.slice A TZ.length c, .slice RZ TZ.length cz] W (Ans (.bool true) W) from by
            have := sameE_any A RZ c cz W AllB _ _ _ ho (HRS.out.below hW) (by have := HTZ.out.ok.len; omega)
            rwa [decide_eq_true rfl] at this)
          have HLQ := Lib.hid (fun W (hW : Below wz.heap.size wz W) => show Calls Try.prog 25 #[.pointer (some ⟨g, 0, none⟩), .int .i64 x.client] W (Ans (.bool lb) W) from by rw [hlb]; exact (HTZ.out.kept hW).live_ HC.out x.client HWF.out)
          have HVQ := Lib.hid (fun W (hW : Below wz.heap.size wz W) => show Calls Try.prog 26 #[.agg #[.slice RZ TZ.length cz], .int .i64 x.client] W (Ans (.bool lb) W) from by rw [hlb]; exact refLive_any RZ cz TZ _ x.client W (HRS.out.below hW) (by have := HTZ.out.ok.len; omega))
          clear kz rz hlb
          refine wp_region_held_drew (S := fun X => X.cell? ⟨gm, 0, none⟩ = some (.slice RZ TZ.length cz) ∧ X.cell? ⟨bo, 1, none⟩ = some (.int .i64 x.client)) (by kernel_rfl) (HSS.out _ (below_drewN (Below.refl _ _) 1)) (fun hHeld => ?_)
          refine wpAnyH_take (i := 0) (oi := ({ dst := some 146, op := Op.move (Operand.tmp 13), type := 40, pos := "law.go:77", after := #[], guard := none } : Oper)) (v := ?_) rfl (by kernel_rfl) (by kernel_rfl) (by kernel_rfl) (fun _ _ _ h => h) (Or.inl ⟨by rfl, ?_⟩) (by assumption) ?_
          rotate_left
          · rintro w ⟨s0, s1⟩; (try dsimp only); go_simp; first | done | with_reducible rfl
          try simp only [Act.put, List.setIfInBounds_toArray, List.set_cons_zero, List.set_cons_succ]
          refine wpAnyH_take (i := 1) (oi := ({ dst := some 147, op := Op.move (Operand.tmp 14), type := 40, pos := "law.go:77", after := #[], guard := none } : Oper)) (v := ?_) rfl (by kernel_rfl) (by kernel_rfl) (by kernel_rfl) (fun _ _ _ h => h) (Or.inl ⟨by rfl, ?_⟩) (by assumption) ?_
          rotate_left
          · rintro w ⟨s0, s1⟩; (try dsimp only); go_simp; first | done | with_reducible rfl
          try simp only [Act.put, List.setIfInBounds_toArray, List.set_cons_zero, List.set_cons_succ]
          refine wpAnyH_take (i := 2) (oi := ({ dst := some 148, op := Op.binOp BinOp.neq 40 (Operand.tmp 146) (Operand.tmp 147) 40, type := 4, pos := "law.go:77", after := #[{ on := 0, ground := Ground.data }, { on := 1, ground := Ground.data }], guard := none } : Oper)) (v := ?_) rfl (by kernel_rfl) (by kernel_rfl) (by kernel_rfl) (fun _ _ _ h => h) (Or.inl ⟨by rfl, ?_⟩) (by assumption) ?_
          rotate_left
          · rintro w ⟨s0, s1⟩; (try dsimp only); go_simp; first | done | with_reducible rfl
          try simp only [Act.put, List.setIfInBounds_toArray, List.set_cons_zero, List.set_cons_succ]
          refine wpAnyH_take (i := 3) (oi := ({ dst := some 149, op := Op.move (Operand.tmp 148), type := 4, pos := "law.go:77", after := #[{ on := 2, ground := Ground.data }], guard := none } : Oper)) (v := ?_) rfl (by kernel_rfl) (by kernel_rfl) (by kernel_rfl) (fun _ _ _ h => h) (Or.inl ⟨by rfl, ?_⟩) (by assumption) ?_
          rotate_left
          · rintro w ⟨s0, s1⟩; (try dsimp only); go_simp; first | done | with_reducible rfl
          try simp only [Act.put, List.setIfInBounds_toArray, List.set_cons_zero, List.set_cons_succ]
          refine wpAnyH_take (i := 4) (oi := ({ dst := some 150, op := Op.move (Operand.tmp 15), type := 37, pos := "law.go:77", after := #[{ on := 3, ground := Ground.guard }], guard := some (3, false) } : Oper)) (v := ?_) rfl (by kernel_rfl) (by kernel_rfl) (by kernel_rfl) (fun _ _ _ h => h) (Or.inl ⟨by rfl, ?_⟩) (by assumption) ?_
          rotate_left
          · rintro w ⟨s0, s1⟩; (try dsimp only); go_simp; first | done | with_reducible rfl
          try simp only [Act.put, List.setIfInBounds_toArray, List.set_cons_zero, List.set_cons_succ]
          refine wpAnyH_take (i := 5) (oi := ({ dst := some 151, op := Op.move (Operand.tmp 16), type := 37, pos := "law.go:77", after := #[{ on := 3, ground := Ground.guard }], guard := some (3, false) } : Oper)) (v := ?_) rfl (by kernel_rfl) (by kernel_rfl) (by kernel_rfl) (fun _ _ _ h => h) (Or.inl ⟨by rfl, ?_⟩) (by assumption) ?_
          rotate_left
          · rintro w ⟨s0, s1⟩; (try dsimp only); go_simp; first | done | with_reducible rfl
          try simp only [Act.put, List.setIfInBounds_toArray, List.set_cons_zero, List.set_cons_succ]
          refine wpAnyH_ready (rs := [6]) (by kernel_rfl) (by simp) ?_
          refine AllReadyH.cons (o := ({ dst := some 152, op := Op.call { callee := Callee.value (Operand.func 23), args := #[Operand.tmp 150, Operand.tmp 151], argTypes := #[37, 37] }, type := 4, pos := "law.go:77", after := #[{ on := 4, ground := Ground.data }, { on := 5, ground := Ground.data }, { on := 3, ground := Ground.chain }, { on := 3, ground := Ground.guard }], guard := some (3, false) } : Oper)) rfl (fun K hK => ?_) AllReadyH.nil
          go_simp
          refine (HXY.out _ (below_drewN (Below.refl _ _) 1)).mono ?_
          rintro e u1 ⟨rfl, hq1⟩
          have HQ1 := Lib.hid (show Below wz.heap.size wz u1 from below_undrawn (n := 1) hq1)
          clear hq1
          go_wp2_with fail
          refine hK.out _ _ (HSS.out _ HQ1.out) (fun hHeld => ?_)
          clear hK K
          try simp only [Act.put, List.setIfInBounds_toArray, List.set_cons_zero, List.set_cons_succ]
          refine wpAnyH_take (i := 7) (oi := ({ dst := some 153, op := Op.unOp UnOp.not 4 (Operand.tmp 152), type := 4, pos := "law.go:77", after := #[{ on := 6, ground := Ground.data }, { on := 3, ground := Ground.guard }], guard := some (3, false) } : Oper)) (v := ?_) rfl (by kernel_rfl) (by kernel_rfl) (by kernel_rfl) (fun _ _ _ h => h) (Or.inl ⟨by rfl, ?_⟩) (by assumption) ?_
          rotate_left
          · rintro w ⟨s0, s1⟩; (try dsimp only); go_simp; first | done | with_reducible rfl
          try simp only [Act.put, List.setIfInBounds_toArray, List.set_cons_zero, List.set_cons_succ]
          refine wpAnyH_take (i := 8) (oi := ({ dst := some 154, op := Op.pick (Operand.tmp 149) (Operand.const (Value.bool true)) (Operand.tmp 153), type := 4, pos := "law.go:77", after := #[{ on := 3, ground := Ground.data }, { on := 7, ground := Ground.data }], guard := none } : Oper)) (v := ?_) rfl (by kernel_rfl) (by kernel_rfl) (by kernel_rfl) (fun _ _ _ h => h) (Or.inl ⟨by rfl, ?_⟩) (by assumption) ?_
          rotate_left
          · rintro w ⟨s0, s1⟩; (try dsimp only); go_simp; first | done | with_reducible rfl
          try simp only [Act.put, List.setIfInBounds_toArray, List.set_cons_zero, List.set_cons_succ]
          refine wpAnyH_take (i := 9) (oi := ({ dst := some 155, op := Op.move (Operand.tmp 154), type := 4, pos := "law.go:77", after := #[{ on := 8, ground := Ground.data }, { on := 6, ground := Ground.chain }], guard := none } : Oper)) (v := ?_) rfl (by kernel_rfl) (by kernel_rfl) (by kernel_rfl) (fun _ _ _ h => h) (Or.inl ⟨by rfl, ?_⟩) (by assumption) ?_
          rotate_left
          · rintro w ⟨s0, s1⟩; (try dsimp only); go_simp; first | done | with_reducible rfl
          try simp only [Act.put, List.setIfInBounds_toArray, List.set_cons_zero, List.set_cons_succ]
          refine wpAnyH_take (i := 10) (oi := ({ dst := some 156, op := Op.move (Operand.tmp 5), type := 26, pos := "law.go:77", after := #[{ on := 9, ground := Ground.guard }], guard := some (9, false) } : Oper)) (v := ?_) rfl (by kernel_rfl) (by kernel_rfl) (by kernel_rfl) (fun _ _ _ h => h) (Or.inl ⟨by rfl, ?_⟩) (by assumption) ?_
          rotate_left
          · rintro w ⟨s0, s1⟩; (try dsimp only); go_simp; first | done | with_reducible rfl
          try simp only [Act.put, List.setIfInBounds_toArray, List.set_cons_zero, List.set_cons_succ]
          refine wpAnyH_take (i := 12) (oi := ({ dst := some 158, op := Op.fieldAddr 29 (Operand.tmp 6) 0, type := 0, pos := "law.go:77", after := #[{ on := 9, ground := Ground.guard }], guard := some (9, false) } : Oper)) (v := ?_) rfl (by kernel_rfl) (by kernel_rfl) (by kernel_rfl) (fun _ _ _ h => h) (Or.inl ⟨by rfl, ?_⟩) (by assumption) ?_
          rotate_left
          · rintro w ⟨s0, s1⟩; (try dsimp only); go_simp; first | done | with_reducible rfl
          try simp only [Act.put, List.setIfInBounds_toArray, List.set_cons_zero, List.set_cons_succ]
          refine wpAnyH_take (i := 13) (oi := ({ dst := some 159, op := Op.load 23 (Operand.tmp 158), type := 23, pos := "law.go:77", after := #[{ on := 12, ground := Ground.data }, { on := 9, ground := Ground.guard }], guard := some (9, false) } : Oper)) (v := ?_) rfl (by kernel_rfl) (by kernel_rfl) (by kernel_rfl) (fun _ _ _ h => h) (Or.inl ⟨by rfl, ?_⟩) (by assumption) ?_
          rotate_left
          · rintro w ⟨s0, s1⟩; (try dsimp only); go_simp; first | done | with_reducible rfl
          try simp only [Act.put, List.setIfInBounds_toArray, List.set_cons_zero, List.set_cons_succ]
          refine wpAnyH_ready (rs := [11]) (by kernel_rfl) (by simp) ?_
          refine AllReadyH.cons (o := ({ dst := some 157, op := Op.call { callee := Callee.value (Operand.func 24), args := #[Operand.tmp 156], argTypes := #[26] }, type := 23, pos := "law.go:77", after := #[{ on := 10, ground := Ground.data }, { on := 9, ground := Ground.chain }, { on := 9, ground := Ground.guard }], guard := some (9, false) } : Oper)) rfl (fun K hK => ?_) AllReadyH.nil
          go_simp
          refine (HAQ.out _ HQ1.out).mono ?_
          rintro e u2 ⟨AQ, cq, rfl, hoq, hq2⟩
          have HQ2 := Lib.hid (HQ1.out.trans (hq2.mono HQ1.out.size))
          have HOQ := Lib.hid hoq
          clear hq2 hoq
          go_wp2_with fail
          refine hK.out _ _ (HSS.out _ HQ2.out) (fun hHeld => ?_)
          clear hK K
          try simp only [Act.put, List.setIfInBounds_toArray, List.set_cons_zero, List.set_cons_succ]
          refine wpAnyH_ready (rs := [14]) (by kernel_rfl) (by simp) ?_
          refine AllReadyH.cons (o := ({ dst := some 160, op := Op.call { callee := Callee.value (Operand.func 13), args := #[Operand.tmp 157, Operand.tmp 159], argTypes := #[23, 23] }, type := 4, pos := "law.go:77", after := #[{ on := 11, ground := Ground.data }, { on := 13, ground := Ground.data }, { on := 11, ground := Ground.chain }, { on := 9, ground := Ground.guard }], guard := some (9, false) } : Oper)) rfl (fun K hK => ?_) AllReadyH.nil
          go_simp
          refine (HSQ.out _ _ _ (HOQ.out.rds fun _ _ => trivial) HQ2.out).mono ?_
          rintro e u3 ⟨rfl, hq3⟩
          have HQ3 := Lib.hid (HQ2.out.trans (hq3.mono HQ2.out.size))
          clear hq3
          go_wp2_with fail
          refine hK.out _ _ (HSS.out _ HQ3.out) (fun hHeld => ?_)
          clear hK K
          try simp only [Act.put, List.setIfInBounds_toArray, List.set_cons_zero, List.set_cons_succ]
          refine wpAnyH_take (i := 15) (oi := ({ dst := some 161, op := Op.unOp UnOp.not 4 (Operand.tmp 160), type := 4, pos := "law.go:77", after := #[{ on := 14, ground := Ground.data }, { on := 9, ground := Ground.guard }], guard := some (9, false) } : Oper)) (v := ?_) rfl (by kernel_rfl) (by kernel_rfl) (by kernel_rfl) (fun _ _ _ h => h) (Or.inl ⟨by rfl, ?_⟩) (by assumption) ?_
          rotate_left
          · rintro w ⟨s0, s1⟩; (try dsimp only); go_simp; first | done | with_reducible rfl
          try simp only [Act.put, List.setIfInBounds_toArray, List.set_cons_zero, List.set_cons_succ]
          refine wpAnyH_take (i := 16) (oi := ({ dst := some 162, op := Op.pick (Operand.tmp 155) (Operand.const (Value.bool true)) (Operand.tmp 161), type := 4, pos := "law.go:77", after := #[{ on := 9, ground := Ground.data }, { on := 15, ground := Ground.data }], guard := none } : Oper)) (v := ?_) rfl (by kernel_rfl) (by kernel_rfl) (by kernel_rfl) (fun _ _ _ h => h) (Or.inl ⟨by rfl, ?_⟩) (by assumption) ?_
          rotate_left
          · rintro w ⟨s0, s1⟩; (try dsimp only); go_simp; first | done | with_reducible rfl
          try simp only [Act.put, List.setIfInBounds_toArray, List.set_cons_zero, List.set_cons_succ]
          refine wpAnyH_take (i := 17) (oi := ({ dst := some 163, op := Op.move (Operand.tmp 162), type := 4, pos := "law.go:77", after := #[{ on := 16, ground := Ground.data }, { on := 14, ground := Ground.chain }], guard := none } : Oper)) (v := ?_) rfl (by kernel_rfl) (by kernel_rfl) (by kernel_rfl) (fun _ _ _ h => h) (Or.inl ⟨by rfl, ?_⟩) (by assumption) ?_
          rotate_left
          · rintro w ⟨s0, s1⟩; (try dsimp only); go_simp; first | done | with_reducible rfl
          try simp only [Act.put, List.setIfInBounds_toArray, List.set_cons_zero, List.set_cons_succ]
          refine wpAnyH_take (i := 18) (oi := ({ dst := some 164, op := Op.move (Operand.tmp 5), type := 26, pos := "law.go:77", after := #[{ on := 17, ground := Ground.guard }], guard := some (17, false) } : Oper)) (v := ?_) rfl (by kernel_rfl) (by kernel_rfl) (by kernel_rfl) (fun _ _ _ h => h) (Or.inl ⟨by rfl, ?_⟩) (by assumption) ?_
          rotate_left
          · rintro w ⟨s0, s1⟩; (try dsimp only); go_simp; first | done | with_reducible rfl
          try simp only [Act.put, List.setIfInBounds_toArray, List.set_cons_zero, List.set_cons_succ]
          refine wpAnyH_take (i := 19) (oi := ({ dst := some 165, op := Op.fieldAddr 39 (Operand.tmp 12) 1, type := 0, pos := "law.go:77", after := #[{ on := 17, ground := Ground.guard }], guard := some (17, false) } : Oper)) (v := ?_) rfl (by kernel_rfl) (by kernel_rfl) (by kernel_rfl) (fun _ _ _ h => h) (Or.inl ⟨by rfl, ?_⟩) (by assumption) ?_
          rotate_left
          · rintro w ⟨s0, s1⟩; (try dsimp only); go_simp; first | done | with_reducible rfl
          try simp only [Act.put, List.setIfInBounds_toArray, List.set_cons_zero, List.set_cons_succ]
          refine wpAnyH_take (i := 20) (oi := ({ dst := some 166, op := Op.load 3 (Operand.tmp 165), type := 3, pos := "law.go:77", after := #[{ on := 19, ground := Ground.data }, { on := 17, ground := Ground.guard }], guard := some (17, false) } : Oper)) (v := ?_) rfl (by kernel_rfl) (by kernel_rfl) (by kernel_rfl) (fun _ _ _ h => h) (Or.inl ⟨by rfl, ?_⟩) (by assumption) ?_
          rotate_left
          · rintro w ⟨s0, s1⟩; (try dsimp only); go_simp; first | done | with_reducible rfl
          try simp only [Act.put, List.setIfInBounds_toArray, List.set_cons_zero, List.set_cons_succ]
          refine wpAnyH_take (i := 22) (oi := ({ dst := some 168, op := Op.load 29 (Operand.tmp 6), type := 29, pos := "law.go:77", after := #[{ on := 17, ground := Ground.guard }], guard := some (17, false) } : Oper)) (v := ?_) rfl (by kernel_rfl) (by kernel_rfl) (by kernel_rfl) (fun _ _ _ h => h) (Or.inl ⟨by rfl, ?_⟩) (by assumption) ?_
          rotate_left
          · rintro w ⟨s0, s1⟩; (try dsimp only); go_simp; first | done | with_reducible rfl
          try simp only [Act.put, List.setIfInBounds_toArray, List.set_cons_zero, List.set_cons_succ]
          refine wpAnyH_take (i := 23) (oi := ({ dst := some 169, op := Op.fieldAddr 39 (Operand.tmp 12) 1, type := 0, pos := "law.go:77", after := #[{ on := 17, ground := Ground.guard }], guard := some (17, false) } : Oper)) (v := ?_) rfl (by kernel_rfl) (by kernel_rfl) (by kernel_rfl) (fun _ _ _ h => h) (Or.inl ⟨by rfl, ?_⟩) (by assumption) ?_
          rotate_left
          · rintro w ⟨s0, s1⟩; (try dsimp only); go_simp; first | done | with_reducible rfl
          try simp only [Act.put, List.setIfInBounds_toArray, List.set_cons_zero, List.set_cons_succ]
          refine wpAnyH_take (i := 24) (oi := ({ dst := some 170, op := Op.load 3 (Operand.tmp 169), type := 3, pos := "law.go:77", after := #[{ on := 23, ground := Ground.data }, { on := 17, ground := Ground.guard }], guard := some (17, false) } : Oper)) (v := ?_) rfl (by kernel_rfl) (by kernel_rfl) (by kernel_rfl) (fun _ _ _ h => h) (Or.inl ⟨by rfl, ?_⟩) (by assumption) ?_
          rotate_left
          · rintro w ⟨s0, s1⟩; (try dsimp only); go_simp; first | done | with_reducible rfl
          try simp only [Act.put, List.setIfInBounds_toArray, List.set_cons_zero, List.set_cons_succ]
          refine wpAnyH_ready (rs := [21]) (by kernel_rfl) (by simp) ?_
          refine AllReadyH.cons (o := ({ dst := some 167, op := Op.call { callee := Callee.value (Operand.func 25), args := #[Operand.tmp 164, Operand.tmp 166], argTypes := #[26, 3] }, type := 4, pos := "law.go:77", after := #[{ on := 18, ground := Ground.data }, { on := 20, ground := Ground.data }, { on := 17, ground := Ground.chain }, { on := 17, ground := Ground.guard }], guard := some (17, false) } : Oper)) rfl (fun K hK => ?_) AllReadyH.nil
          go_simp
          refine (HLQ.out _ HQ3.out).mono ?_
          rintro e u4 ⟨rfl, hq4⟩
          have HQ4 := Lib.hid (HQ3.out.trans (hq4.mono HQ3.out.size))
          clear hq4
          go_wp2_with fail
          refine hK.out _ _ (HSS.out _ HQ4.out) (fun hHeld => ?_)
          clear hK K
          try simp only [Act.put, List.setIfInBounds_toArray, List.set_cons_zero, List.set_cons_succ]
          refine wpAnyH_ready (rs := [25]) (by kernel_rfl) (by simp) ?_
          refine AllReadyH.cons (o := ({ dst := some 171, op := Op.call { callee := Callee.value (Operand.func 26), args := #[Operand.tmp 168, Operand.tmp 170], argTypes := #[29, 3] }, type := 4, pos := "law.go:77", after := #[{ on := 22, ground := Ground.data }, { on := 24, ground := Ground.data }, { on := 21, ground := Ground.chain }, { on := 17, ground := Ground.guard }], guard := some (17, false) } : Oper)) rfl (fun K hK => ?_) AllReadyH.nil
          go_simp
          refine (HVQ.out _ HQ4.out).mono ?_
          rintro e u5 ⟨rfl, hq5⟩
          have HQ5 := Lib.hid (HQ4.out.trans (hq5.mono HQ4.out.size))
          clear hq5
          go_wp2_with fail
          refine hK.out _ _ (HSS.out _ HQ5.out) (fun hHeld => ?_)
          clear hK K
          try simp only [Act.put, List.setIfInBounds_toArray, List.set_cons_zero, List.set_cons_succ]
          refine wpAnyH_take (i := 26) (oi := ({ dst := some 172, op := Op.binOp BinOp.neq 4 (Operand.tmp 167) (Operand.tmp 171) 4, type := 4, pos := "law.go:77", after := #[{ on := 21, ground := Ground.data }, { on := 25, ground := Ground.data }, { on := 17, ground := Ground.guard }], guard := some (17, false) } : Oper)) (v := ?_) rfl (by kernel_rfl) (by kernel_rfl) (by kernel_rfl) (fun _ _ _ h => h) (Or.inl ⟨by rfl, ?_⟩) (by assumption) ?_
          rotate_left
          · rintro w ⟨s0, s1⟩; (try dsimp only); go_simp; first | done | with_reducible rfl
          try simp only [Act.put, List.setIfInBounds_toArray, List.set_cons_zero, List.set_cons_succ]
          refine wpAnyH_take (i := 27) (oi := ({ dst := some 173, op := Op.pick (Operand.tmp 163) (Operand.const (Value.bool true)) (Operand.tmp 172), type := 4, pos := "law.go:77", after := #[{ on := 17, ground := Ground.data }, { on := 26, ground := Ground.data }], guard := none } : Oper)) (v := ?_) rfl (by kernel_rfl) (by kernel_rfl) (by kernel_rfl) (fun _ _ _ h => h) (Or.inl ⟨by rfl, ?_⟩) (by assumption) ?_
          rotate_left
          · rintro w ⟨s0, s1⟩; (try dsimp only); go_simp; first | done | with_reducible rfl
          try simp only [Act.put, List.setIfInBounds_toArray, List.set_cons_zero, List.set_cons_succ]
          refine wpAnyH_done (by kernel_rfl) ?_ _
          go_wp2_with fail
          go_roundw
          case rel => exact ⟨k + 1, GZ, TZ, HLT.out, by go_num, HTZ.out.kept HQ5.out, HRZ.out.below HQ5.out⟩
          case measure => have := HLT.out; simp [intOf]; omega
        · have HBZ := Lib.hid htt.be
          clear hrw htt hk
          go_wp2_with fail
          go_ret
          exact ⟨rfl, HBZ.out⟩
end Go.Proofs.Ytfbdmemjojjgnaa
