/-
  WatchLoads: a walk; no statement.
-/
import Derived.Test.YtbppokdaehaocaaDoorWatchBoth
import Derived.Deep.CutRange
import Derived.Deep.RegionHeld3
namespace Go.Proofs.YtbppokdaehaocaaDoor
set_option maxRecDepth 100000
open Go.RowKit
set_option linter.unusedVariables false
set_option maxRecDepth 100000

set_option maxHeartbeats 12800000 in
theorem watchLoads_walk (w : World) (hE : Env w) (v0 : Value) (ops : List Wo) (h0 : InWos w v0 ops) (v1 : Value) (xs : List Wt) (h1 : InWts w v1 xs) :
    Calls Tryd.prog 4 #[v0, v1] w (Tr w) := by
  obtain ⟨SA, sc, rfl, hso, hbig⟩ := h0
  obtain ⟨LA, lc, rfl, hls, hlw, hlp⟩ := h1
  have HAL := Lib.hid (alive_ok w hE)
  have HGR := Lib.hid (fun W (hW : Below w.heap.size w W) => great_any SA sc ops W (hso.below hW) hbig)
  have HSO := Lib.hid hso
  have HLS := Lib.hid hls
  have HLP := Lib.hid hlp
  have HBG := Lib.hid hbig
  have HE := Lib.hid hE
  obtain ⟨n, hn⟩ : ∃ n, n = ops.length := ⟨_, rfl⟩
  have HNX := Lib.hid hn
  have hn63 : n ≤ 9223372036854775807 := by have := hso.1; have := hso.2.1; simp only [maxLen] at *; omega
  obtain ⟨m, hm⟩ : ∃ m, m = xs.length := ⟨_, rfl⟩
  have HMX := Lib.hid hm
  rw [← hm] at hlw
  rw [← hn] at HGR
  rw [← hn, ← hm]
  clear hso hls hlp hE hn hm hbig
  go_enter Tryd.func4, Tryd.ntmps4
  go_wp2_with fail
  refine (HAL.out).mono ?_
  rintro e w1 ⟨rfl, hb1⟩
  have HB1 := Lib.hid hb1
  clear hb1 HAL
  go_wp2_with fail
  refine (HGR.out w1 HB1.out).mono ?_
  rintro e w2 ⟨bg, q, rfl, hgr, rfl⟩
  have HB2 := Lib.hid (below_drewN HB1.out q)
  have HGV := Lib.hid hgr
  clear hgr HGR
  cases bg with
  | true =>
    go_wp2_with fail
    go_ret
    exact ⟨rfl, HB2.out⟩
  | false =>
  have HGN := Lib.hid (HGV.out rfl)
  clear HGV
  by_cases h200 : 200 < m
  · have y200 : (200 : Int) < (m : Int) := by omega
    go_wp2_with fail
    go_ret
    exact ⟨rfl, HB2.out⟩
  have y200 : ¬ (200 : Int) < (m : Int) := by omega
  have HM200 := Lib.hid (show m ≤ 200 by omega)
  have HNW := Lib.hid (newW_any (w1.drewN q))
  clear h200
  go_wp2_with fail
  refine (HNW.out).mono ?_
  intro e w3 h3
  obtain ⟨g, F1, rfl, t1, f1, b3⟩ := WOn.of_new HB2.out h3
  have RW1 := Lib.hid (RefW.new (w := w3) (G := F1) fun k hk => (t1.low k hk).2)
  have T1 := Lib.hid (t1.kept ((Below.refl w3.heap.size w3).alloc (Nat.le_refl _) (.cells #[.slice none 0 0] 29)))
  obtain ⟨gm, hgm⟩ : ∃ gm, gm = w3.heap.size := ⟨_, rfl⟩
  have HGM := Lib.hid (show w.heap.size ≤ gm by have := t1.be.size; omega)
  clear h3 t1 f1 b3 HNW
  go_wp2_with fail
  rw [← hgm] at RW1 ⊢
  clear hgm
  go_loopw [7] (fun i wr => ∃ (k : Nat) (G : Nat → Prop), k ≤ n ∧ i = .int .i64 k ∧ WOn G w g (wFold [] ((wos ops).take k)) wr ∧ RefW G gm (wFold [] ((wos ops).take k)) wr) (fun i _ => n - (intOf i).toNat)
  case atStart => exact ⟨0, F1, by omega, rfl, T1.out, RW1.out⟩
  case round =>
    obtain ⟨k, G, hk, rfl, htt, hrw⟩ := hrel
    by_cases hlt : k < n
    · have hkx : k < ops.length := by have := HNX.out; omega
      have hx : ops[k]? = some ops[k] := List.getElem?_eq_getElem hkx
      obtain ⟨a, B, d, C, e, rfl, hal, c0, c1, c2, c3, -, -, -, -⟩ := (HSO.out.below htt.be).wo6 hx
      have HST := Lib.hid (fun W (hW : Below w.heap.size w W) => show Op3 a k ops[k].wt W by
        obtain ⟨a', _, _, _, _, e, _, _, q1, q2, q3, _⟩ := (HSO.out.below hW).wo6 hx
        obtain rfl := Option.some.inj e
        exact ⟨q1, q2, q3⟩)
      have HN1 := Lib.hid (wFold_next [] (wos_at hx))
      have hpl := (HBG.out _ (List.getElem_mem hkx)).path
      generalize ops[k] = o at *
      obtain ⟨what, x, ops1, ops2⟩ := o
      have c1 : wr.cell? ⟨(a.add (k * 6)).block, (a.add (k * 6)).off + 1, none⟩ = some (.int .i64 x.client) := c1
      have c2 : wr.cell? ⟨(a.add (k * 6)).block, (a.add (k * 6)).off + 2, none⟩ = some (.int .i64 x.kind) := c2
      have c3 : wr.cell? ⟨(a.add (k * 6)).block, (a.add (k * 6)).off + 3, none⟩ = some (.string ⟨x.path.toArray⟩) := c3
      have HST := Lib.hid (fun W (hW : Below w.heap.size w W) => show Op3 a k x W from HST.out W hW)
      have hpl : x.path.length ≤ 140737488355328 := hpl
      have HN1 := Lib.hid (show wFold [] ((wos ops).take (k + 1)) = (wAdd x (wFold [] ((wos ops).take k))).1 from HN1.out)
      generalize wFold [] ((wos ops).take k) = T at *
      have HTT := Lib.hid htt
      have HRW0 := Lib.hid hrw
      have HLT := Lib.hid hlt
      have HPL := Lib.hid hpl
      obtain ⟨p, hp⟩ : ∃ p, p = x.path.length := ⟨_, rfl⟩
      have hsz : (⟨x.path.toArray⟩ : ByteArray).size = p := by rw [hp]; simp [ByteArray.size]
      have y1 : (0 : Int) ≤ (k : Int) := by omega
      have y2 : (k : Int) < (n : Int) := by omega
      by_cases hp1 : 1000 < p
      · have y5 : (1000 : Int) < (p : Int) := by omega
        clear htt hrw hx hkx hlt hk hal hp hp1 hpl
        go_wp2_with fail
        go_ret
        exact ⟨rfl, HTT.out.be⟩
      · have y5 : ¬ (1000 : Int) < (p : Int) := by omega
        clear htt hrw hx hkx hlt hk hal hp hp1 hpl
        go_wp2_with fail
        refine (HTT.out.add HE.out x).mono ?_
        rintro e w5 ⟨rfl, G2, t5, f5, cg5⟩
        have T5 := Lib.hid t5
        have RW := Lib.hid (HRW0.out.did cg5 f5)
        obtain ⟨RA, rc, kg, hrd, hng⟩ := RW.out
        have HKG := Lib.hid kg
        have m5 := kg.at_ (i := 0) rfl
        have HRA := Lib.hid (fun W (hW : Below w5.heap.size w5 W) => refAddW_any RA rc T _ x W (hrd.below hW) (by have := HTT.out.ok.len; omega) (by have := HPL.out; simp only [maxLen]; omega))
        clear t5 f5 cg5 kg hrd hng c0 c1 c2 c3
        go_wp2_with fail
        refine wp_region_held_drew (S := fun X => Op3 a k x X) (by kernel_rfl) (HST.out _ (below_drewN T5.out.be 1)) (fun hHeld => ?_)
        refine wpAnyH_take (i := 1) (oi := ({ dst := some 49, op := Op.move (Operand.tmp 0), type := 22, pos := "law.go:96", after := #[], guard := none } : Oper)) (v := ?_) rfl (by kernel_rfl) (by kernel_rfl) (by kernel_rfl) (fun _ _ _ h => h) (Or.inl ⟨by rfl, ?_⟩) (by assumption) ?_
        rotate_left
        · rintro w ⟨s0, s1, s2⟩; (try dsimp only); go_simp; first | done | with_reducible rfl
        try simp only [Act.put, List.setIfInBounds_toArray, List.set_cons_zero, List.set_cons_succ]
        refine wpAnyH_take (i := 2) (oi := ({ dst := some 50, op := Op.move (Operand.tmp 7), type := 3, pos := "law.go:96", after := #[], guard := none } : Oper)) (v := ?_) rfl (by kernel_rfl) (by kernel_rfl) (by kernel_rfl) (fun _ _ _ h => h) (Or.inl ⟨by rfl, ?_⟩) (by assumption) ?_
        rotate_left
        · rintro w ⟨s0, s1, s2⟩; (try dsimp only); go_simp; first | done | with_reducible rfl
        try simp only [Act.put, List.setIfInBounds_toArray, List.set_cons_zero, List.set_cons_succ]
        refine wpAnyH_take (i := 3) (oi := ({ dst := some 51, op := Op.indexAddr 22 (Operand.tmp 49) (Operand.tmp 50), type := 0, pos := "law.go:96", after := #[{ on := 1, ground := Ground.data }, { on := 2, ground := Ground.data }], guard := none } : Oper)) (v := ?_) rfl (by kernel_rfl) (by kernel_rfl) (by kernel_rfl) (fun _ _ _ h => h) (Or.inl ⟨by rfl, ?_⟩) (by assumption) ?_
        rotate_left
        · rintro w ⟨s0, s1, s2⟩; (try dsimp only); go_simp; first | done | with_reducible rfl
        try simp only [Act.put, List.setIfInBounds_toArray, List.set_cons_zero, List.set_cons_succ]
        refine wpAnyH_take (i := 4) (oi := ({ dst := some 52, op := Op.fieldAddr 35 (Operand.tmp 51) 1, type := 0, pos := "law.go:96", after := #[{ on := 3, ground := Ground.data }], guard := none } : Oper)) (v := ?_) rfl (by kernel_rfl) (by kernel_rfl) (by kernel_rfl) (fun _ _ _ h => h) (Or.inl ⟨by rfl, ?_⟩) (by assumption) ?_
        rotate_left
        · rintro w ⟨s0, s1, s2⟩; (try dsimp only); go_simp; first | done | with_reducible rfl
        try simp only [Act.put, List.setIfInBounds_toArray, List.set_cons_zero, List.set_cons_succ]
        refine wpAnyH_take (i := 5) (oi := ({ dst := some 53, op := Op.load 31 (Operand.tmp 52), type := 31, pos := "law.go:96", after := #[{ on := 4, ground := Ground.data }], guard := none } : Oper)) (v := ?_) rfl (by kernel_rfl) (by kernel_rfl) (by kernel_rfl) (fun _ _ _ h => h) (Or.inl ⟨by rfl, ?_⟩) (by assumption) ?_
        rotate_left
        · rintro w ⟨s0, s1, s2⟩; (try dsimp only); go_simp; first | done | with_reducible rfl
        try simp only [Act.put, List.setIfInBounds_toArray, List.set_cons_zero, List.set_cons_succ]
        refine wpAnyH_ready (rs := [0]) (by kernel_rfl) (by simp) ?_
        refine AllReadyH.cons (o := ({ dst := some 48, op := Op.load 29 (Operand.tmp 6), type := 29, pos := "law.go:96", after := #[], guard := none } : Oper)) rfl (fun K hK => ?_) AllReadyH.nil
        go_simp
        refine hK.out _ _ (HST.out _ (below_drewN T5.out.be 1)) (fun hHeld => ?_)
        clear hK K
        try simp only [Act.put, List.setIfInBounds_toArray, List.set_cons_zero, List.set_cons_succ]
        refine wpAnyH_ready (rs := [6]) (by kernel_rfl) (by simp) ?_
        refine AllReadyH.cons (o := ({ dst := some 54, op := Op.call { callee := Callee.value (Operand.func 11), args := #[Operand.tmp 48, Operand.tmp 53], argTypes := #[29, 31] }, type := 37, pos := "law.go:96", after := #[{ on := 0, ground := Ground.data }, { on := 5, ground := Ground.data }], guard := none } : Oper)) rfl (fun K hK => ?_) AllReadyH.nil
        go_simp
        refine (HRA.out _ (below_drewN (Below.refl _ _) 1)).mono ?_
        rintro e w6 ⟨hb6, A6, c6, rfl, hr6⟩
        have HB6 := Lib.hid (show Below w5.heap.size w5 w6 from below_undrawn (n := 1) hb6)
        have HRW := Lib.hid ((RW.out.below (below_drewN (Below.refl _ _) 1)).put hb6 (fun b hb => (T5.out.low b hb).2) hr6)
        have m6 : w6.cell? ⟨gm, 0, none⟩ = some (.slice RA T.length rc) := (HKG.out.kept HB6.out).at_ rfl
        have z6 : w6.frozen? ⟨gm, 0, none⟩ = false := (HKG.out.kept HB6.out).frozen 0
        clear hb6 hr6
        go_wp2_with fail
        refine hK.out _ _ (HST.out _ (T5.out.be.trans (HB6.out.mono T5.out.be.size))) (fun hHeld => ?_)
        clear hK K
        try simp only [Act.put, List.setIfInBounds_toArray, List.set_cons_zero, List.set_cons_succ]
        refine wpAnyH_take (i := 7) (oi := ({ dst := some 47, op := Op.move (Operand.tmp 54), type := 37, pos := "law.go:96", after := #[{ on := 6, ground := Ground.data }], guard := none } : Oper)) (v := ?_) rfl (by kernel_rfl) (by kernel_rfl) (by kernel_rfl) (fun _ _ _ h => h) (Or.inl ⟨by rfl, ?_⟩) (by assumption) ?_
        rotate_left
        · rintro w ⟨s0, s1, s2⟩; (try dsimp only); go_simp; first | done | with_reducible rfl
        try simp only [Act.put, List.setIfInBounds_toArray, List.set_cons_zero, List.set_cons_succ]
        refine wpAnyH_take (i := 8) (oi := ({ dst := some 55, op := Op.extract (Operand.tmp 47) 0, type := 29, pos := "law.go:96", after := #[{ on := 7, ground := Ground.data }], guard := none } : Oper)) (v := ?_) rfl (by kernel_rfl) (by kernel_rfl) (by kernel_rfl) (fun _ _ _ h => h) (Or.inl ⟨by rfl, ?_⟩) (by assumption) ?_
        rotate_left
        · rintro w ⟨s0, s1, s2⟩; (try dsimp only); go_simp; first | done | with_reducible rfl
        try simp only [Act.put, List.setIfInBounds_toArray, List.set_cons_zero, List.set_cons_succ]
        refine wpAnyH_take (i := 9) (oi := ({ dst := some 56, op := Op.extract (Operand.tmp 47) 1, type := 36, pos := "law.go:96", after := #[{ on := 7, ground := Ground.data }, { on := 10, ground := Ground.gcOnly Departure.lateStores }], guard := none } : Oper)) (v := ?_) rfl (by kernel_rfl) (by kernel_rfl) (by kernel_rfl) (fun _ _ _ h => h) (Or.inl ⟨by rfl, ?_⟩) (by assumption) ?_
        rotate_left
        · rintro w ⟨s0, s1, s2⟩; (try dsimp only); go_simp; first | done | with_reducible rfl
        try simp only [Act.put, List.setIfInBounds_toArray, List.set_cons_zero, List.set_cons_succ]
        refine wpAnyH_ready (rs := [10]) (by kernel_rfl) (by simp) ?_
        refine AllReadyH.cons (o := ({ dst := none, op := Op.store 29 (Operand.tmp 6) (Operand.tmp 55), type := 0, pos := "law.go:96", after := #[{ on := 8, ground := Ground.data }, { on := 6, ground := Ground.chain }, { on := 0, ground := Ground.phase }, { on := 1, ground := Ground.phase }, { on := 2, ground := Ground.phase }, { on := 3, ground := Ground.phase }, { on := 4, ground := Ground.phase }, { on := 5, ground := Ground.phase }, { on := 6, ground := Ground.phase }, { on := 7, ground := Ground.phase }, { on := 8, ground := Ground.phase }, { on := 9, ground := Ground.textOnly Departure.lateStores }], guard := none } : Oper)) rfl (fun K hK => ?_) AllReadyH.nil
        go_simp
        refine hK.out _ _ (HST.out _ ((T5.out.be.trans (HB6.out.mono T5.out.be.size)).grown (grown_set (grown_refl w6 (some gm)) 0 _) (Nat.le_trans T5.out.be.size HB6.out.size) (fun b hb => by have := Option.some.inj hb; have := HGM.out; omega))) (fun hHeld => ?_)
        clear hK K
        try simp only [Act.put, List.setIfInBounds_toArray, List.set_cons_zero, List.set_cons_succ]
        refine wpAnyH_done (by kernel_rfl) ?_ _
        go_wp2_with fail
        go_roundw
        case rel => exact ⟨k + 1, G2, HLT.out, by go_num, by rw [HN1.out]; exact (T5.out.kept HB6.out).set_far HRW.out.notin HGM.out, by rw [HN1.out]; exact HRW.out⟩
        case measure => have := HLT.out; simp [intOf]; omega
    · rw [List.take_of_length_le (by rw [wos_len]; have := HNX.out; omega)] at htt hrw
      generalize wFold [] (wos ops) = T at *
      have HTT := Lib.hid htt
      have HRW := Lib.hid hrw
      have hlx : RdS RWt AllB wr LA lc xs := HLS.out.below htt.be
      have HCP := Lib.hid (show Calls Tryd.prog 24 #[.slice LA m lc] wr (FreshW xs wr) from by
        have := copyW_any LA lc xs AllB wr hlx (by have := HM200.out; have := HMX.out; omega)
        rwa [← HMX.out] at this)
      clear htt hrw hlx hk
      go_wp2_with fail
      refine HCP.out.mono ?_
      rintro e w5 ⟨A5, c5, rfl, ho5, hb5⟩
      have T5 := Lib.hid (HTT.out.kept hb5)
      have RW5 := Lib.hid (HRW.out.below hb5)
      have HSZ := Lib.hid hb5.size
      have HB56 := Lib.hid hb5
      have HAS := Lib.hid (Aside.of_all ho5 HTT.out)
      have HO5 := Lib.hid ho5
      have HLD := Lib.hid (T5.out.load HE.out A5 c5 xs AllB (ho5.rds fun _ _ => trivial) (by have := HM200.out; have := HMX.out; omega))
      rw [← HMX.out] at HLD ⊢
      -- the reference's row was there before
      obtain ⟨RA, rc, kg, hrd0, hng⟩ := HRW.out
      have HRD := Lib.hid (hrd0.keep (F' := fun b => (¬ G b ∧ b ≠ gm) ∧ b < wr.heap.size) ⟨Nat.le_refl _, fun _ _ _ => rfl⟩ fun b hb hl => ⟨hb, hl⟩)
      have HKG := Lib.hid (kg.kept hb5)
      clear ho5 hb5 HCP kg hrd0 hng
      go_wp2_with fail
      refine HLD.out.mono ?_
      rintro e w6 ⟨rfl, G6, t6, f6, cg6⟩
      have T6 := Lib.hid t6
      have HAS6 := Lib.hid (HAS.out.did cg6 f6)
      have HO6 := Lib.hid (show OwnW w6 wr.heap.size A5 m c5 xs by
        have := cg6.ownW HO5.out HAS.out.2
        rwa [← HMX.out] at this)
      have HKG6 := Lib.hid (cg6.bk HKG.out RW5.out.notin)
      have HRD6 := Lib.hid (show RdS RWt (fun b => b < wr.heap.size) w6 RA rc T from (HRD.out.below (show Below wr.heap.size wr w5 from by
          have h1 := T5.out.be; exact HB56.out)).keep ⟨cg6.size, fun b hb hl => cg6.block b hl hb.1.1⟩ fun b hb _ => hb.2)
      have m6 := HKG6.out.at_ (i := 0) rfl
      have HRL := Lib.hid (show Calls Tryd.prog 26 #[.agg #[.slice RA T.length rc], .slice LA m lc] w6 (RefP (fun b => b < wr.heap.size) [.bool (wTakes xs)] (wLoaded xs T) w6) from by
        have := refLoadW_any RA rc T (fun b => b < wr.heap.size) LA lc xs AllB w6 HRD6.out (HLS.out.below t6.be) (by have := HM200.out; have := HMX.out; omega) (fun y hy => by have := HLP.out y hy; simp only [maxLen]; omega)
        rwa [← HMX.out] at this)
      clear t6 f6 cg6 HLD
      go_wp2_with fail
      refine HRL.out.mono ?_
      rintro e w7 ⟨hb7, A7, c7, rfl, hr7⟩
      have T7 := Lib.hid (T6.out.kept hb7)
      have HO7 := Lib.hid (HO6.out.below hb7)
      have HAS7 := Lib.hid (HAS6.out.kept hb7)
      have HR7 := Lib.hid hr7
      have HS67 := Lib.hid hb7.size
      have hk8 := Bk.new w7 29 [.slice A7 (wLoaded xs T).length c7]
      have HK8 := Lib.hid hk8
      have hb8 := (Below.refl w7.heap.size w7).alloc (Nat.le_refl _) (.cells #[.slice A7 (wLoaded xs T).length c7] 29)
      have HB8 := Lib.hid hb8
      have HSM := Lib.hid (show Calls Tryd.prog 17 #[.slice A5 m c5, .slice LA m lc] (w7.alloc (.cells #[.slice A7 (wLoaded xs T).length c7] 29)) (Ans (.bool true) (w7.alloc (.cells #[.slice A7 (wLoaded xs T).length c7] 29))) from by
        have := sameW_any A5 LA c5 lc _ AllB AllB xs xs ((HAS7.out.kept hb8).rds) (HLS.out.below (T7.out.kept hb8).be) (by have := HM200.out; have := HMX.out; omega)
        rw [decide_eq_true rfl, ← HMX.out] at this
        exact this)
      have q0 : (wTakes xs != wTakes xs) = false := by simp
      obtain ⟨tb, htb⟩ : ∃ tb, tb = wTakes xs := ⟨_, rfl⟩
      rw [← htb] at q0 ⊢
      have q1 : (tb != tb) = false := q0
      clear hb7 hr7 m6 HRL hk8 hb8 htb q0
      go_wp2_with fail
      refine HSM.out.mono ?_
      rintro e w9 ⟨rfl, hb9⟩
      have T9 := Lib.hid ((T7.out.kept HB8.out).kept hb9)
      have HB79 := Lib.hid (HB8.out.trans (hb9.mono HB8.out.size))
      have HO9 := Lib.hid (HO7.out.below HB79.out)
      have HK9 := Lib.hid (HK8.out.kept hb9)
      have HAS9 := Lib.hid (HAS7.out.kept HB79.out)
      have HR9 := Lib.hid (HR7.out.below HB79.out)
      have hm200 : m ≤ 200 := HM200.out
      clear hb9 HSM
      go_wp2_with fail
      go_loopw [12] (fun si wz => ∃ (i : Nat) (ys : List Wt), i ≤ m ∧ si = .int .i64 i ∧ ys.length = m ∧ OwnW wz wr.heap.size A5 m c5 ys ∧ w9.grownBy wz (Value.slice A5 m c5).ownBlock) (fun si _ => m - (intOf si).toNat)
      case atStart => exact ⟨0, xs, by omega, rfl, HMX.out.symm, HO9.out, grown_refl _ _⟩
      case round =>
        rename World => wz
        obtain ⟨i, ys, hi, rfl, hyl, hoz, hgz⟩ := hrel
        by_cases hlt2 : i < m
        · have hy : ys[i]? = some (ys[i]'(by omega)) := List.getElem?_eq_getElem (by omega)
          obtain ⟨go, rfl, hgo, d0, d1, ho2⟩ := hoz.set77 hy 77
          generalize ys[i]'(by omega) = y at *
          have HO2 := Lib.hid ho2
          have HG2 := Lib.hid (show w9.grownBy (wz.setCell ⟨go, i * 3, none⟩ (.int .i64 77)) (Value.slice (some ⟨go, 0, none⟩) m c5).ownBlock from grown_set hgz _ _)
          have HYL := Lib.hid hyl
          have HLT2 := Lib.hid hlt2
          have y1 : (0 : Int) ≤ (i : Int) := by omega
          have y2 : (i : Int) < (m : Int) := by omega
          clear hoz hgz hy ho2 hyl hlt2 hgo
          go_wp2_with fail
          go_roundw
          case rel => exact ⟨i + 1, ys.set i { y with client := 77 }, HLT2.out, by go_num, by rw [List.length_set]; exact HYL.out, HO2.out, HG2.out⟩
          case measure => have := HLT2.out; simp [intOf]; omega
        · have hcz : Chg (fun b => (Value.slice A5 m c5).ownBlock = some b) w9 wz := (Chg.refl _ _).grown hgz fun b hb => .inl hb
          have hbz := T9.out.be.grown hgz T9.out.be.size (fun b hb => Nat.le_trans HTT.out.be.size (hoz.block b hb))
          have T10 := Lib.hid (T9.out.other hcz (fun k hk e => HAS9.out.2 k (by rw [← HMX.out]; exact e) hk) hbz)
          have hkz := HK9.out.grown hgz (fun e => by have h1 := HO6.out.lt _ e.symm; have h2 := HS67.out; omega)
          have HSC := Lib.hid (show wz.drew.cell? ⟨w7.heap.size, 0, none⟩ = some (.slice A7 (wLoaded xs T).length c7) from hkz.at_ rfl)
          have m9 : wz.cell? ⟨w7.heap.size, 0, none⟩ = some (.slice A7 (wLoaded xs T).length c7) := hkz.at_ rfl
          have HRZ := Lib.hid (show RdS RWt AllB wz A7 c7 (wLoaded xs T) from HR9.out.keep (Kp.of_grown hgz fun b hb e => by
            have h1 := HO9.out.block b e.symm
            have h2 := HO6.out.lt b e.symm
            rcases hb with q | q <;> omega) fun _ _ _ => trivial)
          have HALL := Lib.hid (fun W (hW : Below wz.heap.size wz W) => (T10.out.kept hW).all)
          have HSM2 := Lib.hid (fun W A c (ho : RdS RWt AllB W A c (wLoaded xs T)) (hW : Below wz.heap.size wz W) => show Calls Tryd.prog 17 #[.slice A (wLoaded xs T).length c, .slice A7 (wLoaded xs T).length c7] W (Ans (.bool true) W) from by
            have := sameW_any A A7 c c7 W AllB AllB _ _ ho (HRZ.out.below hW) (by have := T10.out.ok.len; omega)
            rwa [decide_eq_true rfl] at this)
          clear hcz hbz hkz hoz hgz hyl hi
          go_wp2_with fail
          go_region_held3 (fun W => W.cell? ⟨w7.heap.size, 0, none⟩ = some (.slice A7 (wLoaded xs T).length c7))
            (first | exact HSC.out | exact cell_kept HSC.out (by assumption) | exact cell_kept (cell_kept HSC.out (by assumption)) (by assumption))
            (first
            | (go_at_call 23; refine (HALL.out _ (below_drewN (Below.refl _ _) 1)).mono ?_; rintro e w11 ⟨A11, c11, rfl, ho11, hb11⟩)
            | (go_at_call 17; refine (HSM2.out _ _ _ (ho11.rds fun _ _ => trivial) (below_undrawn (n := 1) hb11)).mono ?_; rintro e w12 ⟨rfl, hb12⟩))
          go_wp2_with fail
          go_ret
          exact ⟨rfl, ((T10.out.kept (below_undrawn (n := 1) hb11)).kept hb12).be⟩
end Go.Proofs.YtbppokdaehaocaaDoor
