/-
  WatchSteps: a walk; no statement.
-/
import Derived.Test.YtbppokdaehaocaaDoorWatchBoth
import Derived.Test.YtbppokdaehaocaaDoorMRows
import Derived.Deep.CutRange
import Derived.Deep.RegionHeld3
namespace Go.Proofs.YtbppokdaehaocaaDoor
set_option maxRecDepth 100000
open Go.RowKit
set_option linter.unusedVariables false
set_option maxRecDepth 100000

/-- the cells of the watch in a box of a script's call -/
def Wat3 (b : Nat) (x : Wt) (W : World) : Prop :=
  W.cell? ⟨b, 1, none⟩ = some (.int .i64 x.client) ∧ W.cell? ⟨b, 2, none⟩ = some (.int .i64 x.kind) ∧ W.cell? ⟨b, 3, none⟩ = some (.string ⟨x.path.toArray⟩)
set_option maxHeartbeats 25600000 in
theorem watchSteps_walk (w : World) (hE : Env w) (v0 : Value) (ops : List Wo) (h0 : InWos w v0 ops) :
    Calls Tryd.prog 3 #[v0] w (Tr w) := by
  obtain ⟨SA, sc, rfl, hso, hbig⟩ := h0
  have HAL := Lib.hid (alive_ok w hE)
  have HGR := Lib.hid (fun W (hW : Below w.heap.size w W) => great_any SA sc ops W (hso.below hW) hbig)
  have HSO := Lib.hid hso
  have HE := Lib.hid hE
  obtain ⟨n, hn⟩ : ∃ n, n = ops.length := ⟨_, rfl⟩
  have HNX := Lib.hid hn
  have hn63 : n ≤ 9223372036854775807 := by have := hso.1; have := hso.2.1; simp only [maxLen] at *; omega
  rw [← hn] at HGR
  rw [← hn]
  clear hso hE hn hbig
  go_enter Tryd.func3, Tryd.ntmps3
  go_wp2_with fail
  refine (HAL.out).mono ?_
  rintro e w1 ⟨rfl, hb1⟩
  have HB1 := Lib.hid hb1
  clear hb1 HAL
  go_wp2_with fail
  refine (HGR.out w1 HB1.out).mono ?_
  rintro e w2 ⟨bg, q, rfl, hgr, rfl⟩
  have HB2 := Lib.hid (below_drewN HB1.out q)
  have HGV := Lib.hid hgr
  clear hgr HGR
  cases bg with
  | true =>
    go_wp2_with fail
    go_ret
    exact ⟨rfl, HB2.out⟩
  | false =>
  have HGN := Lib.hid (HGV.out rfl)
  clear HGV
  have HNW := Lib.hid (newW_any (w1.drewN q))
  go_wp2_with fail
  refine (HNW.out).mono ?_
  intro e w3 h3
  obtain ⟨g, F1, rfl, t1, f1, b3⟩ := WOn.of_new HB2.out h3
  have RW1 := Lib.hid (RefW.new (w := w3) (G := F1) fun k hk => (t1.low k hk).2)
  have T1 := Lib.hid (t1.kept ((Below.refl w3.heap.size w3).alloc (Nat.le_refl _) (.cells #[.slice none 0 0] 29)))
  obtain ⟨gm, hgm⟩ : ∃ gm, gm = w3.heap.size := ⟨_, rfl⟩
  have HGM := Lib.hid (show w.heap.size ≤ gm by have := t1.be.size; omega)
  clear h3 t1 f1 b3 HNW
  go_wp2_with fail
  rw [← hgm] at RW1 ⊢
  clear hgm
  go_loopw [5] (fun i wr => ∃ (k : Nat) (G : Nat → Prop) (T : List Wt), k ≤ n ∧ i = .int .i64 k ∧ WOn G w g T wr ∧ RefW G gm T wr) (fun i _ => n - (intOf i).toNat)
  case atStart => exact ⟨0, F1, [], by omega, rfl, T1.out, RW1.out⟩
  case round =>
    obtain ⟨k, G, T, hk, rfl, htt, hrw⟩ := hrel
    by_cases hlt : k < n
    · have hkx : k < ops.length := by have := HNX.out; omega
      have hx : ops[k]? = some ops[k] := List.getElem?_eq_getElem hkx
      obtain ⟨a, B, d, C, f, rfl, hal, c0, c1, c2, c3, c4, c5, hB, hC⟩ := HSO.out.wo6 hx
      have hwo := Nat.le_trans (woW_mem (List.getElem_mem hkx)) HGN.out
      generalize ops[k] = o at *
      obtain ⟨what, x, ps, cs⟩ := o
      have hwo : ps.length + cs.length + x.path.length ≤ 5000 := hwo
      have c0 : wr.cell? (a.add (k * 6)) = some (.int .i64 what) := cell_kept c0 htt.be
      have c1 : wr.cell? ⟨(a.add (k * 6)).block, (a.add (k * 6)).off + 1, none⟩ = some (.int .i64 x.client) := cell_kept c1 htt.be
      have c2 : wr.cell? ⟨(a.add (k * 6)).block, (a.add (k * 6)).off + 2, none⟩ = some (.int .i64 x.kind) := cell_kept c2 htt.be
      have c3 : wr.cell? ⟨(a.add (k * 6)).block, (a.add (k * 6)).off + 3, none⟩ = some (.string ⟨x.path.toArray⟩) := cell_kept c3 htt.be
      have c4 : wr.cell? ⟨(a.add (k * 6)).block, (a.add (k * 6)).off + 4, none⟩ = some (.slice B ps.length d) := cell_kept c4 htt.be
      have c5 : wr.cell? ⟨(a.add (k * 6)).block, (a.add (k * 6)).off + 5, none⟩ = some (.slice C cs.length f) := cell_kept c5 htt.be
      have HPT := Lib.hid (fun W (hW : Below w.heap.size w W) => show RdT W B ps.length ps from (RdS.texts (show RdS RTx AllB w B d ps from hB)).below hW)
      have HCI := Lib.hid (fun W (hW : Below w.heap.size w W) => show Rd W C cs.length (cs.map (.int .i64 ·)) from (RdS.ints (show RdS RIn AllB w C f cs from hC)).below hW)
      have HPL := Lib.hid (show x.path.length ≤ 5000 by omega)
      have hpn : ps.length ≤ 5000 := by omega
      have hcn : cs.length ≤ 5000 := by omega
      have hbt : wr.heap.size < (wr.alloc (.cells #[.int .i64 what, .int .i64 x.client, .int .i64 x.kind, .string ⟨x.path.toArray⟩, .slice B ps.length d, .slice C cs.length f] 35)).heap.size := by simp
      have hba := (Below.refl wr.heap.size wr).alloc (Nat.le_refl _) (.cells #[.int .i64 what, .int .i64 x.client, .int .i64 x.kind, .string ⟨x.path.toArray⟩, .slice B ps.length d, .slice C cs.length f] 35)
      have hbk := Bk.new wr 35 [.int .i64 what, .int .i64 x.client, .int .i64 x.kind, .string ⟨x.path.toArray⟩, .slice B ps.length d, .slice C cs.length f]
      have HTA := Lib.hid (htt.kept hba)
      have HRA := Lib.hid (hrw.below hba)
      have HNB := Lib.hid (show ¬ G wr.heap.size ∧ wr.heap.size ≠ gm from ⟨fun h => by have := (htt.low _ h).2; omega, by have := hrw.lt; omega⟩)
      have HKB := Lib.hid (show Bk (wr.alloc (.cells #[.int .i64 what, .int .i64 x.client, .int .i64 x.kind, .string ⟨x.path.toArray⟩, .slice B ps.length d, .slice C cs.length f] 35)) wr.heap.size 35 [.int .i64 what, .int .i64 x.client, .int .i64 x.kind, .string ⟨x.path.toArray⟩, .slice B ps.length d, .slice C cs.length f] from hbk)
      have HLT := Lib.hid hlt
      have y1 : (0 : Int) ≤ (k : Int) := by omega
      have y2 : (k : Int) < (n : Int) := by omega
      obtain ⟨wa, hwa⟩ : ∃ wa, wa = wr.alloc (.cells #[.int .i64 what, .int .i64 x.client, .int .i64 x.kind, .string ⟨x.path.toArray⟩, .slice B ps.length d, .slice C cs.length f] 35) := ⟨_, rfl⟩
      obtain ⟨bo, hbo⟩ : ∃ bo, bo = wr.heap.size := ⟨_, rfl⟩
      rw [← hwa] at HTA HRA HKB
      rw [← hbo] at HKB HNB
      clear htt hrw hx hkx hlt hk hal hwo hB hC hbt hba hbk
      go_upto_region 13 with fail
      rw [← hwa, ← hbo]
      clear hwa hbo c0 c1 c2 c3 c4 c5
      obtain ⟨d0, d1, d2, d3, d4, d5⟩ : wa.cell? ⟨bo, 0, none⟩ = some (.int .i64 what) ∧ wa.cell? ⟨bo, 1, none⟩ = some (.int .i64 x.client) ∧ wa.cell? ⟨bo, 2, none⟩ = some (.int .i64 x.kind) ∧ wa.cell? ⟨bo, 3, none⟩ = some (.string ⟨x.path.toArray⟩) ∧ wa.cell? ⟨bo, 4, none⟩ = some (.slice B ps.length d) ∧ wa.cell? ⟨bo, 5, none⟩ = some (.slice C cs.length f) :=
        ⟨HKB.out.at_ rfl, HKB.out.at_ rfl, HKB.out.at_ rfl, HKB.out.at_ rfl, HKB.out.at_ rfl, HKB.out.at_ rfl⟩
      by_cases hw1 : what = 1
      · have q1 : (what == 1) = true := by simpa using hw1
        clear hw1
        obtain ⟨RA, rc, kg, hrd, hng⟩ := HRA.out
        have HKG := Lib.hid kg
        have m5 := kg.at_ (i := 0) rfl
        have HADD := Lib.hid (refAddW_any RA rc T _ x wa hrd (by have := HTA.out.ok.len; omega) (by have := HPL.out; simp only [maxLen]; omega))
        obtain ⟨ev, hev⟩ : ∃ ev, ev = (wAdd x T).2 := ⟨_, rfl⟩
        obtain ⟨TZ, hTZ⟩ : ∃ TZ, TZ = (wAdd x T).1 := ⟨_, rfl⟩
        rw [← hev, ← hTZ] at HADD
        have HADT := Lib.hid (fun W (hW : WOn G w g T W) => show Calls Tryd.prog 12 #[.pointer (some ⟨g, 0, none⟩), .agg #[.int .i64 x.client, .int .i64 x.kind, .string ⟨x.path.toArray⟩]] W (MvW G w g TZ (.int .i64 ev) W) by
          rw [hTZ, hev]; exact hW.add HE.out x)
        clear kg hrd hng hev hTZ
        go_wp2_with fail
        refine HADD.out.mono ?_
        rintro e w6 ⟨hb6, A6, c6, rfl, hr6⟩
        have hba := hb6.trans (((Below.refl w6.heap.size w6).alloc (Nat.le_refl _) (.cells #[.slice A6 TZ.length c6] 29)).mono hb6.size)
        have HSZ := Lib.hid hb6.size
        have HB6 := Lib.hid hba
        have m6 : (w6.alloc (.cells #[.slice A6 TZ.length c6] 29)).cell? ⟨gm, 0, none⟩ = some (.slice RA T.length rc) := (HKG.out.kept hba).at_ rfl
        have z6 : (w6.alloc (.cells #[.slice A6 TZ.length c6] 29)).frozen? ⟨gm, 0, none⟩ = false := (HKG.out.kept hba).frozen 0
        have m7 : (w6.alloc (.cells #[.slice A6 TZ.length c6] 29)).cell? ⟨w6.heap.size, 0, none⟩ = some (.slice A6 TZ.length c6) := (Bk.new w6 29 [.slice A6 TZ.length c6]).at_ rfl
        have HR7 := Lib.hid (HRA.out.put hba (fun b hb => (HTA.out.low b hb).2) (hr6.below ((Below.refl w6.heap.size w6).alloc (Nat.le_refl _) (.cells #[.slice A6 TZ.length c6] 29))))
        have HT7 := Lib.hid ((HTA.out.kept hba).set_far (v := .slice A6 TZ.length c6) HRA.out.notin HGM.out)
        have HK7 := Lib.hid ((HKB.out.kept hba).far (p := ⟨gm, 0, none⟩) HNB.out.2 (.slice A6 TZ.length c6))
        obtain ⟨w7, hw7⟩ : ∃ w7, w7 = (w6.alloc (.cells #[.slice A6 TZ.length c6] 29)).setCell ⟨gm, 0, none⟩ (.slice A6 TZ.length c6) := ⟨_, rfl⟩
        rw [← hw7] at HR7 HT7 HK7
        have HST := Lib.hid (fun X (hX : Bk X bo 35 [.int .i64 what, .int .i64 x.client, .int .i64 x.kind, .string ⟨x.path.toArray⟩, .slice B ps.length d, .slice C cs.length f]) => show Wat3 bo x X from ⟨hX.at_ rfl, hX.at_ rfl, hX.at_ rfl⟩)
        have qe : (ev != ev) = false := by simp
        obtain ⟨rb, hrb⟩ : ∃ rb, rb = wRight x := ⟨_, rfl⟩
        have qr : (rb != rb) = false := by simp
        have HRG := Lib.hid (fun W (hW : Env W) => show Calls Tryd.prog 13 #[.agg #[.int .i64 x.client, .int .i64 x.kind, .string ⟨x.path.toArray⟩]] W (Ans (.bool rb) W) by rw [hrb]; exact right_any x W hW)
        have HRR := Lib.hid (fun W => show Calls Tryd.prog 14 #[.agg #[.int .i64 x.client, .int .i64 x.kind, .string ⟨x.path.toArray⟩]] W (Ans (.bool rb) W) by rw [hrb]; exact refRightW_any x W (by have := HPL.out; simp only [maxLen]; omega))
        clear hb6 hba hr6 hrb d0 d1 d2 d3 d4 d5 HADD
        go_wp2_with fail
        rw [← hw7]
        clear hw7 m5 m6 m7 z6
        refine wp_region_held_drew (S := fun X => Wat3 bo x X) (by kernel_rfl) (HST.out _ (HK7.out.drewN 1)) (fun hHeld => ?_)
        refine wpAnyH_take (i := 0) (oi := ({ dst := some 42, op := Op.move (Operand.tmp 3), type := 25, pos := "law.go:57", after := #[], guard := none } : Oper)) (v := ?_) rfl (by kernel_rfl) (by kernel_rfl) (by kernel_rfl) (fun _ _ _ h => h) (Or.inl ⟨by rfl, ?_⟩) (by assumption) ?_
        rotate_left
        · rintro w ⟨s0, s1, s2⟩; (try dsimp only); go_simp; first | done | with_reducible rfl
        try simp only [Act.put, List.setIfInBounds_toArray, List.set_cons_zero, List.set_cons_succ]
        refine wpAnyH_take (i := 1) (oi := ({ dst := some 43, op := Op.fieldAddr 35 (Operand.tmp 6) 1, type := 0, pos := "law.go:57", after := #[], guard := none } : Oper)) (v := ?_) rfl (by kernel_rfl) (by kernel_rfl) (by kernel_rfl) (fun _ _ _ h => h) (Or.inl ⟨by rfl, ?_⟩) (by assumption) ?_
        rotate_left
        · rintro w ⟨s0, s1, s2⟩; (try dsimp only); go_simp; first | done | with_reducible rfl
        try simp only [Act.put, List.setIfInBounds_toArray, List.set_cons_zero, List.set_cons_succ]
        refine wpAnyH_take (i := 2) (oi := ({ dst := some 44, op := Op.load 31 (Operand.tmp 43), type := 31, pos := "law.go:57", after := #[{ on := 1, ground := Ground.data }], guard := none } : Oper)) (v := ?_) rfl (by kernel_rfl) (by kernel_rfl) (by kernel_rfl) (fun _ _ _ h => h) (Or.inl ⟨by rfl, ?_⟩) (by assumption) ?_
        rotate_left
        · rintro w ⟨s0, s1, s2⟩; (try dsimp only); go_simp; first | done | with_reducible rfl
        try simp only [Act.put, List.setIfInBounds_toArray, List.set_cons_zero, List.set_cons_succ]
        refine wpAnyH_take (i := 4) (oi := ({ dst := some 46, op := Op.move (Operand.tmp 8), type := 36, pos := "law.go:57", after := #[], guard := none } : Oper)) (v := ?_) rfl (by kernel_rfl) (by kernel_rfl) (by kernel_rfl) (fun _ _ _ h => h) (Or.inl ⟨by rfl, ?_⟩) (by assumption) ?_
        rotate_left
        · rintro w ⟨s0, s1, s2⟩; (try dsimp only); go_simp; first | done | with_reducible rfl
        try simp only [Act.put, List.setIfInBounds_toArray, List.set_cons_zero, List.set_cons_succ]
        refine wpAnyH_ready (rs := [3]) (by kernel_rfl) (by simp) ?_
        refine AllReadyH.cons (o := ({ dst := some 45, op := Op.call { callee := Callee.value (Operand.func 12), args := #[Operand.tmp 42, Operand.tmp 44], argTypes := #[25, 31] }, type := 36, pos := "law.go:57", after := #[{ on := 0, ground := Ground.data }, { on := 2, ground := Ground.data }], guard := none } : Oper)) rfl (fun K hK => ?_) AllReadyH.nil
        go_simp
        refine (HADT.out _ (HT7.out.kept (below_drewN (Below.refl _ _) 1))).mono ?_
        rintro e w8 ⟨rfl, GZ, t8, f8, cg8⟩
        have HT8 := Lib.hid t8
        have HR8 := Lib.hid ((HR7.out.below (below_drewN (Below.refl _ _) 1)).did cg8 f8)
        have HK8 := Lib.hid (cg8.bk (HK7.out.kept (below_drewN (Below.refl _ _) 1)) HNB.out.1)
        clear t8 f8 cg8
        go_wp2_with fail
        refine hK.out _ _ (HST.out _ HK8.out) (fun hHeld => ?_)
        clear hK K
        try simp only [Act.put, List.setIfInBounds_toArray, List.set_cons_zero, List.set_cons_succ]
        refine wpAnyH_take (i := 5) (oi := ({ dst := some 47, op := Op.binOp BinOp.neq 36 (Operand.tmp 45) (Operand.tmp 46) 36, type := 4, pos := "law.go:57", after := #[{ on := 3, ground := Ground.data }, { on := 4, ground := Ground.data }], guard := none } : Oper)) (v := ?_) rfl (by kernel_rfl) (by kernel_rfl) (by kernel_rfl) (fun _ _ _ h => h) (Or.inl ⟨by rfl, ?_⟩) (by assumption) ?_
        rotate_left
        · rintro w ⟨s0, s1, s2⟩; (try dsimp only); go_simp; first | done | with_reducible rfl
        try simp only [Act.put, List.setIfInBounds_toArray, List.set_cons_zero, List.set_cons_succ]
        refine wpAnyH_take (i := 6) (oi := ({ dst := some 48, op := Op.move (Operand.tmp 47), type := 4, pos := "law.go:57", after := #[{ on := 5, ground := Ground.data }, { on := 3, ground := Ground.chain }], guard := none } : Oper)) (v := ?_) rfl (by kernel_rfl) (by kernel_rfl) (by kernel_rfl) (fun _ _ _ h => h) (Or.inl ⟨by rfl, ?_⟩) (by assumption) ?_
        rotate_left
        · rintro w ⟨s0, s1, s2⟩; (try dsimp only); go_simp; first | done | with_reducible rfl
        try simp only [Act.put, List.setIfInBounds_toArray, List.set_cons_zero, List.set_cons_succ]
        refine wpAnyH_take (i := 7) (oi := ({ dst := some 49, op := Op.fieldAddr 35 (Operand.tmp 6) 1, type := 0, pos := "law.go:57", after := #[{ on := 6, ground := Ground.guard }], guard := some (6, false) } : Oper)) (v := ?_) rfl (by kernel_rfl) (by kernel_rfl) (by kernel_rfl) (fun _ _ _ h => h) (Or.inl ⟨by rfl, ?_⟩) (by assumption) ?_
        rotate_left
        · rintro w ⟨s0, s1, s2⟩; (try dsimp only); go_simp; first | done | with_reducible rfl
        try simp only [Act.put, List.setIfInBounds_toArray, List.set_cons_zero, List.set_cons_succ]
        refine wpAnyH_take (i := 8) (oi := ({ dst := some 50, op := Op.load 31 (Operand.tmp 49), type := 31, pos := "law.go:57", after := #[{ on := 7, ground := Ground.data }, { on := 6, ground := Ground.guard }], guard := some (6, false) } : Oper)) (v := ?_) rfl (by kernel_rfl) (by kernel_rfl) (by kernel_rfl) (fun _ _ _ h => h) (Or.inl ⟨by rfl, ?_⟩) (by assumption) ?_
        rotate_left
        · rintro w ⟨s0, s1, s2⟩; (try dsimp only); go_simp; first | done | with_reducible rfl
        try simp only [Act.put, List.setIfInBounds_toArray, List.set_cons_zero, List.set_cons_succ]
        refine wpAnyH_take (i := 10) (oi := ({ dst := some 52, op := Op.fieldAddr 35 (Operand.tmp 6) 1, type := 0, pos := "law.go:57", after := #[{ on := 6, ground := Ground.guard }], guard := some (6, false) } : Oper)) (v := ?_) rfl (by kernel_rfl) (by kernel_rfl) (by kernel_rfl) (fun _ _ _ h => h) (Or.inl ⟨by rfl, ?_⟩) (by assumption) ?_
        rotate_left
        · rintro w ⟨s0, s1, s2⟩; (try dsimp only); go_simp; first | done | with_reducible rfl
        try simp only [Act.put, List.setIfInBounds_toArray, List.set_cons_zero, List.set_cons_succ]
        refine wpAnyH_take (i := 11) (oi := ({ dst := some 53, op := Op.load 31 (Operand.tmp 52), type := 31, pos := "law.go:57", after := #[{ on := 10, ground := Ground.data }, { on := 6, ground := Ground.guard }], guard := some (6, false) } : Oper)) (v := ?_) rfl (by kernel_rfl) (by kernel_rfl) (by kernel_rfl) (fun _ _ _ h => h) (Or.inl ⟨by rfl, ?_⟩) (by assumption) ?_
        rotate_left
        · rintro w ⟨s0, s1, s2⟩; (try dsimp only); go_simp; first | done | with_reducible rfl
        try simp only [Act.put, List.setIfInBounds_toArray, List.set_cons_zero, List.set_cons_succ]
        refine wpAnyH_ready (rs := [9]) (by kernel_rfl) (by simp) ?_
        refine AllReadyH.cons (o := ({ dst := some 51, op := Op.call { callee := Callee.value (Operand.func 13), args := #[Operand.tmp 50], argTypes := #[31] }, type := 4, pos := "law.go:57", after := #[{ on := 8, ground := Ground.data }, { on := 6, ground := Ground.chain }, { on := 6, ground := Ground.guard }], guard := some (6, false) } : Oper)) rfl (fun K hK => ?_) AllReadyH.nil
        go_simp
        refine (HRG.out _ (HT8.out.env HE.out)).mono ?_
        rintro e w9 ⟨rfl, hb9⟩
        have HT9 := Lib.hid (HT8.out.kept hb9)
        have HR9 := Lib.hid (HR8.out.below hb9)
        have HK9 := Lib.hid (HK8.out.kept hb9)
        clear hb9
        go_wp2_with fail
        refine hK.out _ _ (HST.out _ HK9.out) (fun hHeld => ?_)
        clear hK K
        try simp only [Act.put, List.setIfInBounds_toArray, List.set_cons_zero, List.set_cons_succ]
        refine wpAnyH_ready (rs := [12]) (by kernel_rfl) (by simp) ?_
        refine AllReadyH.cons (o := ({ dst := some 54, op := Op.call { callee := Callee.value (Operand.func 14), args := #[Operand.tmp 53], argTypes := #[31] }, type := 4, pos := "law.go:57", after := #[{ on := 11, ground := Ground.data }, { on := 9, ground := Ground.chain }, { on := 6, ground := Ground.guard }], guard := some (6, false) } : Oper)) rfl (fun K hK => ?_) AllReadyH.nil
        go_simp
        refine (HRR.out _).mono ?_
        rintro e wz ⟨rfl, hb10⟩
        have HTZ := Lib.hid (HT9.out.kept hb10)
        have HRZ := Lib.hid (HR9.out.below hb10)
        have HK10 := Lib.hid (HK9.out.kept hb10)
        clear hb10
        go_wp2_with fail
        refine hK.out _ _ (HST.out _ HK10.out) (fun hHeld => ?_)
        clear hK K
        try simp only [Act.put, List.setIfInBounds_toArray, List.set_cons_zero, List.set_cons_succ]
        refine wpAnyH_take (i := 13) (oi := ({ dst := some 55, op := Op.binOp BinOp.neq 4 (Operand.tmp 51) (Operand.tmp 54) 4, type := 4, pos := "law.go:57", after := #[{ on := 9, ground := Ground.data }, { on := 12, ground := Ground.data }, { on := 6, ground := Ground.guard }], guard := some (6, false) } : Oper)) (v := ?_) rfl (by kernel_rfl) (by kernel_rfl) (by kernel_rfl) (fun _ _ _ h => h) (Or.inl ⟨by rfl, ?_⟩) (by assumption) ?_
        rotate_left
        · rintro w ⟨s0, s1, s2⟩; (try dsimp only); go_simp; first | done | with_reducible rfl
        try simp only [Act.put, List.setIfInBounds_toArray, List.set_cons_zero, List.set_cons_succ]
        refine wpAnyH_take (i := 14) (oi := ({ dst := some 56, op := Op.pick (Operand.tmp 48) (Operand.const (Value.bool true)) (Operand.tmp 55), type := 4, pos := "law.go:57", after := #[{ on := 6, ground := Ground.data }, { on := 13, ground := Ground.data }], guard := none } : Oper)) (v := ?_) rfl (by kernel_rfl) (by kernel_rfl) (by kernel_rfl) (fun _ _ _ h => h) (Or.inl ⟨by rfl, ?_⟩) (by assumption) ?_
        rotate_left
        · rintro w ⟨s0, s1, s2⟩; (try dsimp only); go_simp; first | done | with_reducible rfl
        try simp only [Act.put, List.setIfInBounds_toArray, List.set_cons_zero, List.set_cons_succ]
        refine wpAnyH_done (by kernel_rfl) ?_ _
        obtain ⟨RZ, cz, kz, rz, -⟩ := HRZ.out
        have HSC := Lib.hid (show wz.drew.cell? ⟨gm, 0, none⟩ = some (.slice RZ TZ.length cz) from kz.at_ rfl)
        have m9 : wz.cell? ⟨gm, 0, none⟩ = some (.slice RZ TZ.length cz) := kz.at_ rfl
        have HRS := Lib.hid rz
        have HALL := Lib.hid (fun W (hW : Below wz.heap.size wz W) => (HTZ.out.kept hW).all)
        have HSM2 := Lib.hid (fun W A c (ho : RdS RWt AllB W A c TZ) (hW : Below wz.heap.size wz W) => show Calls Tryd.prog 17 #[.slice A TZ.length c, .slice RZ TZ.length cz] W (Ans (.bool true) W) from by
          have := sameW_any A RZ c cz W AllB _ _ _ ho (HRS.out.below hW) (by have := HTZ.out.ok.len; omega)
          rwa [decide_eq_true rfl] at this)
        clear kz rz
        go_wp2_with fail
        go_region_held3 (fun W => W.cell? ⟨gm, 0, none⟩ = some (.slice RZ TZ.length cz))
          (first | exact HSC.out | exact cell_kept HSC.out (by assumption) | exact cell_kept (cell_kept HSC.out (by assumption)) (by assumption))
          (first
          | (go_at_call 23; refine (HALL.out _ (below_drewN (Below.refl _ _) 1)).mono ?_; rintro e w11 ⟨A11, c11, rfl, ho11, hb11⟩)
          | (go_at_call 17; refine (HSM2.out _ _ _ (ho11.rds fun _ _ => trivial) (below_undrawn (n := 1) hb11)).mono ?_; rintro e w12 ⟨rfl, hb12⟩))
        go_wp2_with fail
        go_roundw
        case rel => exact ⟨k + 1, GZ, TZ, HLT.out, by go_num, (HTZ.out.kept (below_undrawn (n := 1) hb11)).kept hb12, (HRZ.out.below (below_undrawn (n := 1) hb11)).below hb12⟩
        case measure => have := HLT.out; simp [intOf]; omega
      have q1 : (what == 1) = false := by simpa using hw1
      clear hw1
      by_cases hw2 : what = 2
      · have q2 : (what == 2) = true := by simpa using hw2
        clear hw2
        have HCT := Lib.hid (copyTexts_any B ps.length d ps wa (HPT.out _ HTA.out.be) (by omega))
        go_wp2_with fail
        refine HCT.out.mono ?_
        rintro e w5 ⟨A5, n5, c5, rfl, ho5, hb5⟩
        obtain rfl : ps.length = n5 := ho5.len
        have HO5 := Lib.hid ho5
        have HT5 := Lib.hid (HTA.out.kept hb5)
        have HR5 := Lib.hid (HRA.out.below hb5)
        have HK5 := Lib.hid (HKB.out.kept hb5)
        have HSA := Lib.hid hb5.size
        obtain ⟨RA, rc, kg, hrd, hng⟩ := HR5.out
        have HKG := Lib.hid kg
        have m5 := kg.at_ (i := 0) rfl
        have HFR := Lib.hid (refFireW_any RA rc T _ x.kind B ps.length d ps w5 hrd (by have := HTA.out.ok.len; omega) (HPT.out _ HT5.out.be) (by omega))
        clear kg hrd hng ho5 hb5 HCT d0 d1 d2 d3 d4 d5
        have d2 : w5.cell? ⟨bo, 2, none⟩ = some (.int .i64 x.kind) := HK5.out.at_ rfl
        have d4 : w5.cell? ⟨bo, 4, none⟩ = some (.slice B ps.length d) := HK5.out.at_ rfl
        obtain ⟨TZ, hTZ⟩ : ∃ TZ, TZ = wLeft x.kind ps T := ⟨_, rfl⟩
        obtain ⟨TF, hTF⟩ : ∃ TF, TF = wFired x.kind ps T := ⟨_, rfl⟩
        rw [← hTZ, ← hTF] at HFR
        have HFL := Lib.hid (show TF.length ≤ 64 by have := HTA.out.ok.len; have h2 := filter_two (wHit x.kind ps) T; rw [hTF]; unfold wFired; omega)
        have HFT := Lib.hid (fun W A c (hW : WOn G w g T W) (hp : RdT W A ps.length ps) => show Calls Tryd.prog 18 #[.pointer (some ⟨g, 0, none⟩), .int .i64 x.kind, .slice A ps.length c] W (FireW G w g TZ TF W) by
          rw [hTZ, hTF]; exact hW.fire x.kind A ps.length c ps hp (by simp only [maxLen]; omega))
        clear hTZ hTF
        go_wp2_with fail
        refine HFR.out.mono ?_
        rintro e w6 ⟨hb6, A6, c6, A7, c7, rfl, hr6, hf6⟩
        have hb1 := (Below.refl w6.heap.size w6).alloc (Nat.le_refl _) (.cells #[.slice A6 TZ.length c6] 29)
        have hba := hb6.trans (hb1.mono hb6.size)
        have m6 : (w6.alloc (.cells #[.slice A6 TZ.length c6] 29)).cell? ⟨gm, 0, none⟩ = some (.slice RA T.length rc) := (HKG.out.kept hba).at_ rfl
        have z6 : (w6.alloc (.cells #[.slice A6 TZ.length c6] 29)).frozen? ⟨gm, 0, none⟩ = false := (HKG.out.kept hba).frozen 0
        have m7 : (w6.alloc (.cells #[.slice A6 TZ.length c6] 29)).cell? ⟨w6.heap.size, 0, none⟩ = some (.slice A6 TZ.length c6) := (Bk.new w6 29 [.slice A6 TZ.length c6]).at_ rfl
        have HR7 := Lib.hid (HR5.out.put hba (fun b hb => (HT5.out.low b hb).2) ((hr6.below hb1).keep (F' := fun b => (¬ G b ∧ b ≠ gm) ∨ w5.heap.size ≤ b) ⟨Nat.le_refl _, fun _ _ _ => rfl⟩ fun b hb _ => .inr hb))
        have HT7 := Lib.hid ((HT5.out.kept hba).set_far (v := .slice A6 TZ.length c6) HR5.out.notin HGM.out)
        have HK7 := Lib.hid ((HK5.out.kept hba).far (p := ⟨gm, 0, none⟩) HNB.out.2 (.slice A6 TZ.length c6))
        have g7 := grown_set (grown_refl (w6.alloc (.cells #[.slice A6 TZ.length c6] 29)) (some gm)) 0 (.slice A6 TZ.length c6)
        have HF7 := Lib.hid ((hf6.below hb1).keep (F' := From w5.heap.size) (Kp.of_grown g7 fun b hb e => by have h1 := Option.some.inj e; have h2 := HR5.out.lt; have h3 : w5.heap.size ≤ b := hb; omega) fun b hb _ => hb)
        have HO7 := Lib.hid (show OwnT _ wa.heap.size A5 ps.length c5 ps from World.ownsRow.kept (HO5.out.below hba) g7 (.inr (fun e => by have h1 := HO5.out.block _ e; have h2 := HRA.out.lt; omega)))
        obtain ⟨w7, hw7⟩ : ∃ w7, w7 = (w6.alloc (.cells #[.slice A6 TZ.length c6] 29)).setCell ⟨gm, 0, none⟩ (.slice A6 TZ.length c6) := ⟨_, rfl⟩
        rw [← hw7] at HR7 HT7 HK7 HF7 HO7
        have d2' : w7.cell? ⟨bo, 2, none⟩ = some (.int .i64 x.kind) := HK7.out.at_ rfl
        have HFC := Lib.hid (HFT.out w7 A5 c5 HT7.out HO7.out.rd)
        clear hb6 hb1 hba hr6 hf6 g7 HFR HFT
        go_upto_region 23 with fail
        rw [← hw7]
        clear hw7 m5 m6 m7 z6 d2 d4
        go_wp2_with fail
        refine HFC.out.mono ?_
        rintro e w8 ⟨A8, c8, GZ, rfl, ho8, -, t8, f8, cg8⟩
        have HT8 := Lib.hid t8
        have HR8 := Lib.hid (HR7.out.did cg8 f8)
        have HK8 := Lib.hid (cg8.bk HK7.out HNB.out.1)
        have HO8 := Lib.hid (show OwnT w8 wa.heap.size A5 ps.length c5 ps from cg8.owns HO7.out fun b hb hg => by have h1 := HO7.out.block _ hb; have h2 := (HTA.out.low _ hg).2; omega)
        have hf8 : RdS RWt (From w5.heap.size) w8 A7 c7 TF := HF7.out.keep ⟨cg8.size, fun b hb hl => cg8.block b hl (fun hg => by have h1 : w5.heap.size ≤ b := hb; have h2 := (HT5.out.low _ hg).2; omega)⟩ fun b hb _ => hb
        have HSM := Lib.hid (show Calls Tryd.prog 17 #[.slice A8 TF.length c8, .slice A7 TF.length c7] w8 (Ans (.bool true) w8) from by
          have := sameW_any A8 A7 c8 c7 w8 AllB _ TF TF (ho8.rds fun _ _ => trivial) hf8 (by have := HFL.out; omega)
          rwa [decide_eq_true rfl] at this)
        clear ho8 t8 f8 cg8 hf8 d2' HFC
        go_wp2_with fail
        refine HSM.out.mono ?_
        rintro e w9 ⟨rfl, hb9⟩
        have HT9 := Lib.hid (HT8.out.kept hb9)
        have HR9 := Lib.hid (HR8.out.below hb9)
        have HST := Lib.hid (show Calls Tryd.prog 19 #[.slice A5 ps.length c5, .slice B ps.length d] w9 (Quiet (.bool true) w9) from by
          have := sameTexts_any A5 B ps.length ps.length c5 d w9 ps ps ((HO8.out.below hb9).rd) (HPT.out _ HT9.out.be) (by simp only [maxLen]; omega)
          rwa [decide_eq_true rfl] at this)
        have d4 : w9.cell? ⟨bo, 4, none⟩ = some (.slice B ps.length d) := (HK8.out.kept hb9).at_ rfl
        clear hb9 HSM
        go_wp2_with fail
        refine HST.out.mono ?_
        rintro e wz ⟨rfl, qn, hwz⟩
        have HTZ := Lib.hid (show WOn GZ w g TZ wz by rw [hwz]; exact HT9.out.kept (below_drewN (Below.refl _ _) qn))
        have HRZ := Lib.hid (show RefW GZ gm TZ wz by rw [hwz]; exact HR9.out.below (below_drewN (Below.refl _ _) qn))
        clear hwz d4 HST
        obtain ⟨RZ, cz, kz, rz, -⟩ := HRZ.out
        have HSC := Lib.hid (show wz.drew.cell? ⟨gm, 0, none⟩ = some (.slice RZ TZ.length cz) from kz.at_ rfl)
        have m9 : wz.cell? ⟨gm, 0, none⟩ = some (.slice RZ TZ.length cz) := kz.at_ rfl
        have HRS := Lib.hid rz
        have HALL := Lib.hid (fun W (hW : Below wz.heap.size wz W) => (HTZ.out.kept hW).all)
        have HSM2 := Lib.hid (fun W A c (ho : RdS RWt AllB W A c TZ) (hW : Below wz.heap.size wz W) => show Calls Tryd.prog 17 #[.slice A TZ.length c, .slice RZ TZ.length cz] W (Ans (.bool true) W) from by
          have := sameW_any A RZ c cz W AllB _ _ _ ho (HRS.out.below hW) (by have := HTZ.out.ok.len; omega)
          rwa [decide_eq_true rfl] at this)
        clear kz rz
        go_wp2_with fail
        go_region_held3 (fun W => W.cell? ⟨gm, 0, none⟩ = some (.slice RZ TZ.length cz))
          (first | exact HSC.out | exact cell_kept HSC.out (by assumption) | exact cell_kept (cell_kept HSC.out (by assumption)) (by assumption))
          (first
          | (go_at_call 23; refine (HALL.out _ (below_drewN (Below.refl _ _) 1)).mono ?_; rintro e w11 ⟨A11, c11, rfl, ho11, hb11⟩)
          | (go_at_call 17; refine (HSM2.out _ _ _ (ho11.rds fun _ _ => trivial) (below_undrawn (n := 1) hb11)).mono ?_; rintro e w12 ⟨rfl, hb12⟩))
        go_wp2_with fail
        go_roundw
        case rel => exact ⟨k + 1, GZ, TZ, HLT.out, by go_num, (HTZ.out.kept (below_undrawn (n := 1) hb11)).kept hb12, (HRZ.out.below (below_undrawn (n := 1) hb11)).below hb12⟩
        case measure => have := HLT.out; simp [intOf]; omega
      have q2 : (what == 2) = false := by simpa using hw2
      clear hw2
      by_cases hw3 : what = 3
      · have q3 : (what == 3) = true := by simpa using hw3
        clear hw3
        have HCT := Lib.hid (copyInts_any C cs.length f cs wa (HCI.out _ HTA.out.be) (by omega))
        go_wp2_with fail
        refine HCT.out.mono ?_
        rintro e w5 ⟨⟨A5, c5, rfl, ho5⟩, hb5⟩
        have HR5 := Lib.hid (HRA.out.below hb5)
        have HK5 := Lib.hid (HKB.out.kept hb5)
        obtain ⟨TZ, hTZ⟩ : ∃ TZ, TZ = wDrop cs T := ⟨_, rfl⟩
        have HDT := Lib.hid ((HTA.out.kept hb5).drop A5 cs.length c5 cs ho5.rd (by simp only [maxLen]; omega))
        rw [← hTZ] at HDT
        clear ho5 hb5 HCT d0 d1 d2 d3 d4 d5
        go_wp2_with fail
        refine HDT.out.mono ?_
        rintro e w6 ⟨rfl, GZ, t6, f6, cg6⟩
        have HT6 := Lib.hid t6
        have HR6 := Lib.hid (HR5.out.did cg6 f6)
        have hk6 := cg6.bk HK5.out HNB.out.1
        have d5 : w6.cell? ⟨bo, 5, none⟩ = some (.slice C cs.length f) := hk6.at_ rfl
        obtain ⟨RA, rc, kg, hrd, hng⟩ := HR6.out
        have HKG := Lib.hid kg
        have m6 := kg.at_ (i := 0) rfl
        have HDR := Lib.hid (refDropW_any RA rc T _ C cs.length f cs w6 hrd (by have := HTA.out.ok.len; omega) (HCI.out _ t6.be) (by omega))
        rw [← hTZ] at HDR
        clear kg hrd hng t6 f6 cg6 hk6 hTZ HDT
        go_wp2_with fail
        refine HDR.out.mono ?_
        rintro e w7 ⟨hb7, A7, c7, rfl, hr7⟩
        have m7 : w7.cell? ⟨gm, 0, none⟩ = some (.slice RA T.length rc) := (HKG.out.kept hb7).at_ rfl
        have z7 : w7.frozen? ⟨gm, 0, none⟩ = false := (HKG.out.kept hb7).frozen 0
        have HRZ := Lib.hid (HR6.out.put hb7 (fun b hb => (HT6.out.low b hb).2) (hr7.keep (F' := fun b => (¬ GZ b ∧ b ≠ gm) ∨ w6.heap.size ≤ b) ⟨Nat.le_refl _, fun _ _ _ => rfl⟩ fun b hb _ => .inr hb))
        have HTZ := Lib.hid ((HT6.out.kept hb7).set_far (v := .slice A7 TZ.length c7) HR6.out.notin HGM.out)
        obtain ⟨wz, hwz⟩ : ∃ wz, wz = w7.setCell ⟨gm, 0, none⟩ (.slice A7 TZ.length c7) := ⟨_, rfl⟩
        rw [← hwz] at HRZ HTZ
        clear hb7 hr7 HDR
        go_upto_region 28 with fail
        rw [← hwz]
        clear hwz m6 m7 z7 d5
        obtain ⟨RZ, cz, kz, rz, -⟩ := HRZ.out
        have HSC := Lib.hid (show wz.drew.cell? ⟨gm, 0, none⟩ = some (.slice RZ TZ.length cz) from kz.at_ rfl)
        have m9 : wz.cell? ⟨gm, 0, none⟩ = some (.slice RZ TZ.length cz) := kz.at_ rfl
        have HRS := Lib.hid rz
        have HALL := Lib.hid (fun W (hW : Below wz.heap.size wz W) => (HTZ.out.kept hW).all)
        have HSM2 := Lib.hid (fun W A c (ho : RdS RWt AllB W A c TZ) (hW : Below wz.heap.size wz W) => show Calls Tryd.prog 17 #[.slice A TZ.length c, .slice RZ TZ.length cz] W (Ans (.bool true) W) from by
          have := sameW_any A RZ c cz W AllB _ _ _ ho (HRS.out.below hW) (by have := HTZ.out.ok.len; omega)
          rwa [decide_eq_true rfl] at this)
        clear kz rz
        go_wp2_with fail
        go_region_held3 (fun W => W.cell? ⟨gm, 0, none⟩ = some (.slice RZ TZ.length cz))
          (first | exact HSC.out | exact cell_kept HSC.out (by assumption) | exact cell_kept (cell_kept HSC.out (by assumption)) (by assumption))
          (first
          | (go_at_call 23; refine (HALL.out _ (below_drewN (Below.refl _ _) 1)).mono ?_; rintro e w11 ⟨A11, c11, rfl, ho11, hb11⟩)
          | (go_at_call 17; refine (HSM2.out _ _ _ (ho11.rds fun _ _ => trivial) (below_undrawn (n := 1) hb11)).mono ?_; rintro e w12 ⟨rfl, hb12⟩))
        go_wp2_with fail
        go_roundw
        case rel => exact ⟨k + 1, GZ, TZ, HLT.out, by go_num, (HTZ.out.kept (below_undrawn (n := 1) hb11)).kept hb12, (HRZ.out.below (below_undrawn (n := 1) hb11)).below hb12⟩
        case measure => have := HLT.out; simp [intOf]; omega
      have q3 : (what == 3) = false := by simpa using hw3
      clear hw3
      obtain ⟨wz, hwz⟩ : ∃ wz, wz = wa := ⟨_, rfl⟩
      subst hwz
      obtain ⟨GZ, hGZ⟩ : ∃ GZ, GZ = G := ⟨_, rfl⟩
      subst hGZ
      obtain ⟨TZ, hTZ⟩ : ∃ TZ, TZ = T := ⟨_, rfl⟩
      subst hTZ
      have HTZ := HTA
      have HRZ := HRA
      clear HTA HRA
      obtain ⟨RZ, cz, kz, rz, -⟩ := HRZ.out
      have HSC := Lib.hid (show wz.drew.cell? ⟨gm, 0, none⟩ = some (.slice RZ TZ.length cz) from kz.at_ rfl)
      have m9 : wz.cell? ⟨gm, 0, none⟩ = some (.slice RZ TZ.length cz) := kz.at_ rfl
      have HRS := Lib.hid rz
      have HALL := Lib.hid (fun W (hW : Below wz.heap.size wz W) => (HTZ.out.kept hW).all)
      have HSM2 := Lib.hid (fun W A c (ho : RdS RWt AllB W A c TZ) (hW : Below wz.heap.size wz W) => show Calls Tryd.prog 17 #[.slice A TZ.length c, .slice RZ TZ.length cz] W (Ans (.bool true) W) from by
        have := sameW_any A RZ c cz W AllB _ _ _ ho (HRS.out.below hW) (by have := HTZ.out.ok.len; omega)
        rwa [decide_eq_true rfl] at this)
      clear kz rz
      go_wp2_with fail
      go_region_held3 (fun W => W.cell? ⟨gm, 0, none⟩ = some (.slice RZ TZ.length cz))
        (first | exact HSC.out | exact cell_kept HSC.out (by assumption) | exact cell_kept (cell_kept HSC.out (by assumption)) (by assumption))
        (first
        | (go_at_call 23; refine (HALL.out _ (below_drewN (Below.refl _ _) 1)).mono ?_; rintro e w11 ⟨A11, c11, rfl, ho11, hb11⟩)
        | (go_at_call 17; refine (HSM2.out _ _ _ (ho11.rds fun _ _ => trivial) (below_undrawn (n := 1) hb11)).mono ?_; rintro e w12 ⟨rfl, hb12⟩))
      go_wp2_with fail
      go_roundw
      case rel => exact ⟨k + 1, GZ, TZ, HLT.out, by go_num, (HTZ.out.kept (below_undrawn (n := 1) hb11)).kept hb12, (HRZ.out.below (below_undrawn (n := 1) hb11)).below hb12⟩
      case measure => have := HLT.out; simp [intOf]; omega
    · have HBZ := Lib.hid htt.be
      clear hrw htt hk
      go_wp2_with fail
      go_ret
      exact ⟨rfl, HBZ.out⟩
end Go.Proofs.YtbppokdaehaocaaDoor
