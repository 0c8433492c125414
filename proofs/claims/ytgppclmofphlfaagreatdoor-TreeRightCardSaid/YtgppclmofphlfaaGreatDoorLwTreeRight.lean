/-
  The law TreeRight, walked. A walk; no statement.
-/
import Derived.Test.YtgppclmofphlfaaGreatDoorTreeLaw
import Derived.Test.YtgppclmofphlfaaGreatDoorTreeScript
import Derived.Test.YtgppclmofphlfaaGreatDoorRightPlain
import Derived.Test.YtgppclmofphlfaaGreatDoorTreeSame
import Derived.Test.YtgppclmofphlfaaGreatDoorTreeCopy
namespace Go.Proofs.YtgppclmofphlfaaGreatDoor
set_option maxRecDepth 100000
open Go.RowKit
set_option linter.unusedVariables false
set_option maxRecDepth 100000

theorem run_geq_str (W : World) (a b : List UInt8) : (binOp BinOp.geq 9 (.string ⟨a.toArray⟩) (.string ⟨b.toArray⟩)).run Tryz.prog W = .ok (.bool (!(Op.bytesLess a b))) W := by
  have h : ∀ l : List UInt8, (⟨l.toArray⟩ : ByteArray).toList = l := fun l => by rw [Lib.toList_data]
  simp [binOp, Op.stringOp, h]
theorem info_op7 : (Tryz.prog.info? 34).map (·.size) = some 7 := by kernel_rfl
set_option maxHeartbeats 12800000 in
theorem treeRight_walk (w : World) (hE : Env w) (v : Value) (ops : List To) (hops : InTos w v ops) : Calls Tryz.prog 5 #[v] w (Tr w) := by
  obtain ⟨A, c, rfl, hs, hbg⟩ := hops
  have HS := Lib.hid hs
  have HE := Lib.hid hE
  have HL := Lib.hid (alive_ok w hE)
  have HG := Lib.hid (fun X (hX : Below w.heap.size w X) => great_any A c ops X (hs.below hX) hbg)
  clear hs hbg hE
  go_enter Tryz.func5, Tryz.ntmps5
  go_wp2_with fail
  refine HL.out.mono ?_
  rintro e w1 ⟨rfl, hb1⟩
  have HB1 := Lib.hid hb1
  clear hb1 HL
  go_wp2_with fail
  refine (HG.out w1 HB1.out).mono ?_
  rintro e w2 ⟨b, q, rfl, hgr, rfl⟩
  have HB2 := Lib.hid (below_drewN HB1.out q)
  have HGR := Lib.hid hgr
  clear hgr HG HB1

  cases b with
  | true =>
    go_wp2_with fail
    go_ret
    exact ⟨rfl, HB2.out⟩
  | false =>
    have HBIG := Lib.hid (show ∀ o ∈ ops, o.data.length ≤ 140737488355328 from fun o ho => by have h1 := (HGR.out (by first | trivial | rfl)).1; have h2 := (toW_mem ho).2; omega)
    have HN150 := Lib.hid (show ops.length ≤ 150 from (HGR.out (by first | trivial | rfl)).2)
    go_wp2_with fail
    refine (new_any _).mono ?_
    intro e w3 h3
    obtain ⟨g, F0, rfl, t0, -, -⟩ := TOn.of_new HB2.out h3
    have T3 := Lib.hid t0
    clear h3 t0
    go_wp2_with fail
    refine (new_any _).mono ?_
    rintro e w4 ⟨gu, FU0, rfl, hu, hulo, hub⟩
    obtain ⟨FU, hFU⟩ : ∃ FU, FU = Lw FU0 w4 := ⟨_, rfl⟩
    have HU0 := Lib.hid (show TreeAt FU w4 gu [lfRoot] by rw [hFU]; exact hu.low)
    have HFU := Lib.hid (show ∀ k, FU k → w3.heap.size ≤ k ∧ k < w4.heap.size from fun k hk => by rw [hFU] at hk; exact ⟨hulo k hk.1, hk.2⟩)
    have HG0 := Lib.hid (show Gap F0 w3.heap.size w4.heap.size from Gap.of fun k hk => (T3.out.low k hk).2)
    have TN0 := Lib.hid (T3.out.kept hub)
    have HB3 := Lib.hid T3.out.be.size
    clear hu hulo hub hFU T3
    go_wp2_with fail
    go_loopw [5] (fun i wr => ∃ (k : Nat) (F : Nat → Prop) (t : List Lf), k ≤ ops.length ∧ i = .int .i64 k ∧ TOn F w g k t wr ∧ TreeAt FU wr gu [lfRoot] ∧ Gap F w3.heap.size w4.heap.size ∧ w4.heap.size ≤ wr.heap.size) (fun i _ => ops.length - (intOf i).toNat)
    case atStart => exact ⟨0, _, _, Nat.zero_le _, rfl, TN0.out, HU0.out, HG0.out, Nat.le_refl _⟩
    case round =>
      obtain ⟨k, F, t, hk, rfl, tn, hu, hgp, hew⟩ := hrel
      have TN := Lib.hid tn
      have HU := Lib.hid hu
      have HGP := Lib.hid hgp
      have HEW := Lib.hid hew
      clear tn hu hgp hew TN0 HU0 HG0
      by_cases hlt : k < ops.length
      · obtain ⟨o, ho⟩ : ∃ o, ops[k]? = some o := ⟨_, List.getElem?_eq_getElem hlt⟩
        have HBO := Lib.hid (HBIG.out o (List.mem_of_getElem? ho))
        obtain ⟨x, C, rc, rfl, -, c0, c1, c2, c3, c4, c5, c6, hB⟩ := (HS.out.below TN.out.be).to7 ho
        have HBO2 := Lib.hid (show BF AllB w C rc o.data by
          obtain ⟨x', C', rc', e', -, d0, d1, d2, d3, d4, d5, d6, hB'⟩ := HS.out.to7 ho
          obtain rfl := Option.some.inj e'
          have := cell_kept d5 TN.out.be
          rw [c5] at this
          injection this with this
          injection this with h1 h2 h3
          rw [h1, h3]
          exact hB')
        have y1 : (0 : Int) ≤ (k : Int) := by omega
        have y2 : (k : Int) < (ops.length : Int) := by omega
        have y3 : ops.length ≤ 150 := HN150.out
        clear ho hB
        by_cases hw1 : o.what = 1
        · rw [hw1] at c0
          clear hw1
          obtain ⟨w5, hw5⟩ : ∃ X, X = wr.alloc (.cells #[.int .i64 1, .int .i64 o.own, .int .i64 o.born, .int .i64 o.n, .string ⟨o.path.toArray⟩, .slice C o.data.length rc, .bool o.numd] 34) := ⟨_, rfl⟩
          have HK5 := Lib.hid (show Bk w5 wr.heap.size 34 [.int .i64 1, .int .i64 o.own, .int .i64 o.born, .int .i64 o.n, .string ⟨o.path.toArray⟩, .slice C o.data.length rc, .bool o.numd] by rw [hw5]; exact Bk.new wr 34 [.int .i64 1, .int .i64 o.own, .int .i64 o.born, .int .i64 o.n, .string ⟨o.path.toArray⟩, .slice C o.data.length rc, .bool o.numd])
          have HB5 := Lib.hid (show Below wr.heap.size wr w5 by rw [hw5]; exact (Below.refl _ wr).alloc (Nat.le_refl _) _)
          have HW5 := Lib.hid hw5
          clear hw5
          have HSX := Lib.hid (fun X (hX : Bk X wr.heap.size 34 [.int .i64 1, .int .i64 o.own, .int .i64 o.born, .int .i64 o.n, .string ⟨o.path.toArray⟩, .slice C o.data.length rc, .bool o.numd]) => (⟨hX.at_ rfl, hX.at_ rfl, hX.at_ rfl, hX.at_ rfl, hX.at_ rfl⟩ : X.cell? ⟨wr.heap.size, 1, none⟩ = some (.int .i64 o.own) ∧ X.cell? ⟨wr.heap.size, 2, none⟩ = some (.int .i64 o.born) ∧ X.cell? ⟨wr.heap.size, 4, none⟩ = some (.string ⟨o.path.toArray⟩) ∧ X.cell? ⟨wr.heap.size, 5, none⟩ = some (.slice C o.data.length rc) ∧ X.cell? ⟨wr.heap.size, 6, none⟩ = some (.bool o.numd)))
          have T5 := Lib.hid (TN.out.kept HB5.out)
          have HNF := Lib.hid (show ∀ k, F k → k < wr.heap.size from fun k hk => (TN.out.low k hk).2)
          go_upto_region 15 with fail
          rw [← HW5.out]
          have HK0 := Lib.hid (show Bk w5.drew wr.heap.size 34 [.int .i64 1, .int .i64 o.own, .int .i64 o.born, .int .i64 o.n, .string ⟨o.path.toArray⟩, .slice C o.data.length rc, .bool o.numd] from HK5.out)
          have HB5D := Lib.hid (below_drew HB5.out)
          have T0 := Lib.hid T5.out.drew
          have HCP := Lib.hid (fun X (hX : Below w.heap.size w X) => copyBytes_big C o.data.length rc o.data X (HBO2.out.below hX).rd HBO.out)
          go_region_held (fun X => X.cell? ⟨wr.heap.size, 1, none⟩ = some (.int .i64 o.own) ∧ X.cell? ⟨wr.heap.size, 2, none⟩ = some (.int .i64 o.born) ∧ X.cell? ⟨wr.heap.size, 4, none⟩ = some (.string ⟨o.path.toArray⟩) ∧ X.cell? ⟨wr.heap.size, 5, none⟩ = some (.slice C o.data.length rc) ∧ X.cell? ⟨wr.heap.size, 6, none⟩ = some (.bool o.numd))
            (first | with_reducible exact HSX.out _ HK7.out | with_reducible exact HSX.out _ HK6.out | with_reducible exact HSX.out _ HK0.out)
            (first
              | (go_at_call 32
                 with_reducible refine (HCP.out _ T0.out.be).mono ?_
                 rintro e w6 ⟨A6, n6, c6, rfl, ho6, hb6⟩
                 obtain rfl := ho6.len.symm
                 have T6 := Lib.hid (T0.out.kept hb6)
                 have HK6 := Lib.hid (HK0.out.kept hb6)
                 have HF6 := Lib.hid (BF.own ho6)
                 have HB6 := Lib.hid (HB5D.out.trans (hb6.mono HB5D.out.size))
                 clear ho6 hb6)
              | (go_at_call 15
                 refine (T6.out.make HE.out o.path A6 c6 o.data (From w5.drew.heap.size) o.own o.born o.numd HF6.out (fun k hk _ hf => Nat.lt_irrefl _ (Nat.lt_of_lt_of_le (T0.out.low k hf).2 hk))).mono ?_
                 rintro e w7 ⟨rfl, F7, t7, hF7, hch7⟩
                 have T7 := Lib.hid t7
                 have HK7 := Lib.hid (hch7.bk HK6.out (fun hf => Nat.lt_irrefl _ (HNF.out _ hf)))
                 have HU7 := Lib.hid ((HU.out.below HB6.out).chg hch7 (fun k hk _ hf => by have h1 := HFU.out k hk; rcases HGP.out k hf with q | q <;> omega))
                 have HG7 := Lib.hid (HGP.out.did hF7 (Nat.le_trans HEW.out HB6.out.size))
                 have HE7 := Lib.hid (Nat.le_trans (Nat.le_trans HEW.out HB6.out.size) hch7.size)
                 clear t7 hF7 hch7))
          go_wp2_with fail
          go_roundw
          case rel => exact ⟨k + 1, F7, _, by omega, by go_num, ⟨T7.out.tree, T7.out.low, T7.out.be, T7.out.ok.more (by omega)⟩, HU7.out, HG7.out, HE7.out⟩
          case measure => simp [intOf]; omega
        by_cases hw2 : o.what = 2
        · rw [hw2] at c0
          clear hw1 hw2
          obtain ⟨w5, hw5⟩ : ∃ X, X = wr.alloc (.cells #[.int .i64 2, .int .i64 o.own, .int .i64 o.born, .int .i64 o.n, .string ⟨o.path.toArray⟩, .slice C o.data.length rc, .bool o.numd] 34) := ⟨_, rfl⟩
          have HK5 := Lib.hid (show Bk w5 wr.heap.size 34 [.int .i64 2, .int .i64 o.own, .int .i64 o.born, .int .i64 o.n, .string ⟨o.path.toArray⟩, .slice C o.data.length rc, .bool o.numd] by rw [hw5]; exact Bk.new wr 34 [.int .i64 2, .int .i64 o.own, .int .i64 o.born, .int .i64 o.n, .string ⟨o.path.toArray⟩, .slice C o.data.length rc, .bool o.numd])
          have HB5 := Lib.hid (show Below wr.heap.size wr w5 by rw [hw5]; exact (Below.refl _ wr).alloc (Nat.le_refl _) _)
          have HW5 := Lib.hid hw5
          clear hw5
          have HSX := Lib.hid (fun X (hX : Bk X wr.heap.size 34 [.int .i64 2, .int .i64 o.own, .int .i64 o.born, .int .i64 o.n, .string ⟨o.path.toArray⟩, .slice C o.data.length rc, .bool o.numd]) => (⟨hX.at_ rfl, hX.at_ rfl⟩ : X.cell? ⟨wr.heap.size, 3, none⟩ = some (.int .i64 o.n) ∧ X.cell? ⟨wr.heap.size, 4, none⟩ = some (.string ⟨o.path.toArray⟩)))
          have T5 := Lib.hid (TN.out.kept HB5.out)
          have HNF := Lib.hid (show ∀ k, F k → k < wr.heap.size from fun k hk => (TN.out.low k hk).2)
          have HDR := Lib.hid (T5.out.drop HE.out o.path o.n)
          go_wp2_with fail
          rw [← HW5.out]
          refine HDR.out.mono ?_
          rintro e w7 ⟨rfl, F7, t7, hF7, hch7⟩
          have T7 := Lib.hid t7
          have HU7 := Lib.hid ((HU.out.below HB5.out).chg hch7 (fun k hk _ hf => by have h1 := HFU.out k hk; rcases HGP.out k hf with q | q <;> omega))
          have HG7 := Lib.hid (HGP.out.did hF7 (Nat.le_trans HEW.out HB5.out.size))
          have HE7 := Lib.hid (Nat.le_trans (Nat.le_trans HEW.out HB5.out.size) hch7.size)
          clear t7 hF7 hch7
          go_wp2_with fail
          go_roundw
          case rel => exact ⟨k + 1, F7, _, by omega, by go_num, ⟨T7.out.tree, T7.out.low, T7.out.be, T7.out.ok.more (by omega)⟩, HU7.out, HG7.out, HE7.out⟩
          case measure => simp [intOf]; omega
        by_cases hw3 : o.what = 3
        · rw [hw3] at c0
          clear hw1 hw2 hw3
          obtain ⟨w5, hw5⟩ : ∃ X, X = wr.alloc (.cells #[.int .i64 3, .int .i64 o.own, .int .i64 o.born, .int .i64 o.n, .string ⟨o.path.toArray⟩, .slice C o.data.length rc, .bool o.numd] 34) := ⟨_, rfl⟩
          have HK5 := Lib.hid (show Bk w5 wr.heap.size 34 [.int .i64 3, .int .i64 o.own, .int .i64 o.born, .int .i64 o.n, .string ⟨o.path.toArray⟩, .slice C o.data.length rc, .bool o.numd] by rw [hw5]; exact Bk.new wr 34 [.int .i64 3, .int .i64 o.own, .int .i64 o.born, .int .i64 o.n, .string ⟨o.path.toArray⟩, .slice C o.data.length rc, .bool o.numd])
          have HB5 := Lib.hid (show Below wr.heap.size wr w5 by rw [hw5]; exact (Below.refl _ wr).alloc (Nat.le_refl _) _)
          have HW5 := Lib.hid hw5
          clear hw5
          have HSX := Lib.hid (fun X (hX : Bk X wr.heap.size 34 [.int .i64 3, .int .i64 o.own, .int .i64 o.born, .int .i64 o.n, .string ⟨o.path.toArray⟩, .slice C o.data.length rc, .bool o.numd]) => (⟨hX.at_ rfl, hX.at_ rfl, hX.at_ rfl⟩ : X.cell? ⟨wr.heap.size, 3, none⟩ = some (.int .i64 o.n) ∧ X.cell? ⟨wr.heap.size, 4, none⟩ = some (.string ⟨o.path.toArray⟩) ∧ X.cell? ⟨wr.heap.size, 5, none⟩ = some (.slice C o.data.length rc)))
          have T5 := Lib.hid (TN.out.kept HB5.out)
          have HNF := Lib.hid (show ∀ k, F k → k < wr.heap.size from fun k hk => (TN.out.low k hk).2)
          go_upto_region 19 with fail
          rw [← HW5.out]
          have HK0 := Lib.hid (show Bk w5.drew wr.heap.size 34 [.int .i64 3, .int .i64 o.own, .int .i64 o.born, .int .i64 o.n, .string ⟨o.path.toArray⟩, .slice C o.data.length rc, .bool o.numd] from HK5.out)
          have HB5D := Lib.hid (below_drew HB5.out)
          have T0 := Lib.hid T5.out.drew
          have HCP := Lib.hid (fun X (hX : Below w.heap.size w X) => copyBytes_big C o.data.length rc o.data X (HBO2.out.below hX).rd HBO.out)
          go_region_held (fun X => X.cell? ⟨wr.heap.size, 3, none⟩ = some (.int .i64 o.n) ∧ X.cell? ⟨wr.heap.size, 4, none⟩ = some (.string ⟨o.path.toArray⟩) ∧ X.cell? ⟨wr.heap.size, 5, none⟩ = some (.slice C o.data.length rc))
            (first | with_reducible exact HSX.out _ HK7.out | with_reducible exact HSX.out _ HK6.out | with_reducible exact HSX.out _ HK0.out)
            (first
              | (go_at_call 32
                 with_reducible refine (HCP.out _ T0.out.be).mono ?_
                 rintro e w6 ⟨A6, n6, c6, rfl, ho6, hb6⟩
                 obtain rfl := ho6.len.symm
                 have T6 := Lib.hid (T0.out.kept hb6)
                 have HK6 := Lib.hid (HK0.out.kept hb6)
                 have HF6 := Lib.hid (BF.own ho6)
                 have HB6 := Lib.hid (HB5D.out.trans (hb6.mono HB5D.out.size))
                 clear ho6 hb6)
              | (go_at_call 19
                 refine (T6.out.set HE.out (by have := HN150.out; omega) o.path A6 c6 o.data (From w5.drew.heap.size) o.n HF6.out).mono ?_
                 rintro e w7 ⟨rfl, F7, t7, hF7, hch7⟩
                 have T7 := Lib.hid t7
                 have HK7 := Lib.hid (hch7.bk HK6.out (fun hf => Nat.lt_irrefl _ (HNF.out _ hf)))
                 have HU7 := Lib.hid ((HU.out.below HB6.out).chg hch7 (fun k hk _ hf => by have h1 := HFU.out k hk; rcases HGP.out k hf with q | q <;> omega))
                 have HG7 := Lib.hid (HGP.out.did hF7 (Nat.le_trans HEW.out HB6.out.size))
                 have HE7 := Lib.hid (Nat.le_trans (Nat.le_trans HEW.out HB6.out.size) hch7.size)
                 clear t7 hF7 hch7))
          go_wp2_with fail
          go_roundw
          case rel => exact ⟨k + 1, F7, _, by omega, by go_num, ⟨T7.out.tree, T7.out.low, T7.out.be, T7.out.ok⟩, HU7.out, HG7.out, HE7.out⟩
          case measure => simp [intOf]; omega
        have HBA := Lib.hid (show Below wr.heap.size wr (wr.alloc (.cells #[.int .i64 o.what, .int .i64 o.own, .int .i64 o.born, .int .i64 o.n, .string ⟨o.path.toArray⟩, .slice C o.data.length rc, .bool o.numd] 34)) from (Below.refl _ wr).alloc (Nat.le_refl _) _)
        have b1 : (o.what == 1) = false := by simpa using hw1
        have b2 : (o.what == 2) = false := by simpa using hw2
        have b3 : (o.what == 3) = false := by simpa using hw3
        have T7 := Lib.hid (TN.out.kept HBA.out)
        go_wp2_with fail
        go_roundw
        case rel => exact ⟨k + 1, F, t, by omega, by go_num, ⟨T7.out.tree, T7.out.low, T7.out.be, T7.out.ok.more (by omega)⟩, HU.out.below HBA.out, HGP.out, Nat.le_trans HEW.out HBA.out.size⟩
        case measure => simp [intOf]; omega
      · obtain rfl : k = ops.length := by omega
        clear hk hlt
        obtain ⟨WB, hWB⟩ : ∃ X, X = wr := ⟨_, rfl⟩
        subst hWB
        have HOK := Lib.hid TN.out.ok
        have HTL := Lib.hid (show t.length ≤ 32 from TN.out.ok.len)
        have HT1 := Lib.hid (show 1 ≤ t.length by
          obtain ⟨r, hr, _⟩ := TN.out.ok.root
          exact List.length_pos_of_mem hr)
        have HFF := Lib.hid (show ∀ k, F k → ¬ FU k from fun k hk hf => by have h1 := HFU.out k hf; rcases HGP.out k hk with q | q <;> omega)
        go_wp2_with fail
        refine TN.out.all.mono ?_
        rintro e w8 ⟨A7, c7, rfl, ho8, hb8⟩
        have T8 := Lib.hid (TN.out.kept hb8)
        have HU8 := Lib.hid (HU.out.below hb8)
        have HR8 := Lib.hid (ho8.rds (fun b hb => hb)).in_
        have HS8 := Lib.hid hb8.size
        clear ho8 hb8 TN HU
        have HCL := Lib.hid (copyLeaves_any A7 c7 t _ w8 HR8.out ⟨by have := HTL.out; omega, fun l hl => by have := HOK.out.data l hl; omega⟩)
        go_wp2_with fail
        refine HCL.out.mono ?_
        rintro e w9 ⟨A9, c9, rfl, ho9, hb9⟩
        have T9 := Lib.hid (T8.out.kept hb9)
        have HR9 := Lib.hid (HR8.out.below hb9)
        have HS9 := Lib.hid hb9.size
        have HLD := Lib.hid (show Calls _ _ _ _ (TDid FU gu t (.bool true) w9) by
          have := load_any gu [lfRoot] FU A9 c9 t _ w9 (T9.out.env HE.out) (HU8.out.below hb9) ho9
          rw [takes_of HOK.out, if_pos rfl] at this
          exact this)
        clear ho9 hb9 T8 HU8 HR8 HCL
        go_wp2_with fail
        refine HLD.out.mono ?_
        rintro e w10 ⟨rfl, FV, hu10, hFV, hch10⟩
        have HU10 := Lib.hid hu10
        have T10 := Lib.hid (T9.out.chg hch10 HFF.out (fun k hk => Nat.le_trans HB3.out (HFU.out k hk).1))
        have HR10 := Lib.hid (HR9.out.chg hch10 (Gap.of fun k hk => by have h1 := HFU.out k hk; have h2 := HEW.out; omega))
        have HAU := Lib.hid (all_any gu t FV w10 hu10 (by have := HTL.out; omega) HOK.out.p64 HOK.out.d1000)
        clear hu10 hFV hch10 T9 HR9 HLD
        go_wp2_with fail
        refine HAU.out.mono ?_
        rintro e w11 ⟨A11, c11, rfl, ho11, hb11⟩
        have T11 := Lib.hid (T10.out.kept hb11)
        have HR11 := Lib.hid (HR10.out.below hb11)
        have HSL := Lib.hid (show Calls _ _ _ _ (Tells (.bool true) w11) by
          have := sameLeaves_any A11 A7 c11 c7 t t _ _ w11 (ho11.rds (fun b hb => hb)) HR11.out
          rw [decide_eq_true rfl] at this
          exact this)
        clear ho11 hb11 T10 HR10 HAU HU10
        have y1 : ¬ ((t.length : Int) < 1) := by have := HT1.out; omega
        have y2 : ¬ ((32 : Int) < (t.length : Int)) := by have := HTL.out; omega
        go_wp2_with fail
        refine HSL.out.mono ?_
        rintro e w12 ⟨rfl, hb12⟩
        have T12 := Lib.hid (T11.out.kept hb12)
        have HR12 := Lib.hid (HR11.out.below hb12)
        clear hb12 T11 HR11 HSL
        go_wp2_with fail
        go_loopw [8, 9] (fun n i wx => ∃ (j m : Nat), j ≤ t.length ∧ n = .int .i64 m ∧ i = .int .i64 j ∧ Below w12.heap.size w12 wx ∧ m = kidSum ((t.take j).map (·.path)) t ∧ m ≤ 32 * j) (fun _ i _ => t.length - (intOf i).toNat)
        case atStart => exact ⟨0, 0, Nat.zero_le _, rfl, rfl, Below.refl _ _, rfl, Nat.zero_le _⟩
        case round =>
          obtain ⟨j, m, hj, rfl, rfl, hbx, hm, hm32⟩ := hrel
          have HM32 := Lib.hid hm32
          have HBX := Lib.hid hbx
          have HM := Lib.hid hm
          clear hbx hm hm32
          by_cases hlt : j < t.length
          · obtain ⟨x, hx⟩ : ∃ x, t[j]? = some x := ⟨_, List.getElem?_eq_getElem hlt⟩
            have hxm : x ∈ t := List.mem_of_getElem? hx
            have HTK := Lib.hid (show kidSum ((t.take (j + 1)).map (·.path)) t = m + (tKids x.path t).length by
              obtain ⟨hh, rfl⟩ := List.getElem?_eq_some_iff.1 hx
              rw [List.take_succ_eq_append_getElem hh, List.map_append, HM.out]
              exact kidSum_snoc _ _ t)
            obtain ⟨y, XA, XC, rfl, hyb, u0, u1, u2, u3, u4, u5, hxd⟩ := (HR12.out.below HBX.out).lf6 hx
            have TX := Lib.hid (T12.out.kept HBX.out)
            have HKD := Lib.hid (show Calls _ _ _ _ (fun e w' => ∃ A n c, e = .returned (.tuple #[.slice A n c, .int .i64 0]) ∧ OwnT w' wr.heap.size A n c (tKids x.path t) ∧ Below wr.heap.size wr w') by
              obtain ⟨k0, hk0, hg0⟩ := at_mem HOK.out.srt hxm
              refine (TX.out.kids HE.out x.path).mono ?_
              intro e w' h
              rw [tGet_at (HOK.out.path x hxm), hk0] at h
              simp only [hg0] at h
              obtain ⟨v, ⟨A, n, c, hve, h1, h2⟩, he⟩ := (show ∃ v, FreshT (tKids x.path t) wr (.returned v) w' ∧ e = .returned (.tuple #[v, .int .i64 0]) from h)
              injection hve with hve
              subst hve
              exact ⟨A, n, c, he, h1, h2⟩)
            have HKL := Lib.hid (show (tKids x.path t).length ≤ 32 from Nat.le_trans (tKids_le _ _) HTL.out)
            have HML := Lib.hid (show m + (tKids x.path t).length ≤ 32 * (j + 1) by have h1 := HM32.out; have h2 := HKL.out; omega)
            have HNK := Lib.hid (show x.own ≠ -1 → tKids x.path t = [] by
              intro ho
              cases hks : tKids x.path t with
              | nil => rfl
              | cons z zs =>
                have hz : z ∈ tKids x.path t := by rw [hks]; exact List.mem_cons_self
                unfold tKids at hz
                obtain ⟨q1, hq, -⟩ := List.mem_map.1 hz
                obtain ⟨hq1, hq2⟩ := List.mem_filter.1 hq
                have hq3 : parentP q1.path = some x.path := by simpa using hq2
                have hqn : q1.path ≠ [47] := fun e => by rw [e] at hq3; cases hq3
                obtain ⟨m', hm1, hm2, hm3⟩ := HOK.out.par q1 hq1 hqn
                have : m' = x := srt_uniq HOK.out.srt hm1 hxm (Option.some.inj (hm2.symm.trans hq3))
                subst this
                exact absurd hm3 ho)
            have HKP := Lib.hid (show ∀ z ∈ tKids x.path t, parentP z = some x.path by
              intro z hz
              unfold tKids at hz
              obtain ⟨q1, hq, rfl⟩ := List.mem_map.1 hz
              exact by simpa using (List.mem_filter.1 hq).2)
            have y3 : (0 : Int) ≤ (j : Int) := by omega
            have y4 : (j : Int) < (t.length : Int) := by omega
            have yb : t.length ≤ 32 := HTL.out
            have yk : (tKids x.path t).length ≤ 32 := HKL.out
            have ym : m ≤ 32 * j := HM32.out
            have HPV := Lib.hid (show 0 < j → ∃ pv : List UInt8, pv.length ≤ 64 ∧ (∀ X, Below wr.heap.size wr X → X.cell? (y.add ((j - 1) * 6)) = some (.string ⟨pv.toArray⟩)) ∧ ∀ X, (binOp BinOp.geq 9 (.string ⟨pv.toArray⟩) (.string ⟨x.path.toArray⟩)).run Tryz.prog X = .ok (.bool false) X from fun h0 => by
              obtain ⟨pv, hpv⟩ : ∃ pv, t[j - 1]? = some pv := ⟨_, List.getElem?_eq_getElem (by omega)⟩
              obtain ⟨y', PA, PC, e', -, v0, -⟩ := (HR12.out.below HBX.out).lf6 hpv
              obtain rfl := Option.some.inj e'
              refine ⟨pv.path, HOK.out.p64 pv (List.mem_of_getElem? hpv), fun X hX => cell_kept v0 hX, fun X => ?_⟩
              rw [run_geq_str, show Op.bytesLess pv.path x.path = true from (srt_at HOK.out.srt hpv hx).1 (by omega)]
              rfl)
            clear hx hxm hyb hxd
            go_wp2_with fail
            refine HKD.out.mono ?_
            rintro e w13 ⟨KA, kn, kc, rfl, hko, hkb⟩
            have HKN := Lib.hid (show kn = (tKids x.path t).length from hko.len.symm)
            have HTK2 := Lib.hid (show kidSum ((t.take (j + 1)).map (·.path)) t = m + kn by rw [HKN.out]; exact HTK.out)
            have HML2 := Lib.hid (show m + kn ≤ 32 * (j + 1) by rw [HKN.out]; exact HML.out)
            have yk2 : kn ≤ 32 := by rw [HKN.out]; exact HKL.out
            have HNK2 := Lib.hid (show x.own ≠ -1 → kn = 0 from fun h => by rw [HKN.out, HNK.out h]; rfl)
            have HB13 := Lib.hid (HBX.out.trans (hkb.mono HBX.out.size))
            have T13 := Lib.hid (T12.out.kept HB13.out)
            have HKR := Lib.hid hko.rd
            have v3 := cell_kept u3 hkb
            have v0 := cell_kept u0 hkb
            have HPV2 := Lib.hid (show 0 < j → ∃ pv : List UInt8, w13.cell? (y.add ((j - 1) * 6)) = some (.string ⟨pv.toArray⟩) ∧ ∀ X, (binOp BinOp.geq 9 (.string ⟨pv.toArray⟩) (.string ⟨x.path.toArray⟩)).run Tryz.prog X = .ok (.bool false) X from fun h0 => by
              obtain ⟨pv, -, h2, h3⟩ := HPV.out h0
              exact ⟨pv, h2 _ hkb, h3⟩)
            clear hko hkb u0 u1 u2 u3 u4 u5 HPV
            cases b1 : (x.own != -1) with
            | true =>
              have y5 : decide ((0 : Int) < (kn : Int)) = false := by rw [HNK2.out (by simpa using b1)]; rfl
              have y5b : decide (0 < kn) = false := by rw [HNK2.out (by simpa using b1)]; rfl
              rcases Nat.eq_zero_or_pos j with hj0 | hj0
              · have y6 : decide ((0 : Int) < (j : Int)) = false := decide_eq_false (by omega)
                have y6b : decide (0 < j) = false := decide_eq_false (by omega)
                clear hj0
                go_upto_region 29 with fail
                go_quiet (fail)
                go_wp2_with fail
                go_loopw [12] (fun i wx => ∃ k : Nat, k ≤ kn ∧ i = .int .i64 k ∧ Below w13.heap.size w13 wx) (fun i _ => kn - (intOf i).toNat)
                case atStart => exact ⟨0, Nat.zero_le _, rfl, below_drewN (Below.refl _ _) _⟩
                case round =>
                  obtain ⟨k, hk, rfl, hbk⟩ := hrel
                  have HBK := Lib.hid hbk
                  clear hbk
                  have zb : kn ≤ 32 := yk2
                  by_cases hkl : k < kn
                  · obtain ⟨z, hz⟩ : ∃ z, (tKids x.path t)[k]? = some z := ⟨_, List.getElem?_eq_getElem (by rw [← HKN.out]; exact hkl)⟩
                    obtain ⟨z0, rfl, hzb, hzc⟩ := (HKR.out.below HBK.out).2 k (sv z) (by rw [List.getElem?_map, hz]; rfl)
                    have hz2 : wr.cell? (z0.add k) = some (.string ⟨z.toArray⟩) := by simpa [sv] using hzc
                    have HPA := Lib.hid (show Calls _ _ _ _ (Ans (.tuple #[.string ⟨x.path.toArray⟩, .int .i64 0]) wr) by
                      have := parent_any ⟨z.toArray⟩ wr ((T13.out.kept HBK.out).env HE.out)
                      rw [show (⟨z.toArray⟩ : ByteArray).data.toList = z from rfl, HKP.out z (List.mem_of_getElem? hz)] at this
                      exact this)
                    have z1 : (0 : Int) ≤ (k : Int) := by omega
                    have z2 : (k : Int) < (kn : Int) := by omega
                    clear hz hzb hzc
                    go_wp2_with fail
                    refine HPA.out.mono ?_
                    rintro e w14 ⟨rfl, hb14⟩
                    have HB14 := Lib.hid (HBK.out.trans (hb14.mono HBK.out.size))
                    have v04 := cell_kept v0 HB14.out
                    clear hb14
                    go_wp2_with fail
                    go_roundw
                    case rel => exact ⟨k + 1, by omega, by go_num, HB14.out⟩
                    case measure => simp [intOf]; omega
                  · have z9 : ¬ ((k : Int) < (kn : Int)) := by omega
                    have HB15 := Lib.hid (HB13.out.trans (HBK.out.mono HB13.out.size))
                    go_wp2_with fail
                    go_roundw
                    case rel => exact ⟨j + 1, m + kn, by omega, by go_num, by go_num, HB15.out, HTK2.out.symm, HML2.out⟩
                    case measure => have := HTL.out; simp [intOf]; try omega
              · have y6 : decide ((0 : Int) < (j : Int)) = true := decide_eq_true (by omega)
                have y6b : decide (0 < j) = true := decide_eq_true (by omega)
                obtain ⟨pv, p0, p1⟩ := HPV2.out hj0
                have q1 : (0 : Int) ≤ (j : Int) - 1 := by omega
                have q2 : (j : Int) - 1 < (t.length : Int) := by omega
                have q3 : ((j : Int) - 1).toNat = j - 1 := by omega
                have p2 := p1 w13
                have p3 := p1 w13.drew
                have p4 := p1 (w13.drewN 1)
                go_upto_region 29 with fail
                go_quiet (fail)
                go_wp2_with fail
                go_loopw [12] (fun i wx => ∃ k : Nat, k ≤ kn ∧ i = .int .i64 k ∧ Below w13.heap.size w13 wx) (fun i _ => kn - (intOf i).toNat)
                case atStart => exact ⟨0, Nat.zero_le _, rfl, below_drewN (Below.refl _ _) _⟩
                case round =>
                  obtain ⟨k, hk, rfl, hbk⟩ := hrel
                  have HBK := Lib.hid hbk
                  clear hbk
                  have zb : kn ≤ 32 := yk2
                  by_cases hkl : k < kn
                  · obtain ⟨z, hz⟩ : ∃ z, (tKids x.path t)[k]? = some z := ⟨_, List.getElem?_eq_getElem (by rw [← HKN.out]; exact hkl)⟩
                    obtain ⟨z0, rfl, hzb, hzc⟩ := (HKR.out.below HBK.out).2 k (sv z) (by rw [List.getElem?_map, hz]; rfl)
                    have hz2 : wr.cell? (z0.add k) = some (.string ⟨z.toArray⟩) := by simpa [sv] using hzc
                    have HPA := Lib.hid (show Calls _ _ _ _ (Ans (.tuple #[.string ⟨x.path.toArray⟩, .int .i64 0]) wr) by
                      have := parent_any ⟨z.toArray⟩ wr ((T13.out.kept HBK.out).env HE.out)
                      rw [show (⟨z.toArray⟩ : ByteArray).data.toList = z from rfl, HKP.out z (List.mem_of_getElem? hz)] at this
                      exact this)
                    have z1 : (0 : Int) ≤ (k : Int) := by omega
                    have z2 : (k : Int) < (kn : Int) := by omega
                    clear hz hzb hzc
                    go_wp2_with fail
                    refine HPA.out.mono ?_
                    rintro e w14 ⟨rfl, hb14⟩
                    have HB14 := Lib.hid (HBK.out.trans (hb14.mono HBK.out.size))
                    have v04 := cell_kept v0 HB14.out
                    clear hb14
                    go_wp2_with fail
                    go_roundw
                    case rel => exact ⟨k + 1, by omega, by go_num, HB14.out⟩
                    case measure => simp [intOf]; omega
                  · have z9 : ¬ ((k : Int) < (kn : Int)) := by omega
                    have HB15 := Lib.hid (HB13.out.trans (HBK.out.mono HB13.out.size))
                    go_wp2_with fail
                    go_roundw
                    case rel => exact ⟨j + 1, m + kn, by omega, by go_num, by go_num, HB15.out, HTK2.out.symm, HML2.out⟩
                    case measure => have := HTL.out; simp [intOf]; try omega
            | false =>
              rcases Nat.eq_zero_or_pos j with hj0 | hj0
              · have y6 : decide ((0 : Int) < (j : Int)) = false := decide_eq_false (by omega)
                have y6b : decide (0 < j) = false := decide_eq_false (by omega)
                clear hj0
                go_upto_region 29 with fail
                go_quiet (fail)
                go_wp2_with fail
                go_loopw [12] (fun i wx => ∃ k : Nat, k ≤ kn ∧ i = .int .i64 k ∧ Below w13.heap.size w13 wx) (fun i _ => kn - (intOf i).toNat)
                case atStart => exact ⟨0, Nat.zero_le _, rfl, below_drewN (Below.refl _ _) _⟩
                case round =>
                  obtain ⟨k, hk, rfl, hbk⟩ := hrel
                  have HBK := Lib.hid hbk
                  clear hbk
                  have zb : kn ≤ 32 := yk2
                  by_cases hkl : k < kn
                  · obtain ⟨z, hz⟩ : ∃ z, (tKids x.path t)[k]? = some z := ⟨_, List.getElem?_eq_getElem (by rw [← HKN.out]; exact hkl)⟩
                    obtain ⟨z0, rfl, hzb, hzc⟩ := (HKR.out.below HBK.out).2 k (sv z) (by rw [List.getElem?_map, hz]; rfl)
                    have hz2 : wr.cell? (z0.add k) = some (.string ⟨z.toArray⟩) := by simpa [sv] using hzc
                    have HPA := Lib.hid (show Calls _ _ _ _ (Ans (.tuple #[.string ⟨x.path.toArray⟩, .int .i64 0]) wr) by
                      have := parent_any ⟨z.toArray⟩ wr ((T13.out.kept HBK.out).env HE.out)
                      rw [show (⟨z.toArray⟩ : ByteArray).data.toList = z from rfl, HKP.out z (List.mem_of_getElem? hz)] at this
                      exact this)
                    have z1 : (0 : Int) ≤ (k : Int) := by omega
                    have z2 : (k : Int) < (kn : Int) := by omega
                    clear hz hzb hzc
                    go_wp2_with fail
                    refine HPA.out.mono ?_
                    rintro e w14 ⟨rfl, hb14⟩
                    have HB14 := Lib.hid (HBK.out.trans (hb14.mono HBK.out.size))
                    have v04 := cell_kept v0 HB14.out
                    clear hb14
                    go_wp2_with fail
                    go_roundw
                    case rel => exact ⟨k + 1, by omega, by go_num, HB14.out⟩
                    case measure => simp [intOf]; omega
                  · have z9 : ¬ ((k : Int) < (kn : Int)) := by omega
                    have HB15 := Lib.hid (HB13.out.trans (HBK.out.mono HB13.out.size))
                    go_wp2_with fail
                    go_roundw
                    case rel => exact ⟨j + 1, m + kn, by omega, by go_num, by go_num, HB15.out, HTK2.out.symm, HML2.out⟩
                    case measure => have := HTL.out; simp [intOf]; try omega
              · have y6 : decide ((0 : Int) < (j : Int)) = true := decide_eq_true (by omega)
                have y6b : decide (0 < j) = true := decide_eq_true (by omega)
                obtain ⟨pv, p0, p1⟩ := HPV2.out hj0
                have q1 : (0 : Int) ≤ (j : Int) - 1 := by omega
                have q2 : (j : Int) - 1 < (t.length : Int) := by omega
                have q3 : ((j : Int) - 1).toNat = j - 1 := by omega
                have p2 := p1 w13
                have p3 := p1 w13.drew
                have p4 := p1 (w13.drewN 1)
                go_upto_region 29 with fail
                go_quiet (fail)
                go_wp2_with fail
                go_loopw [12] (fun i wx => ∃ k : Nat, k ≤ kn ∧ i = .int .i64 k ∧ Below w13.heap.size w13 wx) (fun i _ => kn - (intOf i).toNat)
                case atStart => exact ⟨0, Nat.zero_le _, rfl, below_drewN (Below.refl _ _) _⟩
                case round =>
                  obtain ⟨k, hk, rfl, hbk⟩ := hrel
                  have HBK := Lib.hid hbk
                  clear hbk
                  have zb : kn ≤ 32 := yk2
                  by_cases hkl : k < kn
                  · obtain ⟨z, hz⟩ : ∃ z, (tKids x.path t)[k]? = some z := ⟨_, List.getElem?_eq_getElem (by rw [← HKN.out]; exact hkl)⟩
                    obtain ⟨z0, rfl, hzb, hzc⟩ := (HKR.out.below HBK.out).2 k (sv z) (by rw [List.getElem?_map, hz]; rfl)
                    have hz2 : wr.cell? (z0.add k) = some (.string ⟨z.toArray⟩) := by simpa [sv] using hzc
                    have HPA := Lib.hid (show Calls _ _ _ _ (Ans (.tuple #[.string ⟨x.path.toArray⟩, .int .i64 0]) wr) by
                      have := parent_any ⟨z.toArray⟩ wr ((T13.out.kept HBK.out).env HE.out)
                      rw [show (⟨z.toArray⟩ : ByteArray).data.toList = z from rfl, HKP.out z (List.mem_of_getElem? hz)] at this
                      exact this)
                    have z1 : (0 : Int) ≤ (k : Int) := by omega
                    have z2 : (k : Int) < (kn : Int) := by omega
                    clear hz hzb hzc
                    go_wp2_with fail
                    refine HPA.out.mono ?_
                    rintro e w14 ⟨rfl, hb14⟩
                    have HB14 := Lib.hid (HBK.out.trans (hb14.mono HBK.out.size))
                    have v04 := cell_kept v0 HB14.out
                    clear hb14
                    go_wp2_with fail
                    go_roundw
                    case rel => exact ⟨k + 1, by omega, by go_num, HB14.out⟩
                    case measure => simp [intOf]; omega
                  · have z9 : ¬ ((k : Int) < (kn : Int)) := by omega
                    have HB15 := Lib.hid (HB13.out.trans (HBK.out.mono HB13.out.size))
                    go_wp2_with fail
                    go_roundw
                    case rel => exact ⟨j + 1, m + kn, by omega, by go_num, by go_num, HB15.out, HTK2.out.symm, HML2.out⟩
                    case measure => have := HTL.out; simp [intOf]; try omega
          · obtain rfl : j = t.length := by omega
            have HSUM := Lib.hid (show m + 1 = t.length by
              have := kids_sum HOK.out
              rw [HM.out, List.take_length]
              exact this)
            have yb : t.length ≤ 32 := HTL.out
            have b9 : ((m : Int) == (t.length : Int) - 1) = true := by
              have := HSUM.out
              rw [beq_iff_eq]; omega
            have HBE := Lib.hid (T12.out.kept HBX.out).be
            go_wp2_with fail
            go_ret
            exact ⟨rfl, HBE.out⟩

end Go.Proofs.YtgppclmofphlfaaGreatDoor
