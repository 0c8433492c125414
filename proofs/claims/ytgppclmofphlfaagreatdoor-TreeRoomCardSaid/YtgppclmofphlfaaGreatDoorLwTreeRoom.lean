/-
  The law TreeRoom, walked. A walk; no statement.
-/
import Derived.Test.YtgppclmofphlfaaGreatDoorTreeLaw
import Derived.Test.YtgppclmofphlfaaGreatDoorTreeScript
import Derived.Test.YtgppclmofphlfaaGreatDoorRoomPlain
namespace Go.Proofs.YtgppclmofphlfaaGreatDoor
set_option maxRecDepth 100000
open Go.RowKit
set_option linter.unusedVariables false
set_option maxRecDepth 100000

set_option maxHeartbeats 12800000 in
theorem treeRoom_walk (w : World) (hE : Env w) (v : Value) (ops : List To) (hops : InTos w v ops) (p : List UInt8) (hp : (⟨p.toArray⟩ : ByteArray).size ≤ maxLen) : Calls Tryz.prog 9 #[v, .string ⟨p.toArray⟩] w (Tr w) := by
  obtain ⟨A, c, rfl, hs, hbg⟩ := hops
  have HS := Lib.hid hs
  have HE := Lib.hid hE
  have HL := Lib.hid (alive_ok w hE)
  have HG := Lib.hid (fun X (hX : Below w.heap.size w X) => great_any A c ops X (hs.below hX) hbg)
  clear hs hbg hE
  go_enter Tryz.func9, Tryz.ntmps9
  go_wp2_with fail
  refine HL.out.mono ?_
  rintro e w1 ⟨rfl, hb1⟩
  have HB1 := Lib.hid hb1
  clear hb1 HL
  go_wp2_with fail
  refine (HG.out w1 HB1.out).mono ?_
  rintro e w2 ⟨b, q, rfl, hgr, rfl⟩
  have HB2 := Lib.hid (below_drewN HB1.out q)
  have HGR := Lib.hid hgr
  clear hgr HG HB1

  cases b with
  | true =>
    go_wp2_with fail
    go_ret
    exact ⟨rfl, HB2.out⟩
  | false =>
    by_cases hbp : (1000 : Int) < (p.length : Int)
    · go_wp2_with fail
      go_ret
      exact ⟨rfl, HB2.out⟩
    · have HBIG := Lib.hid (show ∀ o ∈ ops, o.data.length ≤ 140737488355328 from fun o ho => by have h1 := (HGR.out rfl).1; have h2 := (toW_mem ho).2; omega)
      go_wp2_with fail
      refine (new_any _).mono ?_
      intro e w3 h3
      obtain ⟨g, F0, rfl, t0, -, -⟩ := TOn.of_new HB2.out h3
      have TN0 := Lib.hid t0
      clear h3 t0
      go_wp2_with fail
      go_loopw [6] (fun i wr => ∃ (k : Nat) (F : Nat → Prop) (t : List Lf), k ≤ ops.length ∧ i = .int .i64 k ∧ TOn F w g 0 t wr ∧ NxLe (k : Int) t) (fun i _ => ops.length - (intOf i).toNat)
      case atStart => exact ⟨0, _, _, Nat.zero_le _, rfl, TN0.out, nx_root⟩
      case round =>
        obtain ⟨k, F, t, hk, rfl, tn, hnx⟩ := hrel
        have TN := Lib.hid tn
        have HNX := Lib.hid hnx
        clear hnx
        clear tn TN0
        by_cases hlt : k < ops.length
        · obtain ⟨o, ho⟩ : ∃ o, ops[k]? = some o := ⟨_, List.getElem?_eq_getElem hlt⟩
          have HBO := Lib.hid (HBIG.out o (List.mem_of_getElem? ho))
          obtain ⟨x, C, rc, rfl, -, c0, c1, c2, -, c4, c5, c6, hB⟩ := HS.out.to7 ho
          have c0r := cell_kept c0 TN.out.be
          have HST := Lib.hid (fun X (hX : Below w.heap.size w X) => (⟨cell_kept c1 hX, cell_kept c2 hX, cell_kept c4 hX, cell_kept c5 hX, cell_kept c6 hX⟩ :
            X.cell? ⟨(x.add (k * 7)).block, (x.add (k * 7)).off + 1, none⟩ = some (.int .i64 o.own) ∧ X.cell? ⟨(x.add (k * 7)).block, (x.add (k * 7)).off + 2, none⟩ = some (.int .i64 o.born) ∧ X.cell? ⟨(x.add (k * 7)).block, (x.add (k * 7)).off + 4, none⟩ = some (.string ⟨o.path.toArray⟩) ∧ X.cell? ⟨(x.add (k * 7)).block, (x.add (k * 7)).off + 5, none⟩ = some (.slice C o.data.length rc) ∧ X.cell? ⟨(x.add (k * 7)).block, (x.add (k * 7)).off + 6, none⟩ = some (.bool o.numd)))
          have HCP := Lib.hid (fun X (hX : Below w.heap.size w X) => copyBytes_big C o.data.length rc o.data X (hB.below hX).rd HBO.out)
          have TND := Lib.hid TN.out.drew
          have HB0 := Lib.hid TND.out.be
          have HWS := Lib.hid (show wr.heap.size = wr.drew.heap.size from rfl)
          have y1 : (0 : Int) ≤ (k : Int) := by omega
          have y2 : (k : Int) < (ops.length : Int) := by omega
          have yw1 : IntKind.i64.wrap ((k : Int) + 1) = (k : Int) + 1 := by have := HS.out.1; have := HS.out.2.1; unfold maxLen at this; simp only [IntKind.wrap, IntKind.bits, IntKind.signed]; simp; omega
          have yw2 : wrap64 ((k : Int) + 1) = (k : Int) + 1 := by have := HS.out.1; have := HS.out.2.1; unfold maxLen at this; unfold wrap64; omega
          clear c0 c1 c2 c4 c5 c6 hB ho
          by_cases hw1 : o.what = 1
          · rw [hw1] at c0r
            clear hw1
            go_wp2_with fail
            go_region_held (fun X => X.cell? ⟨(x.add (k * 7)).block, (x.add (k * 7)).off + 1, none⟩ = some (.int .i64 o.own) ∧ X.cell? ⟨(x.add (k * 7)).block, (x.add (k * 7)).off + 2, none⟩ = some (.int .i64 o.born) ∧ X.cell? ⟨(x.add (k * 7)).block, (x.add (k * 7)).off + 4, none⟩ = some (.string ⟨o.path.toArray⟩) ∧ X.cell? ⟨(x.add (k * 7)).block, (x.add (k * 7)).off + 5, none⟩ = some (.slice C o.data.length rc) ∧ X.cell? ⟨(x.add (k * 7)).block, (x.add (k * 7)).off + 6, none⟩ = some (.bool o.numd))
              (first | with_reducible exact HST.out _ HB6.out | with_reducible exact HST.out _ HB5.out | with_reducible exact HST.out _ HB0.out)
              (first
                | (go_at_call 32
                   with_reducible refine (HCP.out _ HB0.out).mono ?_
                   rintro e w5 ⟨A5, n5, c5, rfl, ho5, hb5⟩
                   obtain rfl := ho5.len.symm
                   have T5 := Lib.hid (TND.out.kept hb5)
                   have HB5 := Lib.hid T5.out.be
                   have HF5 := Lib.hid (BF.own ho5)
                   clear ho5 hb5)
                | (go_at_call 15
                   refine (T5.out.make HE.out o.path A5 c5 o.data (From wr.drew.heap.size) o.own o.born o.numd HF5.out (fun k hk _ hf => Nat.lt_irrefl _ (Nat.lt_of_lt_of_le (TND.out.low k hf).2 hk))).mono ?_
                   rintro e w6 ⟨rfl, F6, t6, -, -⟩
                   have T6 := Lib.hid t6
                   have HB6 := Lib.hid T6.out.be
                   clear t6))
            go_wp2_with fail
            go_roundw
            case rel => exact ⟨k + 1, F6, _, by omega, by go_num, T6.out, by have := nx_make HNX.out (by omega) o.path o.data o.own o.born o.numd; exact this⟩
            case measure => simp [intOf]; omega
          · have b1 : (o.what == 1) = false := by simpa using hw1
            go_wp2_with fail
            go_roundw
            case rel => exact ⟨k + 1, F, t, by omega, by go_num, TN.out, fun l hl => by have := HNX.out l hl; omega⟩
            case measure => simp [intOf]; omega
        · obtain rfl : k = ops.length := by omega
          clear hk hlt
          obtain ⟨WB, hWB⟩ : ∃ X, X = wr := ⟨_, rfl⟩
          subst hWB
          have HTL := Lib.hid (show t.length ≤ 32 from TN.out.ok.len)
          have HN150 := Lib.hid (show ops.length ≤ 150 from (HGR.out (by first | trivial | rfl)).2)
          go_wp2_with fail
          refine TN.out.all.mono ?_
          rintro e w7 ⟨A7, c7, rfl, ho7, hb7⟩
          have T7 := Lib.hid (TN.out.kept hb7)
          have HR7 := Lib.hid (ho7.rds (fun b hb => hb))
          clear ho7 hb7 TN
          go_wp2_with fail
          go_loopw [8] (fun i wx => ∃ j : Nat, j ≤ t.length ∧ i = .int .i64 j ∧ (∀ l ∈ t.take j, isN l.path = false) ∧ wx = w7) (fun i _ => t.length - (intOf i).toNat)
          case atStart => exact ⟨0, Nat.zero_le _, rfl, (fun l hl => by cases hl), rfl⟩
          case round =>
            obtain ⟨j, hj, rfl, hno, rfl⟩ := hrel
            have HNO := Lib.hid hno
            clear hno
            by_cases hlt : j < t.length
            · obtain ⟨x, hx⟩ : ∃ x, t[j]? = some x := ⟨_, List.getElem?_eq_getElem hlt⟩
              have HT := Lib.hid (show t.take (j + 1) = t.take j ++ [x] by
                obtain ⟨hh, rfl⟩ := List.getElem?_eq_some_iff.1 hx
                exact List.take_succ_eq_append_getElem hh)
              obtain ⟨y, XA, XC, rfl, hyb, u0, -⟩ := HR7.out.lf6 hx
              have y1 : (0 : Int) ≤ (j : Int) := by omega
              have y2 : (j : Int) < (t.length : Int) := by omega
              have yw1 : IntKind.i64.wrap ((j : Int) + 1) = (j : Int) + 1 := by have := HTL.out; simp only [IntKind.wrap, IntKind.bits, IntKind.signed]; simp; omega
              have yw2 : wrap64 ((j : Int) + 1) = (j : Int) + 1 := by have := HTL.out; unfold wrap64; omega
              clear hx hyb
              by_cases h3 : 3 ≤ x.path.length
              · have y3 : (3 : Int) ≤ (x.path.length : Int) := by omega
                have HE3 := Lib.hid (show ((⟨x.path.toArray⟩ : ByteArray).extract 0 3).toList = x.path.take 3 by rw [Lib.toList_data, Lib.extract_data]; simp)
                by_cases h4 : x.path.take 3 = [47, 110, 45]
                · have y4 : (((⟨x.path.toArray⟩ : ByteArray).extract 0 3).toList == [47, 110, 45]) = true := by rw [HE3.out, h4]; rfl
                  clear h3 h4
                  go_wp2_with fail
                  go_ret
                  exact ⟨rfl, T7.out.be⟩
                · have y4 : (((⟨x.path.toArray⟩ : ByteArray).extract 0 3).toList == [47, 110, 45]) = false := by rw [HE3.out]; simpa using h4
                  have HV := Lib.hid (show isN x.path = false by unfold isN; rw [show (x.path.take 3 == [47, 110, 45]) = false by simpa using h4, Bool.and_false])
                  clear h3 h4
                  go_wp2_with fail
                  go_roundw
                  case rel => exact ⟨j + 1, by omega, by go_num, (fun l hl => by rw [HT.out] at hl; rcases List.mem_append.1 hl with q | q; exact HNO.out l q; obtain rfl := List.mem_singleton.1 q; exact HV.out), by first | trivial | rfl⟩
                  case measure => have := HTL.out; simp [intOf]; omega
              · have y3 : ¬ ((3 : Int) ≤ (x.path.length : Int)) := by omega
                have HV := Lib.hid (show isN x.path = false by unfold isN; rw [decide_eq_false h3, Bool.false_and])
                clear h3
                go_wp2_with fail
                go_roundw
                case rel => exact ⟨j + 1, by omega, by go_num, (fun l hl => by rw [HT.out] at hl; rcases List.mem_append.1 hl with q | q; exact HNO.out l q; obtain rfl := List.mem_singleton.1 q; exact HV.out), by first | trivial | rfl⟩
                case measure => have := HTL.out; simp [intOf]; omega
            · obtain rfl : j = t.length := by omega
              have HRM := Lib.hid (show Rm (ops.length : Int) t from Rm.start T7.out.ok HNX.out (by have := HNO.out; rwa [List.take_length] at this))
              clear hlt hj HNO HR7
              go_wp2_with fail
              go_loopw [9, 10] (fun la i wx => ∃ (last : List UInt8) (j : Nat) (F' : Nat → Prop) (t' : List Lf), j ≤ 40 ∧ i = .int .i64 j ∧ la = .string ⟨last.toArray⟩ ∧ TOn F' w g 0 t' wx ∧ Rm (ops.length + j : Int) t' ∧ (32 ≤ t'.length ∨ j < t'.length) ∧ ((last = [] ∧ (j = 0 ∨ 32 ≤ t'.length)) ∨ ∃ i, last = nPath i ∧ ∃ l ∈ t', l.path = nPath i ∧ l.ver = 0)) (fun _ i _ => 40 - (intOf i).toNat)
              case atStart =>
                refine ⟨[], 0, F, t, by omega, rfl, rfl, T7.out, ?_, ?_, .inl ⟨rfl, .inl rfl⟩⟩
                · have := HRM.out; simpa using this
                · right
                  obtain ⟨r, hr, _⟩ := T7.out.ok.root
                  exact List.length_pos_of_mem hr
              case round =>
                obtain ⟨last, j, F', t', hj, rfl, rfl, tn, hrm, hln, hla⟩ := hrel
                have TN := Lib.hid tn
                have HR := Lib.hid hrm
                have HLN := Lib.hid hln
                have HLA := Lib.hid hla
                have HL32 := Lib.hid (show t'.length ≤ 32 from tn.ok.len)
                clear tn hrm hln hla
                by_cases hlt : j < 40
                · have y2 : (j : Int) < 40 := by omega
                  have yw1 : IntKind.i64.wrap ((j : Int) + 1) = (j : Int) + 1 := by simp only [IntKind.wrap, IntKind.bits, IntKind.signed]; simp; omega
                  have yw2 : wrap64 ((j : Int) + 1) = (j : Int) + 1 := by unfold wrap64; omega
                  by_cases hfull : t'.length < 32
                  · obtain ⟨i1, t2, hmk, hok2, hlen2, hrm2, hin2⟩ := room_one TN.out.ok HR.out (by have := HN150.out; omega) hfull
                    have HMK := Lib.hid (fun X (hX : TOn F' w g 0 t' X) => show Calls _ _ _ _ (MvP F' w g 0 t2 (.tuple #[.string ⟨(nPath i1).toArray⟩, .int .i64 0]) X) by
                      have := hX.make HE.out [47, 110, 45] none 0 [] (fun _ => False) (-1) 0 true (BF.nil_ _ _) (fun _ h => h.elim)
                      rw [hmk] at this
                      exact this)
                    have HL2 := Lib.hid hlen2
                    have HR2 := Lib.hid hrm2
                    have HI2 := Lib.hid hin2
                    have y3 : (t'.length : Int) < 32 := by omega
                    have y4 : ¬ ((32 : Int) < (t2.length : Int)) := by omega
                    clear hmk hok2 hlen2 hrm2 hin2
                    go_wp2_with fail
                    refine TN.out.all.mono ?_
                    rintro e w8 ⟨A8, c8, rfl, -, hb8⟩
                    have T8 := Lib.hid (TN.out.kept hb8)
                    clear hb8
                    go_wp2_with fail
                    refine (HMK.out _ T8.out).mono ?_
                    rintro e w9 ⟨rfl, F9, t9, -, -⟩
                    have T9 := Lib.hid t9
                    clear t9
                    go_wp2_with fail
                    refine T9.out.all.mono ?_
                    rintro e w10 ⟨A10, c10, rfl, -, hb10⟩
                    have T10 := Lib.hid (T9.out.kept hb10)
                    clear hb10
                    go_wp2_with fail
                    go_roundw
                    case rel =>
                      refine ⟨nPath i1, j + 1, F9, t2, by omega, by go_num, rfl, T10.out, ?_, ?_, .inr ⟨i1, rfl, HI2.out⟩⟩
                      · have := HR2.out
                        rw [show (ops.length : Int) + ((j + 1 : Nat) : Int) = ops.length + j + 1 by omega]
                        exact this
                      · have := HLN.out; have := HL2.out; omega
                    case measure => simp [intOf]; omega
                  · have HMK := Lib.hid (fun X (hX : TOn F' w g 0 t' X) => show Calls _ _ _ _ (MvP F' w g 0 t' (.tuple #[.string ⟨#[]⟩, .int .i64 104]) X) by
                      have := hX.make HE.out [47, 110, 45] none 0 [] (fun _ => False) (-1) 0 true (BF.nil_ _ _) (fun _ h => h.elim)
                      rw [room_full hX.ok HR.out (by have := HN150.out; omega) (by omega)] at this
                      exact this)
                    have y3 : ¬ ((t'.length : Int) < 32) := by omega
                    have y4 : ¬ ((32 : Int) < (t'.length : Int)) := by have := HL32.out; omega
                    go_wp2_with fail
                    refine TN.out.all.mono ?_
                    rintro e w8 ⟨A8, c8, rfl, -, hb8⟩
                    have T8 := Lib.hid (TN.out.kept hb8)
                    clear hb8
                    go_wp2_with fail
                    refine (HMK.out _ T8.out).mono ?_
                    rintro e w9 ⟨rfl, F9, t9, -, -⟩
                    have T9 := Lib.hid t9
                    clear t9
                    go_wp2_with fail
                    refine T9.out.all.mono ?_
                    rintro e w10 ⟨A10, c10, rfl, -, hb10⟩
                    have T10 := Lib.hid (T9.out.kept hb10)
                    clear hb10
                    go_wp2_with fail
                    go_roundw
                    case rel =>
                      refine ⟨last, j + 1, F9, t', by omega, by go_num, rfl, T10.out, ?_, .inl (by omega), ?_⟩
                      · obtain ⟨r, k1, k2, k3, k4, k5, k6⟩ := HR.out
                        exact ⟨r, k1, k2, k3, k4, by omega, k6⟩
                      · rcases HLA.out with ⟨k1, _⟩ | k
                        · exact .inl ⟨k1, .inr (by omega)⟩
                        · exact .inr k
                    case measure => simp [intOf]; omega
                · obtain rfl : j = 40 := by omega
                  have hfl : t'.length = 32 := by have h1 := HLN.out; have h2 := HL32.out; omega
                  have HFL := Lib.hid hfl
                  rcases HLA.out with ⟨rfl, _⟩ | ⟨i, rfl, l, hl, hp, hv⟩
                  · have y3 : (t'.length : Int) = 32 := by omega
                    go_wp2_with fail
                    refine TN.out.all.mono ?_
                    rintro e w8 ⟨A8, c8, rfl, -, hb8⟩
                    have T8 := Lib.hid (TN.out.kept hb8)
                    clear hb8
                    go_wp2_with fail
                    go_ret
                    exact ⟨rfl, T8.out.be⟩
                  · obtain ⟨t2, hdr, hl2, hr2, hok2⟩ := room_drop TN.out.ok HR.out hl hp hv
                    have HDR := Lib.hid (show Calls _ _ _ _ (MvP F' w g 0 t2 (.int .i64 0) wr) by
                      have := TN.out.drop HE.out (nPath i) 0
                      rw [hdr] at this
                      exact this)
                    obtain ⟨i3, t3, hmk, hok3, hl3, hr3, -⟩ := room_one hok2 hr2 (by have := HN150.out; omega) (by omega)
                    have HMK := Lib.hid (fun F X (hX : TOn F w g 0 t2 X) => show Calls _ _ _ _ (MvP F w g 0 t3 (.tuple #[.string ⟨(nPath i3).toArray⟩, .int .i64 0]) X) by
                      have := hX.make HE.out [47, 110, 45] none 0 [] (fun _ => False) (-1) 0 true (BF.nil_ _ _) (fun _ h => h.elim)
                      rw [hmk] at this
                      exact this)
                    have HM3 := Lib.hid (fun F X (hX : TOn F w g 0 t3 X) => show Calls _ _ _ _ (MvP F w g 0 t3 (.tuple #[.string ⟨#[]⟩, .int .i64 104]) X) by
                      have := hX.make HE.out [47, 110, 45] none 0 [] (fun _ => False) (-1) 0 true (BF.nil_ _ _) (fun _ h => h.elim)
                      rw [room_full hok3 hr3 (by have := HN150.out; omega) (by omega)] at this
                      exact this)
                    have y5 : ((nPath i) == []) = false := rfl
                    clear hdr hl2 hr2 hok2 hmk hok3 hl3 hr3 hl hp hv
                    go_wp2_with fail
                    refine HDR.out.mono ?_
                    rintro e w8 ⟨rfl, F8, t8, -, -⟩
                    have T8 := Lib.hid t8
                    clear t8
                    go_wp2_with fail
                    refine (HMK.out _ _ T8.out).mono ?_
                    rintro e w9 ⟨rfl, F9, t9, -, -⟩
                    have T9 := Lib.hid t9
                    clear t9
                    go_wp2_with fail
                    refine (HM3.out _ _ T9.out).mono ?_
                    rintro e w10 ⟨rfl, F10, t10, -, -⟩
                    have T10 := Lib.hid t10
                    clear t10
                    go_wp2_with fail
                    go_ret
                    exact ⟨rfl, T10.out.be⟩
end Go.Proofs.YtgppclmofphlfaaGreatDoor
