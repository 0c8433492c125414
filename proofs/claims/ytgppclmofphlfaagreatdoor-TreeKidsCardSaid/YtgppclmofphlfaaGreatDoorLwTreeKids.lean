/-
  The law TreeKids, walked. A walk; no statement.
-/
import Derived.Test.YtgppclmofphlfaaGreatDoorTreeLaw
import Derived.Test.YtgppclmofphlfaaGreatDoorTreeScript
import Derived.Test.YtgppclmofphlfaaGreatDoorPathUse
import Derived.Test.YtgppclmofphlfaaGreatDoorPathDev6
namespace Go.Proofs.YtgppclmofphlfaaGreatDoor
set_option maxRecDepth 100000
open Go.RowKit
set_option linter.unusedVariables false
set_option maxRecDepth 100000

theorem tKids_none {n : Nat} {t : List Lf} {p : List UInt8} {m : Int} (h : TOk n t) (hg : tGet p t = (none, m)) : tKids p t = [] := by
  cases hk : tKids p t with
  | nil => rfl
  | cons y r =>
    have hy : y ∈ tKids p t := by rw [hk]; exact List.mem_cons_self
    unfold tKids at hy
    obtain ⟨x, hx, -⟩ := List.mem_map.1 hy
    obtain ⟨hx1, hx2⟩ := List.mem_filter.1 hx
    have hx3 : parentP x.path = some p := by simpa using hx2
    have hne : x.path ≠ [47] := fun e => by rw [e] at hx3; cases hx3
    obtain ⟨z, hz, hz2, _⟩ := h.par x hx1 hne
    have e : p = z.path := Option.some.inj (hx3.symm.trans hz2)
    have hp := h.path z hz
    rw [← e] at hp
    rw [tGet_at hp] at hg
    cases ha : tAt p t with
    | none => exact absurd e.symm (tAt_no.1 ha z hz)
    | some k => rw [ha] at hg; cases hg
set_option maxHeartbeats 12800000 in
theorem treeKids_walk (w : World) (hE : Env w) (v : Value) (ops : List To) (hops : InTos w v ops) (p : List UInt8) (hp : (⟨p.toArray⟩ : ByteArray).size ≤ maxLen) : Calls Tryz.prog 8 #[v, .string ⟨p.toArray⟩] w (Tr w) := by
  obtain ⟨A, c, rfl, hs, hbg⟩ := hops
  have HS := Lib.hid hs
  have HE := Lib.hid hE
  have HL := Lib.hid (alive_ok w hE)
  have HG := Lib.hid (fun X (hX : Below w.heap.size w X) => great_any A c ops X (hs.below hX) hbg)
  clear hs hbg hE
  go_enter Tryz.func8, Tryz.ntmps8
  go_wp2_with fail
  refine HL.out.mono ?_
  rintro e w1 ⟨rfl, hb1⟩
  have HB1 := Lib.hid hb1
  clear hb1 HL
  go_wp2_with fail
  refine (HG.out w1 HB1.out).mono ?_
  rintro e w2 ⟨b, q, rfl, hgr, rfl⟩
  have HB2 := Lib.hid (below_drewN HB1.out q)
  have HGR := Lib.hid hgr
  clear hgr HG HB1

  cases b with
  | true =>
    go_wp2_with fail
    go_ret
    exact ⟨rfl, HB2.out⟩
  | false =>
    by_cases hbp : (1000 : Int) < (p.length : Int)
    · go_wp2_with fail
      go_ret
      exact ⟨rfl, HB2.out⟩
    · have HBIG := Lib.hid (show ∀ o ∈ ops, o.data.length ≤ 140737488355328 from fun o ho => by have h1 := (HGR.out rfl).1; have h2 := (toW_mem ho).2; omega)
      go_wp2_with fail
      refine (new_any _).mono ?_
      intro e w3 h3
      obtain ⟨g, F0, rfl, t0, -, -⟩ := TOn.of_new HB2.out h3
      have TN0 := Lib.hid t0
      clear h3 t0
      go_wp2_with fail
      go_loopw [6] (fun i wr => ∃ (k : Nat) (F : Nat → Prop) (t : List Lf), k ≤ ops.length ∧ i = .int .i64 k ∧ TOn F w g 0 t wr) (fun i _ => ops.length - (intOf i).toNat)
      case atStart => exact ⟨0, _, _, Nat.zero_le _, rfl, TN0.out⟩
      case round =>
        obtain ⟨k, F, t, hk, rfl, tn⟩ := hrel
        have TN := Lib.hid tn
        clear tn TN0
        by_cases hlt : k < ops.length
        · obtain ⟨o, ho⟩ : ∃ o, ops[k]? = some o := ⟨_, List.getElem?_eq_getElem hlt⟩
          have HBO := Lib.hid (HBIG.out o (List.mem_of_getElem? ho))
          obtain ⟨x, C, rc, rfl, -, c0, c1, c2, -, c4, c5, c6, hB⟩ := HS.out.to7 ho
          have c0r := cell_kept c0 TN.out.be
          have HST := Lib.hid (fun X (hX : Below w.heap.size w X) => (⟨cell_kept c1 hX, cell_kept c2 hX, cell_kept c4 hX, cell_kept c5 hX, cell_kept c6 hX⟩ :
            X.cell? ⟨(x.add (k * 7)).block, (x.add (k * 7)).off + 1, none⟩ = some (.int .i64 o.own) ∧ X.cell? ⟨(x.add (k * 7)).block, (x.add (k * 7)).off + 2, none⟩ = some (.int .i64 o.born) ∧ X.cell? ⟨(x.add (k * 7)).block, (x.add (k * 7)).off + 4, none⟩ = some (.string ⟨o.path.toArray⟩) ∧ X.cell? ⟨(x.add (k * 7)).block, (x.add (k * 7)).off + 5, none⟩ = some (.slice C o.data.length rc) ∧ X.cell? ⟨(x.add (k * 7)).block, (x.add (k * 7)).off + 6, none⟩ = some (.bool o.numd)))
          have HCP := Lib.hid (fun X (hX : Below w.heap.size w X) => copyBytes_big C o.data.length rc o.data X (hB.below hX).rd HBO.out)
          have TND := Lib.hid TN.out.drew
          have HB0 := Lib.hid TND.out.be
          have HWS := Lib.hid (show wr.heap.size = wr.drew.heap.size from rfl)
          have y1 : (0 : Int) ≤ (k : Int) := by omega
          have y2 : (k : Int) < (ops.length : Int) := by omega
          have yw1 : IntKind.i64.wrap ((k : Int) + 1) = (k : Int) + 1 := by have := HS.out.1; have := HS.out.2.1; unfold maxLen at this; simp only [IntKind.wrap, IntKind.bits, IntKind.signed]; simp; omega
          have yw2 : wrap64 ((k : Int) + 1) = (k : Int) + 1 := by have := HS.out.1; have := HS.out.2.1; unfold maxLen at this; unfold wrap64; omega
          clear c0 c1 c2 c4 c5 c6 hB ho
          by_cases hw1 : o.what = 1
          · rw [hw1] at c0r
            clear hw1
            go_wp2_with fail
            go_region_held (fun X => X.cell? ⟨(x.add (k * 7)).block, (x.add (k * 7)).off + 1, none⟩ = some (.int .i64 o.own) ∧ X.cell? ⟨(x.add (k * 7)).block, (x.add (k * 7)).off + 2, none⟩ = some (.int .i64 o.born) ∧ X.cell? ⟨(x.add (k * 7)).block, (x.add (k * 7)).off + 4, none⟩ = some (.string ⟨o.path.toArray⟩) ∧ X.cell? ⟨(x.add (k * 7)).block, (x.add (k * 7)).off + 5, none⟩ = some (.slice C o.data.length rc) ∧ X.cell? ⟨(x.add (k * 7)).block, (x.add (k * 7)).off + 6, none⟩ = some (.bool o.numd))
              (first | with_reducible exact HST.out _ HB6.out | with_reducible exact HST.out _ HB5.out | with_reducible exact HST.out _ HB0.out)
              (first
                | (go_at_call 32
                   with_reducible refine (HCP.out _ HB0.out).mono ?_
                   rintro e w5 ⟨A5, n5, c5, rfl, ho5, hb5⟩
                   obtain rfl := ho5.len.symm
                   have T5 := Lib.hid (TND.out.kept hb5)
                   have HB5 := Lib.hid T5.out.be
                   have HF5 := Lib.hid (BF.own ho5)
                   clear ho5 hb5)
                | (go_at_call 15
                   refine (T5.out.make HE.out o.path A5 c5 o.data (From wr.drew.heap.size) o.own o.born o.numd HF5.out (fun k hk _ hf => Nat.lt_irrefl _ (Nat.lt_of_lt_of_le (TND.out.low k hf).2 hk))).mono ?_
                   rintro e w6 ⟨rfl, F6, t6, -, -⟩
                   have T6 := Lib.hid t6
                   have HB6 := Lib.hid T6.out.be
                   clear t6))
            go_wp2_with fail
            go_roundw
            case rel => exact ⟨k + 1, F6, _, by omega, by go_num, T6.out⟩
            case measure => simp [intOf]; omega
          · have b1 : (o.what == 1) = false := by simpa using hw1
            go_wp2_with fail
            go_roundw
            case rel => exact ⟨k + 1, F, t, by omega, by go_num, TN.out⟩
            case measure => simp [intOf]; omega
        · obtain rfl : k = ops.length := by omega
          clear hk hlt
          obtain ⟨WB, hWB⟩ : ∃ X, X = wr := ⟨_, rfl⟩
          subst hWB
          obtain ⟨i0, hi, hz0, hz1, hz2⟩ := info_parts info_str
          have TA := Lib.hid (TN.out.kept ((Below.refl WB.heap.size WB).alloc (Nat.le_refl _) (.cells #[] 9)))
          have HOE := Lib.hid (ownT_empty WB)
          have HSA := Lib.hid (show (WB.alloc (.cells #[] 9)).heap.size = WB.heap.size + 1 by simp)
          have HNL := Lib.hid (show ∀ k, F k → k < WB.heap.size from fun k hk => (TN.out.low k hk).2)
          have HTL := Lib.hid (show t.length ≤ 32 from TN.out.ok.len)
          have HTP := Lib.hid TN.out.ok.p64
          have HTO := Lib.hid TN.out.ok
          have HWW := Lib.hid TN.out.size
          clear TN
          go_wp2_with fail
          refine TA.out.all.mono ?_
          rintro e w7 ⟨A7, c7, rfl, ho7, hb7⟩
          have T7 := Lib.hid (TA.out.kept hb7)
          have HR7 := Lib.hid ((ho7.rds (fun b hb => hb)).in_)
          have HW7 := Lib.hid (HOE.out.below hb7)
          have HS7 := Lib.hid (show WB.heap.size + 1 ≤ w7.heap.size by have := hb7.size; have := HSA.out; omega)
          clear ho7 hb7 TA HOE
          go_wp2_with fail
          go_loopw [7, 9] (fun s i wr => ∃ (A' : Option Addr) (n' c' j : Nat), j ≤ t.length ∧ s = .slice A' n' c' ∧ i = .int .i64 j ∧ OwnT wr WB.heap.size A' n' c' (tKids p (t.take j)) ∧ n' ≤ j ∧ Chg (· = WB.heap.size) w7 wr ∧ (∀ b, (Value.slice A' n' c').ownBlock = some b → b = WB.heap.size ∨ w7.heap.size ≤ b)) (fun _ i _ => t.length - (intOf i).toNat)
          case atStart =>
            refine ⟨_, 0, 0, 0, Nat.zero_le _, rfl, rfl, HW7.out, Nat.le_refl _, Chg.refl _ _, fun b hb => .inl ?_⟩
            have hb2 : some WB.heap.size = some b := hb
            exact (Option.some.inj hb2).symm
          case round =>
            obtain ⟨A', n', c', j, hj, rfl, rfl, ho, hnj, hch, hob⟩ := hrel
            have HCH := Lib.hid hch
            have HO := Lib.hid ho
            have HOB := Lib.hid hob
            have HTX := Lib.hid (T7.out.chg hch (fun k hk e => Nat.lt_irrefl _ (by rw [e] at hk; exact HNL.out _ hk)) (fun k e => by rw [e]; exact HWW.out))
            have HRX := Lib.hid (HR7.out.chg hch (Gap.of fun k e => by rw [e, HSA.out]; omega))
            clear ho hob hch
            by_cases hlt : j < t.length
            · obtain ⟨x, hx⟩ : ∃ x, t[j]? = some x := ⟨_, List.getElem?_eq_getElem hlt⟩
              have HT := Lib.hid (show t.take (j + 1) = t.take j ++ [x] by
                obtain ⟨hh, rfl⟩ := List.getElem?_eq_some_iff.1 hx
                exact List.take_succ_eq_append_getElem hh)
              obtain ⟨y, XA, XC, rfl, hyb, u0, -⟩ := HRX.out.lf6 hx
              have HP := Lib.hid (show Calls _ _ _ _ (Ans (optV (parentP x.path)) wr) from parent_any ⟨x.path.toArray⟩ wr (HTX.out.env HE.out))
              have HN := Lib.hid (tKids_snoc p (t.take j) x)
              have y1 : (0 : Int) ≤ (j : Int) := by omega
              have y2 : (j : Int) < (t.length : Int) := by omega
              have yw1 : IntKind.i64.wrap ((j : Int) + 1) = (j : Int) + 1 := by have := HTL.out; simp only [IntKind.wrap, IntKind.bits, IntKind.signed]; simp; omega
              have yw2 : wrap64 ((j : Int) + 1) = (j : Int) + 1 := by have := HTL.out; unfold wrap64; omega
              clear hx hyb
              rcases opt_cases (parentP x.path) with ⟨e, ev⟩ | ⟨up, e, ev⟩
              · rw [ev] at HP
                have HV := Lib.hid (show tKids p (t.take (j + 1)) = tKids p (t.take j) by
                  rw [HT.out, HN.out, e, if_neg (by simp), List.append_nil])
                clear e ev
                go_wp2_with fail
                refine HP.out.mono ?_
                rintro e w8 ⟨rfl, hb8⟩
                have HO2 := Lib.hid (HO.out.below hb8)
                have HC2 := Lib.hid (HCH.out.then hb8)
                clear hb8
                go_wp2_with fail
                go_roundw
                case rel => exact ⟨A', n', c', j + 1, by omega, rfl, by go_num, by rw [HV.out]; exact HO2.out, by omega, HC2.out, HOB.out⟩
                case measure => have := HTL.out; simp [intOf]; omega
              · rw [ev] at HP
                by_cases hup : up = p
                · have b1 : (up == p) = true := by simpa using hup
                  have HV := Lib.hid (show tKids p (t.take (j + 1)) = tKids p (t.take j) ++ [x.path] by
                    rw [HT.out, HN.out, e, hup, if_pos rfl])
                  clear e ev hup
                  go_wp2_with fail
                  refine HP.out.mono ?_
                  rintro e w8 ⟨rfl, hb8⟩
                  have HO2 := Lib.hid (HO.out.below hb8)
                  have HC2 := Lib.hid (HCH.out.then hb8)
                  have HS8 := Lib.hid (show w7.heap.size ≤ w8.heap.size from HC2.out.size)
                  have u08 := cell_kept u0 hb8
                  have HL32 := Lib.hid HTL.out
                  clear hb8 u0
                  go_wp2_with (first
                    | (at_builtin
                       refine wpList_append_rd _ rfl (.tmp 93) (.tmp 99) 53 rfl WB.heap.size 9 i0 _ 16 Tryz.underlying53 hi hz0 hz1 hz2 rfl A' n' c' ((tKids p (t.take j)).map sv) rfl (World.ownsRow.alloc HO2.out _) (some ⟨w8.heap.size, 0, none⟩) 1 1 [sv x.path] rfl
                         (Rd.new w8 [sv x.path] _) (by intro u hu; rw [List.mem_singleton.1 hu]; rfl) (by have := HL32.out; simp only [maxLen]; omega) (by have := HL32.out; omega) (by have := HS8.out; have := HS7.out; simp; omega) ?_
                       intro A3 c3 w3 hown3 hg3 hrow3))
                  go_roundw
                  case rel =>
                    refine ⟨A3, n' + 1, c3, j + 1, by omega, rfl, by go_num, ?_, by omega, ?_, ?_⟩
                    · unfold OwnT
                      rw [HV.out, List.map_append]
                      exact hown3
                    · exact (HC2.out.alloc _).grown hg3 (fun g e => HOB.out g e)
                    · intro b hb
                      rcases hrow3 with h | h
                      · exact HOB.out b (h ▸ hb)
                      · rw [h] at hb
                        right
                        have := HS8.out
                        injection hb with hb
                        rw [← hb]; simp; omega
                  case measure => have := HTL.out; simp [intOf]; omega
                · have b1 : (up == p) = false := by simpa using hup
                  have HV := Lib.hid (show tKids p (t.take (j + 1)) = tKids p (t.take j) by
                    rw [HT.out, HN.out, e, if_neg (fun h => hup (Option.some.inj h)), List.append_nil])
                  clear e ev hup
                  go_wp2_with fail
                  refine HP.out.mono ?_
                  rintro e w8 ⟨rfl, hb8⟩
                  have HO2 := Lib.hid (HO.out.below hb8)
                  have HC2 := Lib.hid (HCH.out.then hb8)
                  clear hb8
                  go_wp2_with fail
                  go_roundw
                  case rel => exact ⟨A', n', c', j + 1, by omega, rfl, by go_num, by rw [HV.out]; exact HO2.out, by omega, HC2.out, HOB.out⟩
                  case measure => have := HTL.out; simp [intOf]; omega
            · obtain rfl : j = t.length := by omega
              have HW := Lib.hid (show OwnT wr WB.heap.size A' n' c' (tKids p t) by have := HO.out; rwa [List.take_length] at this)
              have HL32 := Lib.hid HTL.out
              clear HO HRX HR7 T7 HW7 HCH
              rcases tGet_cases p t with ⟨l, e, -⟩ | ⟨m, e, hm⟩
              · have HGT := Lib.hid (HTX.out.get HE.out p)
                have HKD := Lib.hid (fun X (hX : Below wr.heap.size wr X) => (HTX.out.kept hX).kids HE.out p)
                rw [e] at HGT HKD
                clear e
                go_wp2_with fail
                refine HGT.out.mono ?_
                intro e w9 h9
                obtain ⟨hb9, LA, LC, rfl, -⟩ := (show Below wr.heap.size wr w9 ∧ ∃ A c, e = .returned (.tuple #[.agg (lfC l A c).toArray, .int .i64 0]) ∧ BF (From wr.heap.size) w9 A c l.data from h9)
                have HB9 := Lib.hid hb9
                have HK9 := Lib.hid (Bk.new w9 50 [.string ⟨#[]⟩, .slice none 0 0, .int .i64 0, .int .i64 0, .int .i64 0, .int .i64 0])
                clear h9 hb9
                go_wp2_with (first
                  | (refine wpList_store_bkT rfl 50 _ _ rfl w9.heap.size (lfC l LA LC) rfl rfl 50 [.string ⟨#[]⟩, .slice none 0 0, .int .i64 0, .int .i64 0, .int .i64 0, .int .i64 0] HK9.out rfl info_leaf1 rfl ?_
                     intro w10 hk10 hg10
                     have HB10 := Lib.hid (show Below wr.heap.size wr w10 from (HB9.out.alloc HB9.out.size _).grown hg10.out (by have := HB9.out.size; simp; omega) (fun k e => by injection e with e; have := HB9.out.size; omega))))
                refine (HKD.out _ HB10.out).mono ?_
                intro e w11 h11
                obtain ⟨v, ⟨KA, kn, kc, hve, hko, hkb⟩, rfl⟩ := (show ∃ v, FreshT (tKids p t) w10 (.returned v) w11 ∧ e = .returned (.tuple #[v, .int .i64 0]) from h11)
                injection hve with hve
                subst hve
                have HB11 := Lib.hid (HB10.out.trans (hkb.mono HB10.out.size))
                have hkl : kn ≤ maxLen := by have h1 := hko.len; have h2 := tKids_le p t; have h3 := HL32.out; unfold maxLen; omega
                have HST := Lib.hid (sameTexts_any KA A' kn n' kc c' w11 _ _ hko.rd (HW.out.below HB11.out).rd hkl)
                have HBE := Lib.hid (HTX.out.be.trans (HB11.out.mono HTX.out.be.size))
                clear h11 hkb hko
                go_wp2_with fail
                refine HST.out.mono ?_
                rintro e w12 ⟨rfl, q12, rfl⟩
                try rw [show decide True = true from rfl]
                go_wp2_with fail
                go_ret
                exact ⟨rfl, below_drewN HBE.out _⟩
              · have HGT := Lib.hid (HTX.out.get HE.out p)
                have HKD := Lib.hid (fun X (hX : Below wr.heap.size wr X) => (HTX.out.kept hX).kids HE.out p)
                have hnil := tKids_none HTO.out e
                rw [hnil] at HW
                obtain rfl : n' = 0 := HW.out.len.symm
                rw [e] at HGT HKD
                have b0 : (m == 0) = false := by rcases hm with rfl | rfl <;> rfl
                have b2 : (m != 0) = true := by rcases hm with rfl | rfl <;> rfl
                have b3 : (m == m) = true := by simp
                have HM := Lib.hid (show m ≠ 0 by rcases hm with rfl | rfl <;> omega)
                clear e hm hnil
                go_wp2_with fail
                refine HGT.out.mono ?_
                intro e w9 h9
                obtain ⟨hb9, rfl⟩ := (show Below wr.heap.size wr w9 ∧ e = .returned (.tuple #[lfNo, .int .i64 m]) from h9)
                have HB9 := Lib.hid hb9
                have HK9 := Lib.hid (Bk.new w9 50 [.string ⟨#[]⟩, .slice none 0 0, .int .i64 0, .int .i64 0, .int .i64 0, .int .i64 0])
                clear h9 hb9
                go_wp2_with (first
                  | (refine wpList_store_bkT rfl 50 _ _ rfl w9.heap.size [.string ⟨#[]⟩, .slice none 0 0, .int .i64 0, .int .i64 0, .int .i64 0, .int .i64 0] rfl rfl 50 [.string ⟨#[]⟩, .slice none 0 0, .int .i64 0, .int .i64 0, .int .i64 0, .int .i64 0] HK9.out rfl info_leaf1 rfl ?_
                     intro w10 hk10 hg10
                     have HB10 := Lib.hid (show Below wr.heap.size wr w10 from (HB9.out.alloc HB9.out.size _).grown hg10.out (by have := HB9.out.size; simp; omega) (fun k e => by injection e with e; have := HB9.out.size; omega))))
                refine (HKD.out _ HB10.out).mono ?_
                intro e w11 h11
                obtain ⟨hb11, rfl⟩ := (show Below w10.heap.size w10 w11 ∧ e = .returned (.tuple #[.slice none 0 0, .int .i64 m]) by
                  unfold KidsP at h11
                  rw [if_neg HM.out] at h11
                  exact h11)
                have HBE := Lib.hid (HTX.out.be.trans ((HB10.out.trans (hb11.mono HB10.out.size)).mono HTX.out.be.size))
                clear h11 hb11
                go_wp2_with fail
                go_ret
                exact ⟨rfl, HBE.out⟩
end Go.Proofs.YtgppclmofphlfaaGreatDoor
