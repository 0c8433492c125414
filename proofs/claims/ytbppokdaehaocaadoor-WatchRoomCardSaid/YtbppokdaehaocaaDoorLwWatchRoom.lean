/-
  WatchRoom: a walk; no statement.
-/
import Derived.Test.YtbppokdaehaocaaDoorWatchScript
import Derived.Deep.CutRange
namespace Go.Proofs.YtbppokdaehaocaaDoor
set_option maxRecDepth 100000
open Go.RowKit
set_option linter.unusedVariables false
set_option maxRecDepth 100000

set_option maxHeartbeats 12800000 in
theorem watchRoom_walk (w : World) (hE : Env w) (v0 : Value) (ops : List Wo) (h0 : InWos w v0 ops) (cl : Int) (hkw : (Lit.int .i64 cl).wf = true) :
    Calls Tryd.prog 6 #[v0, .int .i64 cl] w (Tr w) := by
  obtain ⟨SA, sc, rfl, hso, hbig⟩ := h0
  have HAL := Lib.hid (alive_ok w hE)
  have HGR := Lib.hid (fun W (hW : Below w.heap.size w W) => great_any SA sc ops W (hso.below hW) hbig)
  have HSO := Lib.hid hso
  have HE := Lib.hid hE
  obtain ⟨n, hn⟩ : ∃ n, n = ops.length := ⟨_, rfl⟩
  have HNX := Lib.hid hn
  have hn63 : n ≤ 9223372036854775807 := by have := hso.1; have := hso.2.1; simp only [maxLen] at *; omega
  rw [← hn] at HGR
  rw [← hn]
  clear hso hE hn hbig hkw
  go_enter Tryd.func6, Tryd.ntmps6
  go_wp2_with fail
  refine (HAL.out).mono ?_
  rintro e w1 ⟨rfl, hb1⟩
  have HB1 := Lib.hid hb1
  clear hb1 HAL
  go_wp2_with fail
  refine (HGR.out w1 HB1.out).mono ?_
  rintro e w2 ⟨bg, q, rfl, hgr, rfl⟩
  have HB2 := Lib.hid (below_drewN HB1.out q)
  have HGV := Lib.hid hgr
  clear hgr HGR
  cases bg with
  | true =>
    go_wp2_with fail
    go_ret
    exact ⟨rfl, HB2.out⟩
  | false =>
  have HGN := Lib.hid (HGV.out rfl)
  clear HGV
  have HNW := Lib.hid (newW_any (w1.drewN q))
  go_wp2_with fail
  refine (HNW.out).mono ?_
  intro e w3 h3
  obtain ⟨g, F1, rfl, t1, f1, b3⟩ := WOn.of_new HB2.out h3
  have T1 := Lib.hid t1
  clear h3 t1 f1 b3 HNW
  go_wp2_with fail
  go_loopw [6] (fun i wr => ∃ (k : Nat) (G : Nat → Prop), k ≤ n ∧ i = .int .i64 k ∧ WOn G w g (wFold [] ((wos ops).take k)) wr) (fun i _ => n - (intOf i).toNat)
  case atStart => exact ⟨0, F1, by omega, rfl, T1.out⟩
  case round =>
    obtain ⟨k, G, hk, rfl, htt⟩ := hrel
    by_cases hlt : k < n
    · have hkx : k < ops.length := by have := HNX.out; omega
      have hx : ops[k]? = some ops[k] := List.getElem?_eq_getElem hkx
      obtain ⟨a, B, d, C, e, rfl, hal, s0, s1, s2, s3, -, -, -, -⟩ := (HSO.out.below htt.be).wo6 hx
      have HN1 := Lib.hid (wFold_next [] (wos_at hx))
      generalize ops[k] = o at *
      obtain ⟨what, x, ops1, ops2⟩ := o
      have s1 : wr.cell? ⟨(a.add (k * 6)).block, (a.add (k * 6)).off + 1, none⟩ = some (.int .i64 x.client) := s1
      have s2 : wr.cell? ⟨(a.add (k * 6)).block, (a.add (k * 6)).off + 2, none⟩ = some (.int .i64 x.kind) := s2
      have s3 : wr.cell? ⟨(a.add (k * 6)).block, (a.add (k * 6)).off + 3, none⟩ = some (.string ⟨x.path.toArray⟩) := s3
      have HN1 := Lib.hid (show wFold [] ((wos ops).take (k + 1)) = (wAdd x (wFold [] ((wos ops).take k))).1 from HN1.out)
      generalize wFold [] ((wos ops).take k) = T at *
      have hba := (Below.refl wr.heap.size wr).alloc (Nat.le_refl _) (.cells #[.int .i64 x.client, .int .i64 x.kind, .string ⟨x.path.toArray⟩] 31)
      have HTA := Lib.hid (htt.kept hba)
      have HBX := Lib.hid (show Box3 wr.heap.size x (wr.alloc (.cells #[.int .i64 x.client, .int .i64 x.kind, .string ⟨x.path.toArray⟩] 31)) from (Bk.new wr 31 (wtC x)).three)
      have HNG := Lib.hid (show ¬ G wr.heap.size from fun h => by have := (htt.low _ h).2; omega)
      have HLT := Lib.hid hlt
      have HAL := Lib.hid HTA.out.all
      have y1 : (0 : Int) ≤ (k : Int) := by omega
      have y2 : (k : Int) < (n : Int) := by omega
      obtain ⟨bx, hbx⟩ : ∃ bx, bx = wr.heap.size := ⟨_, rfl⟩
      have HBXE := Lib.hid hbx
      clear htt hx hkx hlt hk hal hba
      go_wp2_with fail
      rw [← hbx] at HBX HNG ⊢
      clear hbx
      refine HAL.out.mono ?_
      rintro e w5 ⟨A1, c1, rfl, ho5, hb5⟩
      have AS1 := Lib.hid (Aside.of_all ho5 HTA.out)
      have T5 := Lib.hid (HTA.out.kept hb5)
      have HB5 := Lib.hid (HBX.out.kept hb5)
      have HL64 := Lib.hid HTA.out.ok.len
      obtain ⟨tn, htn⟩ : ∃ tn, tn = T.length := ⟨_, rfl⟩
      have HTN := Lib.hid htn
      have z4 : tn ≤ 64 := by have := HL64.out; omega
      rw [← htn]
      clear ho5 hb5 htn s0 s1 s2 s3
      go_wp2_with fail
      go_loopw [9, 10, 11] (fun sn st sk wy => ∃ (k2 : Nat) (bt : Bool), k2 ≤ tn ∧ sk = .int .i64 k2 ∧ st = .bool bt ∧ bt = decide (x ∈ T.take k2) ∧ sn = .int .i64 (wOf x.client (T.take k2) : Nat) ∧ Below w5.heap.size w5 wy) (fun _ _ sk _ => tn - (intOf sk).toNat)
      case atStart => exact ⟨0, false, by omega, rfl, rfl, by simp, rfl, Below.refl _ _⟩
      case round =>
        rename World => wy
        obtain ⟨k2, bt, hk2, rfl, rfl, hbt, rfl, hby⟩ := hrel
        by_cases hlt2 : k2 < tn
        · have hix : k2 < T.length := by have := HTN.out; omega
          have hy : T[k2]? = some T[k2] := List.getElem?_eq_getElem hix
          obtain ⟨a1, rfl, _, d0, d1, d2⟩ := (AS1.out.rds.below hby).wt3 hy
          obtain ⟨j0, j1, j2⟩ := HB5.out.kept hby
          have HNX2 := Lib.hid (wOf_next x.client T k2 _ hy)
          have HTK := Lib.hid (show T.take (k2 + 1) = T.take k2 ++ [T[k2]] from take_snoc T k2 hix)
          obtain ⟨m, hm⟩ : ∃ m : Nat, m = wOf x.client (T.take k2) := ⟨_, rfl⟩
          have hml : m ≤ 64 := by have := wOf_le x.client (T.take k2); rw [List.length_take] at this; omega
          rw [← hm]
          rw [← hm] at HNX2
          generalize T[k2] = y at *
          have HBY := Lib.hid hby
          have HLT2 := Lib.hid hlt2
          have HBT := Lib.hid hbt
          have y3 : (0 : Int) ≤ (k2 : Int) := by omega
          have y4 : (k2 : Int) < (tn : Int) := by omega
          clear hm hy hix hlt2 hby hbt hk2
          cases bt with
          | true =>
            have HBT2 := Lib.hid (show true = decide (x ∈ T.take (k2 + 1)) by rw [HTK.out]; have := HBT.out; symm; simp at this ⊢; exact .inl this)
            by_cases hc : y.client = x.client
            · rw [if_pos hc] at HNX2
              have q3 : (y.client == x.client) = true := by simpa using hc
              clear hc
              go_upto_region 18 with fail
              go_quiet (fail)
              go_upto_region 19 with fail
              go_quiet (fail)
              go_wp2_with fail
              go_roundw
              case rel => exact ⟨k2 + 1, true, HLT2.out, by go_num, rfl, HBT2.out, by rw [HNX2.out]; go_num, below_drewN HBY.out _⟩
              case measure => have := HLT2.out; simp [intOf]; omega
            · rw [if_neg hc] at HNX2
              have q3 : (y.client == x.client) = false := by simpa using hc
              clear hc
              go_upto_region 18 with fail
              go_quiet (fail)
              go_upto_region 19 with fail
              go_quiet (fail)
              go_wp2_with fail
              go_roundw
              case rel => exact ⟨k2 + 1, true, HLT2.out, by go_num, rfl, HBT2.out, by rw [HNX2.out]; rfl, below_drewN HBY.out _⟩
              case measure => have := HLT2.out; simp [intOf]; omega
          | false =>
            by_cases hxy : y = x
            · have HBT2 := Lib.hid (show true = decide (x ∈ T.take (k2 + 1)) by rw [HTK.out]; simp [hxy])
              have heq := eql_wt y x true (decide_eq_true hxy)
              clear hxy
              by_cases hc : y.client = x.client
              · rw [if_pos hc] at HNX2
                have q3 : (y.client == x.client) = true := by simpa using hc
                clear hc
                go_upto_region 18 with fail
                go_quiet (fail)
                go_upto_region 19 with fail
                go_quiet (fail)
                go_wp2_with fail
                go_roundw
                case rel => exact ⟨k2 + 1, true, HLT2.out, by go_num, rfl, HBT2.out, by rw [HNX2.out]; go_num, below_drewN HBY.out _⟩
                case measure => have := HLT2.out; simp [intOf]; omega
              · rw [if_neg hc] at HNX2
                have q3 : (y.client == x.client) = false := by simpa using hc
                clear hc
                go_upto_region 18 with fail
                go_quiet (fail)
                go_upto_region 19 with fail
                go_quiet (fail)
                go_wp2_with fail
                go_roundw
                case rel => exact ⟨k2 + 1, true, HLT2.out, by go_num, rfl, HBT2.out, by rw [HNX2.out]; rfl, below_drewN HBY.out _⟩
                case measure => have := HLT2.out; simp [intOf]; omega
            · have HBT2 := Lib.hid (show false = decide (x ∈ T.take (k2 + 1)) by
                rw [HTK.out]
                have := HBT.out
                symm
                simp at this ⊢
                exact ⟨this, fun e => hxy e.symm⟩)
              have heq := eql_wt y x false (decide_eq_false hxy)
              clear hxy
              by_cases hc : y.client = x.client
              · rw [if_pos hc] at HNX2
                have q3 : (y.client == x.client) = true := by simpa using hc
                clear hc
                go_upto_region 18 with fail
                go_quiet (fail)
                go_upto_region 19 with fail
                go_quiet (fail)
                go_wp2_with fail
                go_roundw
                case rel => exact ⟨k2 + 1, false, HLT2.out, by go_num, rfl, HBT2.out, by rw [HNX2.out]; go_num, below_drewN HBY.out _⟩
                case measure => have := HLT2.out; simp [intOf]; omega
              · rw [if_neg hc] at HNX2
                have q3 : (y.client == x.client) = false := by simpa using hc
                clear hc
                go_upto_region 18 with fail
                go_quiet (fail)
                go_upto_region 19 with fail
                go_quiet (fail)
                go_wp2_with fail
                go_roundw
                case rel => exact ⟨k2 + 1, false, HLT2.out, by go_num, rfl, HBT2.out, by rw [HNX2.out]; rfl, below_drewN HBY.out _⟩
                case measure => have := HLT2.out; simp [intOf]; omega
        · rw [List.take_of_length_le (by have := HTN.out; omega)] at hbt ⊢
          have HBY := Lib.hid hby
          have AS6 := Lib.hid (AS1.out.kept hby)
          have T6 := Lib.hid (T5.out.kept hby)
          have HB6 := Lib.hid (HB5.out.kept hby)
          obtain ⟨m, hm⟩ : ∃ m : Nat, m = wOf x.client T := ⟨_, rfl⟩
          have HM := Lib.hid hm
          have hml : m ≤ 64 := by have := wOf_le x.client T; have := HL64.out; omega
          rw [← hm]
          have HBT := Lib.hid hbt
          have HAD := Lib.hid (T6.out.add HE.out x)
          obtain ⟨j0, j1, j2⟩ := HB6.out
          obtain ⟨ev, hev⟩ : ∃ ev, ev = (wAdd x T).2 := ⟨_, rfl⟩
          have HEV := Lib.hid hev
          rw [← hev] at HAD
          clear hm hby hbt hk2 hev
          go_wp2_with fail
          refine HAD.out.mono ?_
          rintro e w7 ⟨rfl, G2, t7, f7, cg7⟩
          have T7 := Lib.hid t7
          have AS7 := Lib.hid (AS6.out.did cg7 f7)
          have hb7 := HB6.out.did cg7 HNG.out
          have HB7 := Lib.hid hb7
          have HRG := Lib.hid (right_any x w7 (t7.env HE.out))
          obtain ⟨j0, j1, j2⟩ := hb7
          clear t7 f7 cg7 HAD
          cases hr : wRight x with
          | false =>
            have HA := Lib.hid (show (wAdd x T).1 = T ∧ (wAdd x T).2 = 90 by unfold wAdd; rw [if_pos hr]; exact ⟨rfl, rfl⟩)
            rw [hr] at HRG
            have hev2 : ev = 90 := by rw [HEV.out, HA.out.2]
            subst hev2
            rw [HA.out.1] at T7 HN1
            clear hr
            go_wp2_with fail
            refine HRG.out.mono ?_
            rintro e w8 ⟨rfl, hb8⟩
            have T8 := Lib.hid (T7.out.kept hb8)
            have AS8 := Lib.hid (AS7.out.kept hb8)
            clear hb8 HRG j0 j1 j2
            go_wp2_with fail
            refine T8.out.all.mono ?_
            rintro e w9 ⟨A9, c9, rfl, ho9, hb9⟩
            have T9 := Lib.hid (T8.out.kept hb9)
            have HSM := Lib.hid (show Calls Tryd.prog 17 #[.slice A9 T.length c9, .slice A1 tn c1] w9 (Ans (.bool true) w9) from by
              have := sameW_any A9 A1 c9 c1 w9 AllB AllB T T (ho9.rds fun _ _ => trivial) ((AS8.out.kept hb9).rds) (by have := HL64.out; omega)
              rw [decide_eq_true rfl] at this
              rwa [HTN.out])
            clear ho9 hb9
            go_wp2_with fail
            refine HSM.out.mono ?_
            rintro e w10 ⟨rfl, hb10⟩
            have T10 := Lib.hid (T9.out.kept hb10)
            clear hb10
            go_wp2_with fail
            go_roundw
            case rel => exact ⟨k + 1, G2, HLT.out, by go_num, by rw [HN1.out]; exact T10.out⟩
            case measure => have := HLT.out; simp [intOf]; omega
          | true =>
            rw [hr] at HRG
            have HRT := Lib.hid hr
            clear hr
            cases bt with
            | true =>
              have HIN := Lib.hid (show x ∈ T by have := HBT.out; simpa using this.symm)
              have HA := Lib.hid (show (wAdd x T).1 = T ∧ (wAdd x T).2 = 0 by unfold wAdd; rw [if_neg (by rw [HRT.out]; simp), if_pos HIN.out]; exact ⟨rfl, rfl⟩)
              have hev2 : ev = 0 := by rw [HEV.out, HA.out.2]
              subst hev2
              rw [HA.out.1] at T7 HN1
              go_wp2_with fail
              refine HRG.out.mono ?_
              rintro e w8 ⟨rfl, hb8⟩
              have T8 := Lib.hid (T7.out.kept hb8)
              clear hb8 HRG j0 j1 j2
              go_wp2_with fail
              refine T8.out.all.mono ?_
              rintro e w9 ⟨A9, c9, rfl, -, hb9⟩
              have T9 := Lib.hid (T8.out.kept hb9)
              rw [← HTN.out]
              clear hb9
              go_wp2_with fail
              go_roundw
              case rel => exact ⟨k + 1, G2, HLT.out, by go_num, by rw [HN1.out]; exact T9.out⟩
              case measure => have := HLT.out; simp [intOf]; omega
            | false =>
              have HIN := Lib.hid (show x ∉ T by have := HBT.out; simpa using this.symm)
              by_cases h8 : 8 ≤ m
              · have HA := Lib.hid (show (wAdd x T).1 = T ∧ (wAdd x T).2 = 104 by unfold wAdd; rw [if_neg (by rw [HRT.out]; simp), if_neg HIN.out, if_pos (by have := HM.out; omega)]; exact ⟨rfl, rfl⟩)
                have hev2 : ev = 104 := by rw [HEV.out, HA.out.2]
                subst hev2
                rw [HA.out.1] at T7 HN1
                have y5 : ¬ (m : Int) < 8 := by omega
                go_wp2_with fail
                refine HRG.out.mono ?_
                rintro e w8 ⟨rfl, hb8⟩
                have T8 := Lib.hid (T7.out.kept hb8)
                clear hb8 HRG j0 j1 j2
                go_wp2_with fail
                go_roundw
                case rel => exact ⟨k + 1, G2, HLT.out, by go_num, by rw [HN1.out]; exact T8.out⟩
                case measure => have := HLT.out; simp [intOf]; omega
              · have HA := Lib.hid (show (wAdd x T).1 = wIns x T ∧ (wAdd x T).2 = 0 by unfold wAdd; rw [if_neg (by rw [HRT.out]; simp), if_neg HIN.out, if_neg (by have := HM.out; omega)]; exact ⟨rfl, rfl⟩)
                have hev2 : ev = 0 := by rw [HEV.out, HA.out.2]
                subst hev2
                have HLI := Lib.hid (show (wAdd x T).1.length = tn + 1 by rw [HA.out.1, wIns_len, HTN.out])
                have y5 : (m : Int) < 8 := by omega
                have y6 : ((tn : Int) + 1 == (tn : Int)) = false := by rw [beq_eq_false_iff_ne]; omega
                go_wp2_with fail
                refine HRG.out.mono ?_
                rintro e w8 ⟨rfl, hb8⟩
                have T8 := Lib.hid (T7.out.kept hb8)
                clear hb8 HRG j0 j1 j2
                go_wp2_with fail
                refine T8.out.all.mono ?_
                rintro e w9 ⟨A9, c9, rfl, -, hb9⟩
                have T9 := Lib.hid (T8.out.kept hb9)
                rw [HLI.out]
                clear hb9
                go_wp2_with fail
                go_roundw
                case rel => exact ⟨k + 1, G2, HLT.out, by go_num, by rw [HN1.out]; exact T9.out⟩
                case measure => have := HLT.out; simp [intOf]; omega
    · rw [List.take_of_length_le (by rw [wos_len]; have := HNX.out; omega)] at htt
      generalize wFold [] (wos ops) = T at *
      have hba := (Below.refl wr.heap.size wr).alloc (Nat.le_refl _) (.cells #[.int .i64 cl] 3)
      have HDR := Lib.hid ((htt.kept hba).drop (some ⟨wr.heap.size, 0, none⟩) 1 1 [cl] (Rd.new wr [.int .i64 cl] 3) (by decide))
      clear htt hba hk
      go_wp2_with fail
      refine HDR.out.mono ?_
      rintro e w5 ⟨rfl, F5, t5, -, -⟩
      have T5 := Lib.hid t5
      clear t5 HDR
      go_wp2_with fail
      refine T5.out.all.mono ?_
      rintro e w6 ⟨A6, c6, rfl, ho6, hb6⟩
      have AS6 := Lib.hid (Aside.of_all ho6 T5.out)
      have T6 := Lib.hid (T5.out.kept hb6)
      have HNO := Lib.hid (fun (y : Wt) (hy : y ∈ wDrop [cl] T) => show (y.client == cl) = false by
        unfold wDrop at hy
        have := (List.mem_filter.1 hy).2
        simpa using this)
      have HL6 := Lib.hid T5.out.ok.len
      generalize wDrop [cl] T = D at *
      obtain ⟨dn, hdn⟩ : ∃ dn, dn = D.length := ⟨_, rfl⟩
      have HDN := Lib.hid hdn
      have z5 : dn ≤ 64 := by have := HL6.out; omega
      rw [← hdn]
      clear ho6 hb6 hdn
      go_wp2_with fail
      go_loopw [14] (fun si wz => ∃ (i : Nat), i ≤ dn ∧ si = .int .i64 i ∧ Below w6.heap.size w6 wz) (fun si _ => dn - (intOf si).toNat)
      case atStart => exact ⟨0, by omega, rfl, Below.refl _ _⟩
      case round =>
        rename World => wz
        obtain ⟨i, hi, rfl, hbz⟩ := hrel
        by_cases hlt2 : i < dn
        · have hix : i < D.length := by have := HDN.out; omega
          have hy : D[i]? = some D[i] := List.getElem?_eq_getElem hix
          obtain ⟨a1, rfl, _, d0, d1, d2⟩ := (AS6.out.rds.below hbz).wt3 hy
          have q1 := HNO.out D[i] (List.getElem_mem hix)
          generalize D[i] = y at *
          have HBZ := Lib.hid hbz
          have HLT2 := Lib.hid hlt2
          have y1 : (0 : Int) ≤ (i : Int) := by omega
          have y2 : (i : Int) < (dn : Int) := by omega
          clear hix hy hbz hlt2
          go_wp2_with fail
          go_roundw
          case rel => exact ⟨i + 1, HLT2.out, by go_num, HBZ.out⟩
          case measure => have := HLT2.out; simp [intOf]; omega
        · have HBZ := Lib.hid (T6.out.kept hbz)
          clear hbz
          go_wp2_with fail
          go_ret
          exact ⟨rfl, HBZ.out.be⟩
end Go.Proofs.YtbppokdaehaocaaDoor
