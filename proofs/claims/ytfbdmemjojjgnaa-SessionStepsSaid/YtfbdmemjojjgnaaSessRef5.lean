/-
  The reference's sessions: Open. A walk; no statement.
-/
import Derived.Test.YtfbdmemjojjgnaaSessRef3
import Derived.Deep.RegionHeld3
namespace Go.Proofs.Ytfbdmemjojjgnaa
set_option maxRecDepth 100000
open Go.RowKit
set_option linter.unusedVariables false

theorem seIns_none {x : Se} : ∀ {l : List Se}, (∀ z ∈ l, ¬ x.client < z.client) → seIns x l = l ++ [x]
  | [], _ => rfl
  | y :: r, h => by
    unfold seIns
    rw [if_neg (h y (List.mem_cons_self ..)), seIns_none fun z hz => h z (List.mem_cons_of_mem _ hz)]
    rfl
theorem seIns_snoc {x y : Se} : ∀ {l : List Se}, (∃ z ∈ l, x.client < z.client) → seIns x (l ++ [y]) = seIns x l ++ [y]
  | [], h => by obtain ⟨z, hz, _⟩ := h; cases hz
  | u :: r, h => by
    rw [List.cons_append]
    unfold seIns
    by_cases hu : x.client < u.client
    · rw [if_pos hu, if_pos hu]; rfl
    · rw [if_neg hu, if_neg hu, seIns_snoc (by
        obtain ⟨z, hz, hxz⟩ := h
        rcases List.mem_cons.1 hz with e | e
        · subst e; exact absurd hxz hu
        · exact ⟨z, e, hxz⟩)]
      rfl
theorem seIns_here {x y : Se} : ∀ {l : List Se}, (∀ z ∈ l, ¬ x.client < z.client) → x.client < y.client → seIns x (l ++ [y]) = l ++ [x] ++ [y]
  | [], _, h => by rw [List.nil_append]; unfold seIns; rw [if_pos h]; rfl
  | u :: r, hn, h => by
    rw [List.cons_append]
    unfold seIns
    rw [if_neg (hn u (List.mem_cons_self ..)), seIns_here (fun z hz => hn z (List.mem_cons_of_mem _ hz)) h]
    rfl
/-- how the loop stands: the first i are taken over, the new one among them or not -/
def PutAt (x : Se) (t : List Se) (i : Nat) (put : Bool) (out : List Se) : Prop :=
  match put with
  | true => (∃ z ∈ t.take i, x.client < z.client) ∧ out = seIns x (t.take i)
  | false => (∀ z ∈ t.take i, ¬ x.client < z.client) ∧ out = t.take i
theorem PutAt.on {x y : Se} {t : List Se} {i : Nat} {out : List Se} (h : PutAt x t i true out) (hy : t[i]? = some y) : PutAt x t (i + 1) true (out ++ [y]) := by
  obtain ⟨hk, e⟩ := List.getElem?_eq_some_iff.1 hy
  obtain ⟨h2, h3⟩ := h
  unfold PutAt
  rw [take_snoc t i hk, e]
  refine ⟨?_, ?_⟩
  · obtain ⟨z, hz, q⟩ := h2
    exact ⟨z, List.mem_append_left _ hz, q⟩
  · rw [seIns_snoc h2, h3]
theorem PutAt.put {x y : Se} {t : List Se} {i : Nat} {out : List Se} (h : PutAt x t i false out) (hy : t[i]? = some y) (hl : x.client < y.client) : PutAt x t (i + 1) true (out ++ [x] ++ [y]) := by
  obtain ⟨hk, e⟩ := List.getElem?_eq_some_iff.1 hy
  obtain ⟨h2, h3⟩ := h
  unfold PutAt
  rw [take_snoc t i hk, e]
  refine ⟨⟨y, by simp, hl⟩, ?_⟩
  rw [seIns_here h2 hl, h3]
theorem PutAt.off {x y : Se} {t : List Se} {i : Nat} {out : List Se} (h : PutAt x t i false out) (hy : t[i]? = some y) (hl : ¬ x.client < y.client) : PutAt x t (i + 1) false (out ++ [y]) := by
  obtain ⟨hk, e⟩ := List.getElem?_eq_some_iff.1 hy
  obtain ⟨h2, h3⟩ := h
  unfold PutAt
  rw [take_snoc t i hk, e]
  exact ⟨fun z hz => (List.mem_append.1 hz).elim (h2 z) fun q => by rw [List.mem_singleton.1 q]; exact hl, by rw [h3]⟩
theorem PutAt.len {x : Se} {t : List Se} {i n1 base c1 : Nat} {put : Bool} {out : List Se} {A1 : Option Addr} {w : World} (h : PutAt x t i put out) (ho : OwnE w base A1 n1 c1 out) : n1 ≤ i + 1 := by
  have hl := ho.len
  cases put with
  | true => rw [h.2, seIns_len, List.length_take] at hl; omega
  | false => rw [h.2, List.length_take] at hl; omega
/-- the three cells of a session's box -/
theorem Bk.threeE {w : World} {g : Nat} {t : TypeId} {a b c : Value} (h : Bk w g t [a, b, c]) : w.cell? ⟨g, 0, none⟩ = some a ∧ w.cell? ⟨g, 1, none⟩ = some b ∧ w.cell? ⟨g, 2, none⟩ = some c := ⟨h.at_ rfl, h.at_ rfl, h.at_ rfl⟩
set_option maxHeartbeats 12800000 in
theorem refOpen_any (A : Option Addr) (c : Nat) (t : List Se) (F : Nat → Prop) (x : Se) (w : World) (h : RdS RSe F w A c t) (hn : t.length ≤ 1000) :
    Calls Try.prog 15 #[.agg #[.slice A t.length c], .int .i64 x.client, .int .i64 x.span, .int .i64 x.seen] w (RefB F [.int .i64 (seOpen x t).2] (seOpen x t).1 w) := by
  obtain ⟨W3, hW3⟩ : ∃ W3, W3 = ((w.alloc (.cells #[.slice A t.length c] 29)).alloc (.cells #[.slice none 0 0] 29)).alloc (.cells #[.int .i64 x.client, .int .i64 x.span, .int .i64 x.seen] 36) := ⟨_, rfl⟩
  have hb3 : Below w.heap.size w W3 := by rw [hW3]; exact (((Below.refl w.heap.size w).alloc (Nat.le_refl _) _).alloc (by simp) _).alloc (by simp; omega) _
  have hs3 : W3.heap.size = w.heap.size + 3 := by rw [hW3]; simp
  have K0 : Bk W3 w.heap.size 29 [.slice A t.length c] := by rw [hW3]; exact ((Bk.new w 29 [.slice A t.length c]).alloc _).alloc _
  have K1 : Bk W3 (w.heap.size + 1) 29 [.slice none 0 0] := by rw [hW3]; exact (bk_new2 w _ [.slice none 0 0] _).alloc _
  have K2 : Bk W3 (w.heap.size + 2) 36 (seC x) := by
    rw [hW3]
    have := bk_new2 (w.alloc (.cells #[.slice A t.length c] 29)) (.cells #[.slice none 0 0] 29) (seC x) 36
    rw [show (w.alloc (.cells #[.slice A t.length c] 29)).heap.size + 1 = w.heap.size + 2 by simp] at this
    exact this
  have HKW := Lib.hid (fun X (hX : Below (w.heap.size + 3) W3 X) => (⟨(K0.below hX (by omega)).at_ rfl, (K2.below hX (by omega)).threeE, (K1.below hX (by omega)).frozen 0, (K0.below hX (by omega)).frozen 0, K1.below hX (by omega), hb3.trans (hX.mono (by omega)), by have := hX.size; omega⟩ :
    X.cell? ⟨w.heap.size, 0, none⟩ = some (.slice A t.length c) ∧ (X.cell? ⟨w.heap.size + 2, 0, none⟩ = some (.int .i64 x.client) ∧ X.cell? ⟨w.heap.size + 2, 1, none⟩ = some (.int .i64 x.span) ∧ X.cell? ⟨w.heap.size + 2, 2, none⟩ = some (.int .i64 x.seen)) ∧ X.frozen? ⟨w.heap.size + 1, 0, none⟩ = false ∧ X.frozen? ⟨w.heap.size, 0, none⟩ = false ∧ Bk X (w.heap.size + 1) 29 [.slice none 0 0] ∧ Below w.heap.size w X ∧ w.heap.size + 3 ≤ X.heap.size))
  have HX := Lib.hid h
  have HWE := Lib.hid hW3
  have HS3 := Lib.hid hs3
  have HNT := Lib.hid hn
  have HRG := Lib.hid (fun W => refRightE_any x W)
  have hB0 : Below (w.heap.size + 3) W3 W3 := Below.refl _ _
  have HB0 := Lib.hid hB0
  obtain ⟨j0, ⟨b0, b1, b2⟩, z2, z0, kr, hbw, -⟩ := HKW.out W3 hB0
  have m0 := kr.at_ (i := 0) rfl
  obtain ⟨n, hnl⟩ : ∃ n, n = t.length := ⟨_, rfl⟩
  have HL := Lib.hid hnl.symm
  have hn1 : n ≤ 1000 := by omega
  have HLV := Lib.hid (fun W (hW : Below (w.heap.size + 3) W3 W) => show Calls Try.prog 26 #[.agg #[.slice A n c], .int .i64 x.client] W (Ans (.bool (seLive x.client t)) W) from by
    have := refLive_any A c t F x.client W (HX.out.below (HKW.out W hW).2.2.2.2.2.1) HNT.out
    rwa [HL.out] at this)
  rw [← hnl] at HKW HWE j0
  rw [← hnl]
  cases hr : seRight x with
  | false =>
    have HA := Lib.hid (show (seOpen x t).1 = t ∧ (seOpen x t).2 = 120 by unfold seOpen; rw [if_pos hr]; exact ⟨rfl, rfl⟩)
    rw [hr] at HRG
    clear hr h hW3 hb3 hs3 K0 K1 K2 hB0 hnl hn kr hbw
    go_enter Try.func15, Try.ntmps15
    go_wp2_with fail
    rw [← HWE.out]
    refine (HRG.out _).mono ?_
    rintro e w4 ⟨rfl, hb4⟩
    obtain ⟨j0, ⟨e0, e1, e2⟩, z2, z0, kr, hbw, -⟩ := HKW.out w4 (HB0.out.trans (by rw [← HS3.out]; exact hb4))
    have HBW := Lib.hid hbw
    have HKR := Lib.hid kr
    have m2 := kr.at_ (i := 0) rfl
    clear hb4 b0 b1 b2 m0 kr hbw
    go_wp2_with fail
    have kk := HKR.out.set 0 (.slice A n c)
    refine bodyPost_ret_by (results_row_tmp rfl _ _ (w.heap.size + 1) 29 _ _ rfl kk Try.underlying29 rfl info_rbook1) rfl ?_
    rw [HA.out.1, HA.out.2, ← HL.out]
    exact refb_exit HX.out HBW.out (by omega) _ [.int .i64 120]
  | true =>
    rw [hr] at HRG
    have HRT := Lib.hid hr
    obtain ⟨lv, hlv⟩ : ∃ lv, lv = seLive x.client t := ⟨_, rfl⟩
    have HVV := Lib.hid hlv
    rw [← hlv] at HLV
    clear hr h hW3 hb3 hs3 K0 K1 K2 hB0 hnl hn kr hbw hlv
    go_enter Try.func15, Try.ntmps15
    go_wp2_with fail
    rw [← HWE.out]
    refine (HRG.out _).mono ?_
    rintro e w4 ⟨rfl, hb4⟩
    have hbx4 : Below (w.heap.size + 3) W3 w4 := HB0.out.trans (by rw [← HS3.out]; exact hb4)
    have HBX4 := Lib.hid hbx4
    have HLW := Lib.hid (HLV.out w4 hbx4)
    obtain ⟨j4, -, -, -, -, -, hs4⟩ := HKW.out w4 hbx4
    have HS4 := Lib.hid hs4
    clear hb4 b0 b1 b2 m0 hbx4 j0 z0 z2 hs4
    go_wp2_with fail
    refine HLW.out.mono ?_
    rintro e w5 ⟨rfl, hb5⟩
    have hbx5 := HBX4.out.trans (hb5.mono HS4.out)
    cases lv with
    | true =>
      have HA := Lib.hid (show (seOpen x t).1 = t ∧ (seOpen x t).2 = 101 by unfold seOpen; rw [if_neg (by rw [HRT.out]; simp), if_pos HVV.out.symm]; exact ⟨rfl, rfl⟩)
      obtain ⟨j0, -, z2, z0, kr, hbw, -⟩ := HKW.out w5 hbx5
      have HBW := Lib.hid hbw
      have HKR := Lib.hid kr
      have m2 := kr.at_ (i := 0) rfl
      clear hb5 hbx5 kr hbw j4
      go_wp2_with fail
      have kk := HKR.out.set 0 (.slice A n c)
      refine bodyPost_ret_by (results_row_tmp rfl _ _ (w.heap.size + 1) 29 _ _ rfl kk Try.underlying29 rfl info_rbook1) rfl ?_
      rw [HA.out.1, HA.out.2, ← HL.out]
      exact refb_exit HX.out HBW.out (by omega) _ [.int .i64 101]
    | false =>
      have HA := Lib.hid (show (seOpen x t).1 = seIns x t ∧ (seOpen x t).2 = 0 by unfold seOpen; rw [if_neg (by rw [HRT.out]; simp), if_neg (by rw [← HVV.out]; simp)]; exact ⟨rfl, rfl⟩)
      have hs5 := (HKW.out w5 hbx5).2.2.2.2.2.2
      have HO5 := Lib.hid ((ownE_empty w5).more (base' := w.heap.size + 3) hs5)
      have HB5 := Lib.hid (hbx5.alloc hs5 (.cells #[] 36))
      clear hb5 hbx5 hs5 j4
      go_wp2_with fail
      go_loopw [11, 12, 13] (fun so sp si wr => ∃ (A1 : Option Addr) (n1 c1 i : Nat) (put : Bool) (out : List Se), i ≤ n ∧ so = .slice A1 n1 c1 ∧ sp = .bool put ∧ si = .int .i64 i ∧ PutAt x t i put out ∧ OwnE wr (w.heap.size + 3) A1 n1 c1 out ∧ n1 ≤ i + 1 ∧ Below (w.heap.size + 3) W3 wr) (fun _ _ si _ => n - (intOf si).toNat)
      case atStart => exact ⟨_, 0, 0, 0, false, [], by omega, rfl, rfl, rfl, ⟨by simp, by simp⟩, HO5.out, by omega, HB5.out⟩
      case round =>
        obtain ⟨A1, n1, c1, i, put, out, hi, rfl, rfl, rfl, hat, ho, hn1i, hbx⟩ := hrel
        obtain ⟨j0, ⟨b0, b1, b2⟩, z2, z0, kr, hbw, hs5⟩ := HKW.out wr hbx
        by_cases hlt : i < n
        · have hix : i < t.length := by have := HL.out; omega
          have hy : t[i]? = some t[i] := List.getElem?_eq_getElem hix
          obtain ⟨a, rfl, hal, d0, d1, d2⟩ := (HX.out.below hbw).se3 hy
          have HY := Lib.hid hy
          generalize t[i] = y at *
          have HAT := Lib.hid hat
          have HO := Lib.hid ho
          have HBX := Lib.hid hbx
          have HLT := Lib.hid hlt
          have HS5 := Lib.hid hs5
          have y1 : (0 : Int) ≤ (i : Int) := by omega
          have y2 : (i : Int) < (n : Int) := by omega
          have y3 : n1 ≤ 2000 := by omega
          have HN1 := Lib.hid hn1i
          clear hat ho hbx hbw hlt hy hix hal kr hs5 hn1i hi z2 z0
          cases put with
          | true =>
            have HATN := Lib.hid (HAT.out.on HY.out)
            go_wp2_with (at_builtin; refine wpList_app_se rfl _ _ rfl (w.heap.size + 3) A1 n1 c1 _ rfl (HO.out.alloc _) ⟨wr.heap.size, 0, none⟩ y rfl (news_se wr y) (by omega) (by have := HS5.out; simp; omega) ?_; intro A7 c7 w7 HO7 HG7 HR7)
            go_roundw
            case rel => exact ⟨A7, n1 + 1, c7, i + 1, true, out ++ [y], HLT.out, rfl, rfl, by go_num, HATN.out, HO7.out, by have := HN1.out; omega, (HBX.out.alloc HS5.out _).grown HG7.out (by have := HS5.out; simp; omega) (fun b hb => HO.out.block b hb)⟩
            case measure => have := HLT.out; simp [intOf]; omega
          | false =>
            by_cases hl : x.client < y.client
            · have q1 : decide (x.client < y.client) = true := decide_eq_true hl
              have HATN := Lib.hid (HAT.out.put HY.out hl)
              clear hl
              go_wp2_with (first
                | (at_builtin; refine wpList_app_se rfl _ _ rfl (w.heap.size + 3) A1 n1 c1 _ rfl (HO.out.alloc _) ⟨wr.heap.size, 0, none⟩ x rfl (news_se wr x) (by omega) (by have := HS5.out; simp; omega) ?_; intro A7 c7 w7 HO7 HG7 HR7; have HB7 := Lib.hid ((HBX.out.alloc HS5.out (.cells #[.int .i64 x.client, .int .i64 x.span, .int .i64 x.seen] 36)).grown HG7.out (by have := HS5.out; simp; omega) (fun b hb => HO.out.block b hb)); have HBW7 := Lib.hid (HKW.out w7 HB7.out).2.2.2.2.2.1; obtain ⟨j9, -⟩ := HKW.out w7 HB7.out; obtain ⟨a9, e9, _, f0, f1, f2⟩ := (HX.out.below HBW7.out).se3 HY.out; obtain rfl := Option.some.inj e9; have HS7 := Lib.hid (HKW.out w7 HB7.out).2.2.2.2.2.2)
                | (at_builtin; refine wpList_app_se rfl _ _ rfl (w.heap.size + 3) A7 (n1 + 1) c7 _ rfl (HO7.out.alloc _) ⟨w7.heap.size, 0, none⟩ y rfl (news_se w7 y) (by omega) (by have := HS7.out; simp; omega) ?_; intro A8 c8 w8 HO8 HG8 HR8))
              go_roundw
              case rel => exact ⟨A8, n1 + 1 + 1, c8, i + 1, true, out ++ [x] ++ [y], HLT.out, rfl, rfl, by go_num, HATN.out, HO8.out, by have := PutAt.len HATN.out HO8.out; omega, (HB7.out.alloc HS7.out _).grown HG8.out (by have := HS7.out; simp; omega) (fun b hb => HO7.out.block b hb)⟩
              case measure => have := HLT.out; simp [intOf]; omega
            · have q1 : decide (x.client < y.client) = false := decide_eq_false hl
              have HATN := Lib.hid (HAT.out.off HY.out hl)
              clear hl
              go_wp2_with (at_builtin; refine wpList_app_se rfl _ _ rfl (w.heap.size + 3) A1 n1 c1 _ rfl (HO.out.alloc _) ⟨wr.heap.size, 0, none⟩ y rfl (news_se wr y) (by omega) (by have := HS5.out; simp; omega) ?_; intro A7 c7 w7 HO7 HG7 HR7)
              go_roundw
              case rel => exact ⟨A7, n1 + 1, c7, i + 1, false, out ++ [y], HLT.out, rfl, rfl, by go_num, HATN.out, HO7.out, by have := HN1.out; omega, (HBX.out.alloc HS5.out _).grown HG7.out (by have := HS5.out; simp; omega) (fun b hb => HO.out.block b hb)⟩
              case measure => have := HLT.out; simp [intOf]; omega
        · have HTK := Lib.hid (show t.take i = t from List.take_of_length_le (by have := HL.out; omega))
          have HAT := Lib.hid hat
          have HO := Lib.hid ho
          have HBX := Lib.hid hbx
          have HBW := Lib.hid hbw
          have HS5 := Lib.hid hs5
          have HKR := Lib.hid kr
          have m2 := kr.at_ (i := 0) rfl
          have y3 : n1 ≤ 2000 := by omega
          clear hat ho hbx hbw kr hs5 hn1i hi
          cases put with
          | true =>
            have HE := Lib.hid (show out = seIns x t by have := HAT.out.2; rwa [HTK.out] at this)
            go_wp2_with fail
            have kk := (HKR.out.far (p := ⟨w.heap.size, 0, none⟩) (by show w.heap.size + 1 ≠ w.heap.size; omega) (.slice A1 n1 c1)).set 0 (.slice A1 n1 c1)
            refine bodyPost_ret_by (results_row_tmp rfl _ _ (w.heap.size + 1) 29 _ _ rfl kk Try.underlying29 rfl info_rbook1) rfl ?_
            rw [HA.out.1, HA.out.2, ← HE.out]
            have g0 := grown_set (grown_refl wr (some w.heap.size)) 0 (.slice A1 n1 c1)
            exact refb_done (HBW.out.grown g0 HBW.out.size (fun b hb => Nat.le_of_eq (Option.some.inj hb))) (World.ownsRow.kept HO.out g0 (.inr fun e => by have := HO.out.block _ e; omega)) (by omega) (show w.heap.size + 1 < w.heap.size + 3 by omega) _ [.int .i64 0]
          | false =>
            have HE := Lib.hid (show out ++ [x] = seIns x t by have h1 := HAT.out.1; have h2 := HAT.out.2; rw [HTK.out] at h1 h2; rw [h2, seIns_none h1])
            go_wp2_with (at_builtin; refine wpList_app_se rfl _ _ rfl (w.heap.size + 3) A1 n1 c1 _ rfl (HO.out.alloc _) ⟨wr.heap.size, 0, none⟩ x rfl (news_se wr x) (by omega) (by have := HS5.out; simp; omega) ?_; intro A7 c7 w7 HO7 HG7 HR7; have HB7 := Lib.hid ((HBX.out.alloc HS5.out (.cells #[.int .i64 x.client, .int .i64 x.span, .int .i64 x.seen] 36)).grown HG7.out (by have := HS5.out; simp; omega) (fun b hb => HO.out.block b hb)); obtain ⟨p0, -, p1, p2, kr7, hbw7, -⟩ := HKW.out w7 HB7.out; have HKR7 := Lib.hid kr7; have HBW7 := Lib.hid hbw7; have p3 := kr7.at_ (i := 0) rfl; clear kr7 hbw7)
            have kk := (HKR7.out.far (p := ⟨w.heap.size, 0, none⟩) (by show w.heap.size + 1 ≠ w.heap.size; omega) (.slice A7 (n1 + 1) c7)).set 0 (.slice A7 (n1 + 1) c7)
            refine bodyPost_ret_by (results_row_tmp rfl _ _ (w.heap.size + 1) 29 _ _ rfl kk Try.underlying29 rfl info_rbook1) rfl ?_
            rw [HA.out.1, HA.out.2, ← HE.out]
            have g0 := grown_set (grown_refl w7 (some w.heap.size)) 0 (.slice A7 (n1 + 1) c7)
            exact refb_done (HBW7.out.grown g0 HBW7.out.size (fun b hb => Nat.le_of_eq (Option.some.inj hb))) (World.ownsRow.kept HO7.out g0 (.inr fun e => by have := HO7.out.block _ e; omega)) (by omega) (show w.heap.size + 1 < w.heap.size + 3 by omega) _ [.int .i64 0]
end Go.Proofs.Ytfbdmemjojjgnaa
