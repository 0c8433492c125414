/-
  The reference's sessions: Touch. A walk; no statement.
-/
import Derived.Test.YtfbdmemjojjgnaaSessRef2
namespace Go.Proofs.Ytfbdmemjojjgnaa
set_option maxRecDepth 100000
open Go.RowKit
set_option linter.unusedVariables false

/-- what a call of the reference's leaves: the book as a value, in blocks of F or new, and what else it answers -/
def RefB (F : Nat → Prop) (rest : List Value) (t' : List Se) (w : World) (e : Ending) (w' : World) : Prop :=
  Below w.heap.size w w' ∧ ∃ A c, e = .returned (.tuple (Value.agg #[.slice A t'.length c] :: rest).toArray) ∧ RdS RSe (fun b => F b ∨ w.heap.size ≤ b) w' A c t'
theorem refb_exit {F : Nat → Prop} {w X : World} {A : Option Addr} {c g : Nat} {t : List Se} (h : RdS RSe F w A c t) (hX : Below w.heap.size w X) (hg : w.heap.size ≤ g) (v : Value) (rest : List Value) :
    RefB F rest t w (.returned (.tuple (Value.agg #[.slice A t.length c] :: rest).toArray)) (X.setCell ⟨g, 0, none⟩ v) := by
  have g1 := grown_set (grown_refl X (some g)) 0 v
  refine ⟨hX.grown g1 hX.size (fun b hb => by injection hb with hb; omega), A, c, rfl, ?_⟩
  have h1 := h.keep (F' := fun b => F b ∧ b < w.heap.size) (w' := X) (Kp.of_below hX) fun b hb hl => ⟨hb, hl⟩
  exact h1.keep (Kp.of_grown g1 fun b hb e => by injection e with e; omega) fun b hb _ => .inl hb.1
theorem refb_done {F : Nat → Prop} {w X : World} {A : Option Addr} {n c g : Nat} {t : List Se} {base : Nat} (hX : Below w.heap.size w X) (ho : OwnE X base A n c t) (hg : w.heap.size ≤ g) (hb : g < base) (v : Value) (rest : List Value) :
    RefB F rest t w (.returned (.tuple (Value.agg #[.slice A n c] :: rest).toArray)) (X.setCell ⟨g, 0, none⟩ v) := by
  have g1 := grown_set (grown_refl X (some g)) 0 v
  have hl := ho.len
  subst hl
  refine ⟨hX.grown g1 hX.size (fun b hb => by injection hb with hb; omega), A, c, rfl, ?_⟩
  exact OwnE.rds (base := base) (show OwnE _ base A t.length c t from World.ownsRow.kept ho g1 (.inr fun e => by have := ho.block g e; omega)) fun b hb => .inr (by omega)
theorem sec_seen : ∀ (l : List Se) (i : Nat) (x : Se) (z : Int), l[i]? = some x → (sec l).set (i * 3 + 2) (.int .i64 z) = sec (l.set i { x with seen := z })
  | [], i, x, z, h => by simp at h
  | y :: r, 0, x, z, h => by obtain rfl := Option.some.inj h; rfl
  | y :: r, i + 1, x, z, h => by
    rw [show (i + 1) * 3 + 2 = i * 3 + 2 + 1 + 1 + 1 by omega]
    simp only [sec, List.set_cons_succ]
    rw [sec_seen r i x z h]
/-- a sign's time written into a row -/
theorem OwnE.setSeen {w : World} {base n c : Nat} {A : Option Addr} {l : List Se} {i : Nat} {x : Se} (h : OwnE w base A n c l) (hx : l[i]? = some x) (z : Int) :
    ∃ g, A = some ⟨g, 0, none⟩ ∧ base ≤ g ∧ w.cell? ⟨g, i * 3, none⟩ = some (.int .i64 x.client) ∧ w.cell? ⟨g, i * 3 + 2, none⟩ = some (.int .i64 x.seen) ∧ w.frozen? ⟨g, i * 3 + 2, none⟩ = false ∧ OwnE (w.setCell ⟨g, i * 3 + 2, none⟩ (.int .i64 z)) base A n c (l.set i { x with seen := z }) := by
  have hl := h.len
  have hi := (List.getElem?_eq_some_iff.1 hx).1
  obtain ⟨g, rfl, hb, hnc, hcm, rest, hk, hkl⟩ := ownE_at h (by omega)
  have hc0 := hk.cell (i * 3)
  rw [List.getElem?_append_left (by rw [sec_len]; omega), (sec_at l i x hx).1] at hc0
  have hc2 := hk.cell (i * 3 + 2)
  rw [List.getElem?_append_left (by rw [sec_len]; omega), (sec_at l i x hx).2.2] at hc2
  refine ⟨g, rfl, hb, hc0, hc2, hk.frozen _, ?_⟩
  have hs := hk.set (i * 3 + 2) (.int .i64 z)
  rw [List.set_append_left _ _ (by rw [sec_len]; omega), sec_seen l i x z hx] at hs
  refine ownE_back hs ?_ hb (by rw [List.length_set]; exact hl) hnc hcm
  rw [List.length_append, sec_len] at hkl ⊢
  rw [List.length_set]
  exact hkl
/-- the first i have had their sign -/
def touchAt (cl now : Int) (t : List Se) (i : Nat) : List Se := seTouched cl now (t.take i) ++ t.drop i
theorem touchAt_zero (cl now : Int) (t : List Se) : touchAt cl now t 0 = t := by simp [touchAt, seTouched]
theorem touchAt_end (cl now : Int) (t : List Se) {i : Nat} (hi : t.length ≤ i) : touchAt cl now t i = seTouched cl now t := by
  unfold touchAt
  rw [List.take_of_length_le hi, List.drop_eq_nil_of_le hi, List.append_nil]
theorem touchAt_at {cl now : Int} {t : List Se} {i : Nat} {x : Se} (h : t[i]? = some x) : (touchAt cl now t i)[i]? = some x := by
  obtain ⟨hk, e⟩ := List.getElem?_eq_some_iff.1 h
  have hl : (seTouched cl now (t.take i)).length = i := by simp [seTouched]; omega
  unfold touchAt
  rw [List.getElem?_append_right (by omega), hl, Nat.sub_self, List.getElem?_drop, Nat.add_zero]
  exact h
theorem touchAt_next {cl now : Int} {t : List Se} {i : Nat} {x : Se} (h : t[i]? = some x) : touchAt cl now t (i + 1) = if x.client = cl ∧ x.seen < now then (touchAt cl now t i).set i { x with seen := now } else touchAt cl now t i := by
  obtain ⟨hk, e⟩ := List.getElem?_eq_some_iff.1 h
  have hl : (seTouched cl now (t.take i)).length = i := by simp [seTouched]; omega
  have hd : t.drop i = x :: t.drop (i + 1) := by rw [← e, List.getElem_cons_drop]
  have ht : seTouched cl now (t.take (i + 1)) = seTouched cl now (t.take i) ++ [if x.client = cl ∧ x.seen < now then { x with seen := now } else x] := by
    unfold seTouched
    rw [take_snoc t i hk, e, List.map_append]
    rfl
  unfold touchAt
  rw [ht, hd]
  by_cases q : x.client = cl ∧ x.seen < now
  · rw [if_pos q, if_pos q, List.set_append_right _ _ (by omega), hl, Nat.sub_self, List.append_assoc]
    rfl
  · rw [if_neg q, if_neg q, List.append_assoc]
    rfl
set_option maxHeartbeats 6400000 in
theorem refTouch_any (A : Option Addr) (c : Nat) (t : List Se) (F : Nat → Prop) (cl now : Int) (w : World) (h : RdS RSe F w A c t) (hn : t.length ≤ 1000) :
    Calls Try.prog 17 #[.agg #[.slice A t.length c], .int .i64 cl, .int .i64 now] w (RefB F [.int .i64 (seTouch cl now t).2] (seTouch cl now t).1 w) := by
  obtain ⟨W2, hW2⟩ : ∃ W2, W2 = (w.alloc (.cells #[.slice A t.length c] 29)).alloc (.cells #[.slice none 0 0] 29) := ⟨_, rfl⟩
  have hb2 : Below w.heap.size w W2 := by rw [hW2]; exact ((Below.refl w.heap.size w).alloc (Nat.le_refl _) _).alloc (by simp) _
  have hs2 : W2.heap.size = w.heap.size + 2 := by rw [hW2]; simp
  have K0 : Bk W2 w.heap.size 29 [.slice A t.length c] := by rw [hW2]; exact (Bk.new w 29 [.slice A t.length c]).alloc _
  have K1 : Bk W2 (w.heap.size + 1) 29 [.slice none 0 0] := by rw [hW2]; exact bk_new2 w _ [.slice none 0 0] _
  have HKW := Lib.hid (fun X (hX : Below (w.heap.size + 2) W2 X) => (⟨(K0.below hX (by omega)).at_ rfl, (K1.below hX (by omega)).frozen 0, (K0.below hX (by omega)).frozen 0, K1.below hX (by omega), K0.below hX (by omega), hb2.trans (hX.mono (by omega)), by have := hX.size; omega⟩ :
    X.cell? ⟨w.heap.size, 0, none⟩ = some (.slice A t.length c) ∧ X.frozen? ⟨w.heap.size + 1, 0, none⟩ = false ∧ X.frozen? ⟨w.heap.size, 0, none⟩ = false ∧ Bk X (w.heap.size + 1) 29 [.slice none 0 0] ∧ Bk X w.heap.size 29 [.slice A t.length c] ∧ Below w.heap.size w X ∧ w.heap.size + 2 ≤ X.heap.size))
  have HX := Lib.hid h
  have HWE := Lib.hid hW2
  have HS2 := Lib.hid hs2
  have HNT := Lib.hid hn
  have HLV := Lib.hid (show Calls Try.prog 26 #[.agg #[.slice A t.length c], .int .i64 cl] W2 (Ans (.bool (seLive cl t)) W2) from refLive_any A c t AllB cl W2 (h.all.below hb2) hn)
  obtain ⟨n, hnl⟩ : ∃ n, n = t.length := ⟨_, rfl⟩
  have HL := Lib.hid hnl.symm
  have hn1 : n ≤ 1000 := by omega
  obtain ⟨j0, z1, z0, kr, -⟩ := HKW.out W2 (Below.refl _ _)
  have m2 := kr.at_ (i := 0) rfl
  rw [← hnl] at HKW HWE HLV j0
  rw [← hnl]
  obtain ⟨lv, hlv⟩ : ∃ lv, lv = seLive cl t := ⟨_, rfl⟩
  have HVV := Lib.hid hlv
  rw [← hlv] at HLV
  clear h hW2 hb2 hs2 K0 K1 hnl hn kr hlv
  by_cases hok : lv = true ∧ 0 ≤ now ∧ now < 1099511627776
  · obtain ⟨rfl, hn0, hn4⟩ := hok
    have HA := Lib.hid (show (seTouch cl now t).1 = seTouched cl now t ∧ (seTouch cl now t).2 = 0 by unfold seTouch; rw [if_pos ⟨HVV.out.symm, hn0, hn4⟩]; exact ⟨rfl, rfl⟩)
    have r1 : decide (now < 0) = false := decide_eq_false (by omega)
    have r2 : decide (now ≥ 1099511627776) = false := decide_eq_false (by omega)
    clear hn0 hn4
    go_enter Try.func17, Try.ntmps17
    go_wp2_with fail
    rw [← HWE.out]
    go_wp2_with fail
    refine HLV.out.mono ?_
    rintro e w3 ⟨rfl, hb3⟩
    have hb3' : Below (w.heap.size + 2) W2 w3 := by rw [← HS2.out]; exact hb3
    obtain ⟨j1, -, -, -, -, hbw, hsw⟩ := HKW.out w3 hb3'
    have HB3 := Lib.hid hb3'
    have HCP := Lib.hid (show Calls Try.prog 10 #[.slice A n c] w3 (FreshE t w3) from by
      have := copyE_any A c t F w3 (HX.out.below hbw) HNT.out
      rwa [HL.out] at this)
    have HSW := Lib.hid hsw
    clear hb3 hb3' hbw hsw j0 z1 z0 m2
    go_wp2_with fail
    refine HCP.out.mono ?_
    rintro e w4 ⟨A4, c4, rfl, ho4, hb4⟩
    rw [HL.out] at ho4 ⊢
    have HO4 := Lib.hid (ho4.more HSW.out)
    have HB4 := Lib.hid (HB3.out.trans (hb4.mono HSW.out))
    have HS4 := Lib.hid (Nat.le_trans HSW.out hb4.size)
    clear ho4 hb4 HCP j1
    go_wp2_with fail
    go_loopw [9] (fun si wr => ∃ i : Nat, i ≤ n ∧ si = .int .i64 i ∧ OwnE wr (w.heap.size + 2) A4 n c4 (touchAt cl now t i) ∧ Below (w.heap.size + 2) W2 wr) (fun si _ => n - (intOf si).toNat)
    case atStart => exact ⟨0, by omega, rfl, by rw [touchAt_zero]; exact HO4.out, HB4.out⟩
    case round =>
      obtain ⟨i, hi, rfl, ho, hb⟩ := hrel
      by_cases hlt : i < n
      · have hix : i < t.length := by have := HL.out; omega
        have hy : t[i]? = some t[i] := List.getElem?_eq_getElem hix
        have HTN := Lib.hid (touchAt_next (cl := cl) (now := now) hy)
        obtain ⟨g, rfl, hgb, d0, d2, zz, hset⟩ := ho.setSeen (touchAt_at hy) now
        generalize t[i] = x at *
        have HO := Lib.hid ho
        have HSE := Lib.hid hset
        have HB := Lib.hid hb
        have HGB := Lib.hid hgb
        have HLT := Lib.hid hlt
        have y1 : (0 : Int) ≤ (i : Int) := by omega
        have y2 : (i : Int) < (n : Int) := by omega
        clear ho hset hb hlt hy hix hi hgb
        by_cases hc : x.client = cl
        · have q1 : (x.client == cl) = true := by simpa using hc
          by_cases hs : x.seen < now
          · have q2 : decide (x.seen < now) = true := decide_eq_true hs
            rw [if_pos ⟨hc, hs⟩] at HTN
            clear hc hs
            go_wp2_with fail
            go_roundw
            case rel => exact ⟨i + 1, HLT.out, by go_num, by rw [HTN.out]; exact HSE.out, HB.out.grown (grown_set (grown_refl _ (some g)) _ _) (by have := HB.out.size; rw [HS2.out] at this; omega) (fun b hb => by have := Option.some.inj hb; have := HGB.out; omega)⟩
            case measure => have := HLT.out; simp [intOf]; omega
          · have q2 : decide (x.seen < now) = false := decide_eq_false hs
            rw [if_neg (fun q => hs q.2)] at HTN
            clear hc hs
            go_wp2_with fail
            go_roundw
            case rel => exact ⟨i + 1, HLT.out, by go_num, by rw [HTN.out]; exact HO.out, HB.out⟩
            case measure => have := HLT.out; simp [intOf]; omega
        · have q1 : (x.client == cl) = false := by simpa using hc
          rw [if_neg (fun q => hc q.1)] at HTN
          clear hc
          go_wp2_with fail
          go_roundw
          case rel => exact ⟨i + 1, HLT.out, by go_num, by rw [HTN.out]; exact HO.out, HB.out⟩
          case measure => have := HLT.out; simp [intOf]; omega
      · have HO := Lib.hid (show OwnE wr (w.heap.size + 2) A4 n c4 (seTouched cl now t) by rwa [touchAt_end cl now t (by have := HL.out; omega)] at ho)
        obtain ⟨j0, z1, z0, kr, -, hbw, -⟩ := HKW.out wr hb
        have HKR := Lib.hid kr
        have HBW := Lib.hid hbw
        have m2 := kr.at_ (i := 0) rfl
        clear ho hb kr hbw hi
        go_wp2_with fail
        have kk := (HKR.out.far (p := ⟨w.heap.size, 0, none⟩) (by show w.heap.size + 1 ≠ w.heap.size; omega) (.slice A4 n c4)).set 0 (.slice A4 n c4)
        refine bodyPost_ret_by (results_row_tmp rfl _ _ (w.heap.size + 1) 29 _ _ rfl kk Try.underlying29 rfl info_rbook1) rfl ?_
        rw [HA.out.1, HA.out.2]
        have g0 := grown_set (grown_refl wr (some w.heap.size)) 0 (.slice A4 n c4)
        exact refb_done (HBW.out.grown g0 HBW.out.size (fun b hb => Nat.le_of_eq (Option.some.inj hb))) (World.ownsRow.kept HO.out g0 (.inr fun e => by have := HO.out.block _ e; omega)) (by omega) (show w.heap.size + 1 < w.heap.size + 2 by omega) _ [.int .i64 0]
  · have HA := Lib.hid (show (seTouch cl now t).1 = t ∧ (seTouch cl now t).2 = 120 by unfold seTouch; rw [if_neg (fun q => hok ⟨HVV.out.trans q.1, q.2⟩)]; exact ⟨rfl, rfl⟩)
    have hcs : lv = false ∨ (lv = true ∧ now < 0) ∨ (lv = true ∧ ¬ now < 0 ∧ now ≥ 1099511627776) := by
      cases lv with
      | false => exact .inl rfl
      | true =>
        by_cases q : now < 0
        · exact .inr (.inl ⟨rfl, q⟩)
        · exact .inr (.inr ⟨rfl, q, by
            rcases Int.lt_or_le now 1099511627776 with r | r
            · exact absurd ⟨rfl, by omega, r⟩ hok
            · exact r⟩)
    clear hok
    rcases hcs with rfl | ⟨rfl, hq⟩ | ⟨rfl, hq, hr⟩
    · go_enter Try.func17, Try.ntmps17
      go_wp2_with fail
      rw [← HWE.out]
      go_wp2_with fail
      refine HLV.out.mono ?_
      rintro e w3 ⟨rfl, hb3⟩
      obtain ⟨j1, z1', z0', kr, -, hbw, hsw⟩ := HKW.out w3 (by rw [← HS2.out]; exact hb3)
      have HKR := Lib.hid kr
      have HBW := Lib.hid hbw
      have m3 := kr.at_ (i := 0) rfl
      clear hb3 hbw hsw kr
      go_wp2_with fail
      have kk := HKR.out.set 0 (.slice A n c)
      refine bodyPost_ret_by (results_row_tmp rfl _ _ (w.heap.size + 1) 29 _ _ rfl kk Try.underlying29 rfl info_rbook1) rfl ?_
      rw [HA.out.1, HA.out.2, ← HL.out]
      exact refb_exit HX.out HBW.out (by omega) _ [.int .i64 120]
    · have r1 : decide (now < 0) = true := decide_eq_true hq
      clear hq
      go_enter Try.func17, Try.ntmps17
      go_wp2_with fail
      rw [← HWE.out]
      go_wp2_with fail
      refine HLV.out.mono ?_
      rintro e w3 ⟨rfl, hb3⟩
      obtain ⟨j1, z1', z0', kr, -, hbw, hsw⟩ := HKW.out w3 (by rw [← HS2.out]; exact hb3)
      have HKR := Lib.hid kr
      have HBW := Lib.hid hbw
      have m3 := kr.at_ (i := 0) rfl
      clear hb3 hbw hsw kr
      go_wp2_with fail
      have kk := HKR.out.set 0 (.slice A n c)
      refine bodyPost_ret_by (results_row_tmp rfl _ _ (w.heap.size + 1) 29 _ _ rfl kk Try.underlying29 rfl info_rbook1) rfl ?_
      rw [HA.out.1, HA.out.2, ← HL.out]
      exact refb_exit HX.out HBW.out (by omega) _ [.int .i64 120]
    · have r1 : decide (now < 0) = false := decide_eq_false hq
      have r2 : decide (now ≥ 1099511627776) = true := decide_eq_true hr
      clear hq hr
      go_enter Try.func17, Try.ntmps17
      go_wp2_with fail
      rw [← HWE.out]
      go_wp2_with fail
      refine HLV.out.mono ?_
      rintro e w3 ⟨rfl, hb3⟩
      obtain ⟨j1, z1', z0', kr, -, hbw, hsw⟩ := HKW.out w3 (by rw [← HS2.out]; exact hb3)
      have HKR := Lib.hid kr
      have HBW := Lib.hid hbw
      have m3 := kr.at_ (i := 0) rfl
      clear hb3 hbw hsw kr
      go_wp2_with fail
      have kk := HKR.out.set 0 (.slice A n c)
      refine bodyPost_ret_by (results_row_tmp rfl _ _ (w.heap.size + 1) 29 _ _ rfl kk Try.underlying29 rfl info_rbook1) rfl ?_
      rw [HA.out.1, HA.out.2, ← HL.out]
      exact refb_exit HX.out HBW.out (by omega) _ [.int .i64 120]
end Go.Proofs.Ytfbdmemjojjgnaa
