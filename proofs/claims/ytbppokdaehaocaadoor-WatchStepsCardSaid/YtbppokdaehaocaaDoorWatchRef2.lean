/-
  The reference's watches: one is added. A walk; no statement.
-/
import Derived.Test.YtbppokdaehaocaaDoorWatchRef1
import Derived.Test.YtbppokdaehaocaaDoorWatchLoad
import Derived.Test.YtbppokdaehaocaaDoorWatchSame
import Derived.Deep.RegionHeld3
import Derived.Deep.CutRange
namespace Go.Proofs.YtbppokdaehaocaaDoor
set_option maxRecDepth 100000
open Go.RowKit
set_option linter.unusedVariables false

/-- what a call of the reference's leaves: the table as a value, in blocks of F or new, and what else it answers -/
def RefP (F : Nat → Prop) (rest : List Value) (t' : List Wt) (w : World) (e : Ending) (w' : World) : Prop :=
  Below w.heap.size w w' ∧ ∃ A c, e = .returned (.tuple (Value.agg #[.slice A t'.length c] :: rest).toArray) ∧ RdS RWt (fun b => F b ∨ w.heap.size ≤ b) w' A c t'
theorem refp_exit {F : Nat → Prop} {w X : World} {A : Option Addr} {c g : Nat} {t : List Wt} (h : RdS RWt F w A c t) (hX : Below w.heap.size w X) (hg : w.heap.size ≤ g) (v : Value) (rest : List Value) :
    RefP F rest t w (.returned (.tuple (Value.agg #[.slice A t.length c] :: rest).toArray)) (X.setCell ⟨g, 0, none⟩ v) := by
  have g1 := grown_set (grown_refl X (some g)) 0 v
  refine ⟨hX.grown g1 hX.size (fun b hb => by injection hb with hb; omega), A, c, rfl, ?_⟩
  have h1 := h.keep (F' := fun b => F b ∧ b < w.heap.size) (w' := X) (Kp.of_below hX) fun b hb hl => ⟨hb, hl⟩
  exact h1.keep (Kp.of_grown g1 fun b hb e => by injection e with e; omega) fun b hb _ => .inl hb.1
theorem refp_done {F : Nat → Prop} {w X : World} {A : Option Addr} {n c g : Nat} {t : List Wt} {base : Nat} (hX : Below w.heap.size w X) (ho : OwnW X base A n c t) (hg : w.heap.size ≤ g) (hb : g < base) (v : Value) (rest : List Value) :
    RefP F rest t w (.returned (.tuple (Value.agg #[.slice A n c] :: rest).toArray)) (X.setCell ⟨g, 0, none⟩ v) := by
  have g1 := grown_set (grown_refl X (some g)) 0 v
  have hl := ho.len
  subst hl
  refine ⟨hX.grown g1 hX.size (fun b hb => by injection hb with hb; omega), A, c, rfl, ?_⟩
  exact OwnW.rds (base := base) (show OwnW _ base A t.length c t from World.ownsRow.kept ho g1 (.inr fun e => by have := ho.block g e; omega)) fun b hb => .inr (by omega)
theorem wIns_none {x : Wt} : ∀ {l : List Wt}, (∀ z ∈ l, ¬ wLt x z) → wIns x l = l ++ [x]
  | [], _ => rfl
  | y :: r, h => by
    unfold wIns
    rw [if_neg (h y (List.mem_cons_self ..)), wIns_none fun z hz => h z (List.mem_cons_of_mem _ hz)]
    rfl
theorem wIns_snoc {x y : Wt} : ∀ {l : List Wt}, (∃ z ∈ l, wLt x z) → wIns x (l ++ [y]) = wIns x l ++ [y]
  | [], h => by obtain ⟨z, hz, _⟩ := h; cases hz
  | u :: r, h => by
    rw [List.cons_append]
    unfold wIns
    by_cases hu : wLt x u
    · rw [if_pos hu, if_pos hu]; rfl
    · rw [if_neg hu, if_neg hu, wIns_snoc (by
        obtain ⟨z, hz, hxz⟩ := h
        rcases List.mem_cons.1 hz with e | e
        · subst e; exact absurd hxz hu
        · exact ⟨z, e, hxz⟩)]
      rfl
theorem wIns_here {x y : Wt} : ∀ {l : List Wt}, (∀ z ∈ l, ¬ wLt x z) → wLt x y → wIns x (l ++ [y]) = l ++ [x] ++ [y]
  | [], _, h => by rw [List.nil_append]; unfold wIns; rw [if_pos h]; rfl
  | u :: r, hn, h => by
    rw [List.cons_append]
    unfold wIns
    rw [if_neg (hn u (List.mem_cons_self ..)), wIns_here (fun z hz => hn z (List.mem_cons_of_mem _ hz)) h]
    rfl
/-- how the loop stands: the first i are taken over, the new one among them or not -/
def AddAt (x : Wt) (t : List Wt) (i : Nat) (put : Bool) (out : List Wt) : Prop :=
  x ∉ t.take i ∧ match put with
    | true => (∃ z ∈ t.take i, wLt x z) ∧ out = wIns x (t.take i)
    | false => (∀ z ∈ t.take i, ¬ wLt x z) ∧ out = t.take i
theorem AddAt.on {x y : Wt} {t : List Wt} {i : Nat} {out : List Wt} (h : AddAt x t i true out) (hy : t[i]? = some y) (hne : y ≠ x) : AddAt x t (i + 1) true (out ++ [y]) := by
  obtain ⟨hk, e⟩ := List.getElem?_eq_some_iff.1 hy
  obtain ⟨h1, h2, h3⟩ := h
  unfold AddAt
  rw [take_snoc t i hk, e]
  refine ⟨fun hm => (List.mem_append.1 hm).elim h1 fun q => hne (List.mem_singleton.1 q).symm, ?_, ?_⟩
  · obtain ⟨z, hz, q⟩ := h2
    exact ⟨z, List.mem_append_left _ hz, q⟩
  · rw [wIns_snoc h2, h3]
theorem AddAt.put {x y : Wt} {t : List Wt} {i : Nat} {out : List Wt} (h : AddAt x t i false out) (hy : t[i]? = some y) (hne : y ≠ x) (hl : wLt x y) : AddAt x t (i + 1) true (out ++ [x] ++ [y]) := by
  obtain ⟨hk, e⟩ := List.getElem?_eq_some_iff.1 hy
  obtain ⟨h1, h2, h3⟩ := h
  unfold AddAt
  rw [take_snoc t i hk, e]
  refine ⟨fun hm => (List.mem_append.1 hm).elim h1 fun q => hne (List.mem_singleton.1 q).symm, ⟨y, by simp, hl⟩, ?_⟩
  rw [wIns_here h2 hl, h3]
theorem AddAt.off {x y : Wt} {t : List Wt} {i : Nat} {out : List Wt} (h : AddAt x t i false out) (hy : t[i]? = some y) (hne : y ≠ x) (hl : ¬ wLt x y) : AddAt x t (i + 1) false (out ++ [y]) := by
  obtain ⟨hk, e⟩ := List.getElem?_eq_some_iff.1 hy
  obtain ⟨h1, h2, h3⟩ := h
  unfold AddAt
  rw [take_snoc t i hk, e]
  refine ⟨fun hm => (List.mem_append.1 hm).elim h1 fun q => hne (List.mem_singleton.1 q).symm, fun z hz => (List.mem_append.1 hz).elim (h2 z) fun q => by rw [List.mem_singleton.1 q]; exact hl, by rw [h3]⟩
/-- all are taken over -/
def AddEnd (x : Wt) (t : List Wt) (put : Bool) (out : List Wt) : Prop :=
  x ∉ t ∧ match put with
    | true => (∃ z ∈ t, wLt x z) ∧ out = wIns x t
    | false => (∀ z ∈ t, ¬ wLt x z) ∧ out = t
theorem AddAt.done {x : Wt} {t : List Wt} {i : Nat} {put : Bool} {out : List Wt} (h : AddAt x t i put out) (hi : t.length ≤ i) : AddEnd x t put out := by
  unfold AddAt at h
  rw [List.take_of_length_le hi] at h
  exact h
theorem AddAt.len {x : Wt} {t : List Wt} {i n1 base c1 : Nat} {put : Bool} {out : List Wt} {A1 : Option Addr} {w : World} (h : AddAt x t i put out) (ho : OwnW w base A1 n1 c1 out) : n1 ≤ i + 1 := by
  have hl := ho.len
  obtain ⟨_, h2⟩ := h
  cases put with
  | true => rw [h2.2, wIns_len, List.length_take] at hl; omega
  | false => rw [h2.2, List.length_take] at hl; omega
/-- the cells that the reference's loop reads -/
def Seven (b s : Nat) (v : Value) (a : Addr) (i : Nat) (y x : Wt) (W : World) : Prop := Box3 b x W ∧ W.cell? ⟨s, 0, none⟩ = some v ∧ Row3 a i y W
theorem Seven.kept {b s i : Nat} {v : Value} {a : Addr} {y x : Wt} {W W' : World} (h : Seven b s v a i y x W) (hb : Below W.heap.size W W') : Seven b s v a i y x W' :=
  ⟨⟨cell_kept h.1.1 hb, cell_kept h.1.2.1 hb, cell_kept h.1.2.2 hb⟩, cell_kept h.2.1 hb, cell_kept h.2.2.1 hb, cell_kept h.2.2.2.1 hb, cell_kept h.2.2.2.2 hb⟩
theorem Seven.flat {b s i : Nat} {v : Value} {a : Addr} {y x : Wt} {W : World} (h : Seven b s v a i y x W) :
    W.cell? ⟨b, 0, none⟩ = some (.int .i64 x.client) ∧ W.cell? ⟨b, 1, none⟩ = some (.int .i64 x.kind) ∧ W.cell? ⟨b, 2, none⟩ = some (.string ⟨x.path.toArray⟩) ∧ W.cell? ⟨s, 0, none⟩ = some v ∧ W.cell? (a.add (i * 3)) = some (.int .i64 y.client) ∧
      W.cell? ⟨(a.add (i * 3)).block, (a.add (i * 3)).off + 1, none⟩ = some (.int .i64 y.kind) ∧ W.cell? ⟨(a.add (i * 3)).block, (a.add (i * 3)).off + 2, none⟩ = some (.string ⟨y.path.toArray⟩) :=
  ⟨h.1.1, h.1.2.1, h.1.2.2, h.2.1, h.2.2.1, h.2.2.2.1, h.2.2.2.2⟩
theorem info_rtab1 : (Tryd.prog.info? 29).map (·.size) = some 1 := by kernel_rfl
set_option maxHeartbeats 12800000 in
theorem refAddW_any (A : Option Addr) (c : Nat) (t : List Wt) (F : Nat → Prop) (x : Wt) (w : World) (h : RdS RWt F w A c t) (hn : t.length ≤ 1000) (hp : x.path.length ≤ maxLen) :
    Calls Tryd.prog 11 #[.agg #[.slice A t.length c], .agg #[.int .i64 x.client, .int .i64 x.kind, .string ⟨x.path.toArray⟩]] w (RefP F [.int .i64 (wAdd x t).2] (wAdd x t).1 w) := by
  obtain ⟨W3, hW3⟩ : ∃ W3, W3 = ((w.alloc (.cells #[.slice A t.length c] 29)).alloc (.cells #[.int .i64 x.client, .int .i64 x.kind, .string ⟨x.path.toArray⟩] 31)).alloc (.cells #[.slice none 0 0] 29) := ⟨_, rfl⟩
  have hb3 : Below w.heap.size w W3 := by rw [hW3]; exact (((Below.refl w.heap.size w).alloc (Nat.le_refl _) _).alloc (by simp) _).alloc (by simp; omega) _
  have hs3 : W3.heap.size = w.heap.size + 3 := by rw [hW3]; simp
  have K0 : Bk W3 w.heap.size 29 [.slice A t.length c] := by rw [hW3]; exact ((Bk.new w 29 [.slice A t.length c]).alloc _).alloc _
  have K1 : Bk W3 (w.heap.size + 1) 31 (wtC x) := by rw [hW3]; exact (bk_new2 w _ (wtC x) _).alloc _
  have K2 : Bk W3 (w.heap.size + 2) 29 [.slice none 0 0] := by
    rw [hW3]
    have := bk_new2 (w.alloc (.cells #[.slice A t.length c] 29)) (.cells #[.int .i64 x.client, .int .i64 x.kind, .string ⟨x.path.toArray⟩] 31) [.slice none 0 0] 29
    rw [show (w.alloc (.cells #[.slice A t.length c] 29)).heap.size + 1 = w.heap.size + 2 by simp] at this
    exact this
  have HKW := Lib.hid (fun X (hX : Below (w.heap.size + 3) W3 X) => (⟨(K0.below hX (by omega)).at_ rfl, (K1.below hX (by omega)).three, (K2.below hX (by omega)).frozen 0, (K0.below hX (by omega)).frozen 0, K2.below hX (by omega), K0.below hX (by omega), hb3.trans (hX.mono (by omega))⟩ :
    X.cell? ⟨w.heap.size, 0, none⟩ = some (.slice A t.length c) ∧ Box3 (w.heap.size + 1) x X ∧ X.frozen? ⟨w.heap.size + 2, 0, none⟩ = false ∧ X.frozen? ⟨w.heap.size, 0, none⟩ = false ∧ Bk X (w.heap.size + 2) 29 [.slice none 0 0] ∧ Bk X w.heap.size 29 [.slice A t.length c] ∧ Below w.heap.size w X))
  have HX := Lib.hid h
  have HWE := Lib.hid hW3
  have HS3 := Lib.hid hs3
  have HRG := Lib.hid (fun W => show Calls Tryd.prog 14 #[.agg #[.int .i64 x.client, .int .i64 x.kind, .string ⟨x.path.toArray⟩]] W (Ans (.bool (wRight x)) W) from refRightW_any x W hp)
  have HLS := Lib.hid (fun (y : Wt) W => refLess_any x y W)
  have hB0 : Below (w.heap.size + 3) W3 W3 := Below.refl _ _
  have HB0 := Lib.hid hB0
  obtain ⟨j0, ⟨b0, b1, b2⟩, z2, z0, kr, ks, hbw⟩ := HKW.out W3 hB0
  obtain ⟨n, hnl⟩ : ∃ n, n = t.length := ⟨_, rfl⟩
  have HL := Lib.hid hnl.symm
  have HN := Lib.hid hn
  have hn1 : n ≤ 1000 := by omega
  cases hr : wRight x with
  | false =>
    have HA := Lib.hid (show (wAdd x t).1 = t ∧ (wAdd x t).2 = 90 by unfold wAdd; rw [if_pos hr]; exact ⟨rfl, rfl⟩)
    rw [hr] at HRG
    clear hr h hW3 hb3 hs3 K0 K1 K2 hB0 hnl hn kr ks hbw j0 z0 z2 hp
    go_enter Tryd.func11, Tryd.ntmps11
    go_wp2_with fail
    rw [← HWE.out]
    refine (HRG.out _).mono ?_
    rintro e w4 ⟨rfl, hb4⟩
    obtain ⟨j0, ⟨e0, e1, e2⟩, z2, z0, kr, ks, hbw⟩ := HKW.out w4 (HB0.out.trans (by rw [← HS3.out]; exact hb4))
    have HBW := Lib.hid hbw
    have HKR := Lib.hid kr
    have m2 := kr.at_ (i := 0) rfl
    clear hb4 b0 b1 b2 kr ks hbw
    go_wp2_with fail
    have kk := HKR.out.set 0 (.slice A t.length c)
    refine bodyPost_ret_by (results_row_tmp rfl _ _ (w.heap.size + 2) 29 _ _ rfl kk Tryd.underlying29 rfl info_rtab1) rfl ?_
    rw [HA.out.1, HA.out.2]
    exact refp_exit HX.out HBW.out (by omega) _ [.int .i64 90]
  | true =>
    rw [hr] at HRG
    have HRT := Lib.hid hr
    rw [← hnl] at HKW
    clear hr h hW3 hb3 hs3 K0 K1 K2 hB0 hn kr ks hbw j0 z0 z2 hp
    go_enter Tryd.func11, Tryd.ntmps11
    go_wp2_with fail
    rw [← HWE.out, ← hnl]
    clear hnl
    refine (HRG.out _).mono ?_
    rintro e w4 ⟨rfl, hb4⟩
    have hbx4 : Below (w.heap.size + 3) W3 w4 := HB0.out.trans (by rw [← HS3.out]; exact hb4)
    have hs4 : w.heap.size + 3 ≤ w4.heap.size := by have := hbx4.size; rw [HS3.out] at this; exact this
    have HO4 := Lib.hid ((ownW_empty w4).more (base' := w.heap.size + 3) hs4)
    have HB5 := Lib.hid (hbx4.alloc hs4 (.cells #[] 31))
    clear hb4 b0 b1 b2 hbx4 hs4
    go_wp2_with fail
    go_loopw [6, 7, 8] (fun so sp si wr => ∃ (A1 : Option Addr) (n1 c1 i : Nat) (put : Bool) (out : List Wt), i ≤ n ∧ so = .slice A1 n1 c1 ∧ sp = .bool put ∧ si = .int .i64 i ∧ AddAt x t i put out ∧ OwnW wr (w.heap.size + 3) A1 n1 c1 out ∧ n1 ≤ i + 1 ∧ Below (w.heap.size + 3) W3 wr) (fun _ _ si _ => n - (intOf si).toNat)
    case atStart => exact ⟨_, 0, 0, 0, false, [], by omega, rfl, rfl, rfl, ⟨by simp, by simp, by simp⟩, HO4.out, by omega, HB5.out⟩
    case round =>
      obtain ⟨A1, n1, c1, i, put, out, hi, rfl, rfl, rfl, hat, ho, hn1i, hbx⟩ := hrel
      obtain ⟨j0, hbb, z2, z0, kr, ks, hbw⟩ := HKW.out wr hbx
      have hs5 : w.heap.size + 3 ≤ wr.heap.size := by have := hbx.size; rw [HS3.out] at this; exact this
      by_cases hlt : i < n
      · have hix : i < t.length := by have := HL.out; omega
        have hy : t[i]? = some t[i] := List.getElem?_eq_getElem hix
        obtain ⟨a, rfl, hal, d0, d1, d2⟩ := (HX.out.below hbw).wt3 hy
        obtain ⟨b0, b1, b2⟩ := hbb
        have HY := Lib.hid hy
        generalize t[i] = y at *
        have HSV := Lib.hid (show Seven (w.heap.size + 1) w.heap.size (.slice (some a) n c) a i y x wr from ⟨⟨b0, b1, b2⟩, j0, d0, d1, d2⟩)
        have HAT := Lib.hid hat
        have HO := Lib.hid ho
        have HBX := Lib.hid hbx
        have HBW := Lib.hid hbw
        have HLT := Lib.hid hlt
        have HS5 := Lib.hid hs5
        have y1 : (0 : Int) ≤ (i : Int) := by omega
        have y2 : (i : Int) < (n : Int) := by omega
        have y3 : n1 ≤ 2000 := by omega
        have HN1 := Lib.hid hn1i
        have HKR := Lib.hid kr
        have m2 := kr.at_ (i := 0) rfl
        clear hat ho hbx hbw hlt hy hix hal kr ks hs5 hn1i hi
        by_cases hyx : y = x
        · have heq := eql_wt y x true (decide_eq_true hyx)
          have HA := Lib.hid (show (wAdd x t).1 = t ∧ (wAdd x t).2 = 0 by unfold wAdd; rw [if_neg (by rw [HRT.out]; simp), if_pos (hyx ▸ List.mem_of_getElem? HY.out)]; exact ⟨rfl, rfl⟩)
          clear hyx
          go_upto_region 8 with fail
          go_quiet (fail)
          go_wp2_with fail
          have kk := (HKR.out.drewN nq).set 0 (.slice (some a) n c)
          refine bodyPost_ret_by (results_row_tmp rfl _ _ (w.heap.size + 2) 29 _ _ rfl kk Tryd.underlying29 rfl info_rtab1) rfl ?_
          rw [HA.out.1, HA.out.2, ← HL.out]
          exact refp_exit HX.out (below_drewN HBW.out nq) (by omega) _ [.int .i64 0]
        · have hyb : (y == x) = false := by rw [beq_eq_false_iff_ne]; exact hyx
          have heq := eql_wt y x false (decide_eq_false hyx)
          clear hyb
          have HLX := Lib.hid (fun W => HLS.out y W)
          cases put with
          | true =>
            have HATN := Lib.hid (HAT.out.on HY.out hyx)
            clear hyx
            go_upto_region 8 with fail
            go_quiet (fail)
            go_upto_region 10 with fail
            go_quiet (fail)
            go_wp2_with (at_builtin; refine wpList_app_wt rfl _ _ rfl (w.heap.size + 3) A1 n1 c1 _ rfl ((HO.out.drewN _).alloc _) ⟨wr.heap.size, 0, none⟩ y rfl (news_wt (wr.drewN _) y) (by omega) (by have := HS5.out; simp [World.drewN]; omega) ?_; intro A7 c7 w7 HO7 HG7 HR7)
            go_roundw
            case rel => exact ⟨A7, n1 + 1, c7, i + 1, true, out ++ [y], HLT.out, rfl, rfl, by go_num, HATN.out, HO7.out, by have := HN1.out; omega, (below_drewN HBX.out _ |>.alloc HS5.out _).grown HG7.out (by have := HS5.out; simp [World.drewN]; omega) (fun b hb => HO.out.block b hb)⟩
            case measure => have := HLT.out; simp [intOf]; omega
          | false =>
            by_cases hl : wLt x y
            · rw [decide_eq_true hl] at HLX
              have HATN := Lib.hid (HAT.out.put HY.out hyx hl)
              clear hl hyx
              go_upto_region 8 with fail
              go_quiet (fail)
              have HSVd := Lib.hid (show Seven (w.heap.size + 1) w.heap.size (.slice (some a) n c) a i y x (wr.drewN nq).drew from HSV.out)
              go_upto_region 10 with fail
              go_region_held3 (fun W => W.cell? ⟨w.heap.size + 1, 0, none⟩ = some (.int .i64 x.client) ∧ W.cell? ⟨w.heap.size + 1, 1, none⟩ = some (.int .i64 x.kind) ∧ W.cell? ⟨w.heap.size + 1, 2, none⟩ = some (.string ⟨x.path.toArray⟩) ∧ W.cell? ⟨w.heap.size, 0, none⟩ = some (.slice (some a) n c) ∧ W.cell? (a.add (i * 3)) = some (.int .i64 y.client) ∧ W.cell? ⟨(a.add (i * 3)).block, (a.add (i * 3)).off + 1, none⟩ = some (.int .i64 y.kind) ∧ W.cell? ⟨(a.add (i * 3)).block, (a.add (i * 3)).off + 2, none⟩ = some (.string ⟨y.path.toArray⟩))
                (first | exact HSVd.out.flat | exact (HSVd.out.kept (by assumption)).flat)
                (first | (go_at_call 27; refine (HLX.out _).mono ?_; rintro e w6 ⟨rfl, hb6⟩))
              have HB6 := Lib.hid (show Below wr.heap.size wr w6 from below_undrawn (n := nq + 1) hb6)
              clear b0 b1 b2 d0 d1 d2 j0 hb6
              obtain ⟨⟨b0, b1, b2⟩, j0, d0, d1, d2⟩ := HSV.out.kept HB6.out
              have HO6 := Lib.hid (HO.out.below HB6.out)
              have HS6 := Lib.hid (show w.heap.size + 3 ≤ w6.heap.size by have := HB6.out.size; have := HS5.out; omega)
              have HBX6 := Lib.hid (HBX.out.trans (HB6.out.mono HS5.out))
              go_wp2_with (first
                | (at_builtin; refine wpList_app_wt rfl _ _ rfl (w.heap.size + 3) A1 n1 c1 _ rfl (HO6.out.alloc _) ⟨w6.heap.size, 0, none⟩ x rfl (news_wt w6 x) (by omega) (by have := HS6.out; simp; omega) ?_; intro A7 c7 w7 HO7 HG7 HR7; have HB7 := Lib.hid ((HBX6.out.alloc HS6.out (.cells #[.int .i64 x.client, .int .i64 x.kind, .string ⟨x.path.toArray⟩] 31)).grown HG7.out (by have := HS6.out; simp; omega) (fun b hb => HO6.out.block b hb)); have HBW7 := Lib.hid (HKW.out w7 HB7.out).2.2.2.2.2.2; obtain ⟨j9, -⟩ := HKW.out w7 HB7.out; obtain ⟨a9, e9, _, f0, f1, f2⟩ := (HX.out.below HBW7.out).wt3 HY.out; obtain rfl := Option.some.inj e9; have HS7 := Lib.hid (show w.heap.size + 3 ≤ w7.heap.size by have := HB7.out.size; rw [HS3.out] at this; exact this))
                | (at_builtin; refine wpList_app_wt rfl _ _ rfl (w.heap.size + 3) A7 (n1 + 1) c7 _ rfl (HO7.out.alloc _) ⟨w7.heap.size, 0, none⟩ y rfl (news_wt w7 y) (by omega) (by have := HS7.out; simp; omega) ?_; intro A8 c8 w8 HO8 HG8 HR8))
              go_roundw
              case rel => exact ⟨A8, n1 + 1 + 1, c8, i + 1, true, out ++ [x] ++ [y], HLT.out, rfl, rfl, by go_num, HATN.out, HO8.out, by have := AddAt.len HATN.out HO8.out; omega, (HB7.out.alloc HS7.out _).grown HG8.out (by have := HS7.out; simp; omega) (fun b hb => HO7.out.block b hb)⟩
              case measure => have := HLT.out; simp [intOf]; omega
            · rw [decide_eq_false hl] at HLX
              have HATN := Lib.hid (HAT.out.off HY.out hyx hl)
              clear hl hyx
              go_upto_region 8 with fail
              go_quiet (fail)
              have HSVd := Lib.hid (show Seven (w.heap.size + 1) w.heap.size (.slice (some a) n c) a i y x (wr.drewN nq).drew from HSV.out)
              go_upto_region 10 with fail
              go_region_held3 (fun W => W.cell? ⟨w.heap.size + 1, 0, none⟩ = some (.int .i64 x.client) ∧ W.cell? ⟨w.heap.size + 1, 1, none⟩ = some (.int .i64 x.kind) ∧ W.cell? ⟨w.heap.size + 1, 2, none⟩ = some (.string ⟨x.path.toArray⟩) ∧ W.cell? ⟨w.heap.size, 0, none⟩ = some (.slice (some a) n c) ∧ W.cell? (a.add (i * 3)) = some (.int .i64 y.client) ∧ W.cell? ⟨(a.add (i * 3)).block, (a.add (i * 3)).off + 1, none⟩ = some (.int .i64 y.kind) ∧ W.cell? ⟨(a.add (i * 3)).block, (a.add (i * 3)).off + 2, none⟩ = some (.string ⟨y.path.toArray⟩))
                (first | exact HSVd.out.flat | exact (HSVd.out.kept (by assumption)).flat)
                (first | (go_at_call 27; refine (HLX.out _).mono ?_; rintro e w6 ⟨rfl, hb6⟩))
              have HB6 := Lib.hid (show Below wr.heap.size wr w6 from below_undrawn (n := nq + 1) hb6)
              clear b0 b1 b2 d0 d1 d2 j0 hb6
              obtain ⟨⟨b0, b1, b2⟩, j0, d0, d1, d2⟩ := HSV.out.kept HB6.out
              have HO6 := Lib.hid (HO.out.below HB6.out)
              have HS6 := Lib.hid (show w.heap.size + 3 ≤ w6.heap.size by have := HB6.out.size; have := HS5.out; omega)
              have HBX6 := Lib.hid (HBX.out.trans (HB6.out.mono HS5.out))
              go_wp2_with (at_builtin; refine wpList_app_wt rfl _ _ rfl (w.heap.size + 3) A1 n1 c1 _ rfl (HO6.out.alloc _) ⟨w6.heap.size, 0, none⟩ y rfl (news_wt w6 y) (by omega) (by have := HS6.out; simp; omega) ?_; intro A7 c7 w7 HO7 HG7 HR7)
              go_roundw
              case rel => exact ⟨A7, n1 + 1, c7, i + 1, false, out ++ [y], HLT.out, rfl, rfl, by go_num, HATN.out, HO7.out, by have := HN1.out; omega, (HBX6.out.alloc HS6.out _).grown HG7.out (by have := HS6.out; simp; omega) (fun b hb => HO6.out.block b hb)⟩
              case measure => have := HLT.out; simp [intOf]; omega
      · have hin : i = n := by omega
        obtain ⟨b0, b1, b2⟩ := hbb
        have hat2 := hat.done (by have := HL.out; omega)
        have HAT := Lib.hid hat2
        have HO := Lib.hid ho
        have HBX := Lib.hid hbx
        have HBW := Lib.hid hbw
        have HS5 := Lib.hid hs5
        have y3 : n1 ≤ 2000 := by omega
        have HOF := Lib.hid (show Calls Tryd.prog 28 #[.slice A n c, .int .i64 x.client] wr (Ans (.int .i64 (wOf x.client t : Nat)) wr) from by
          have := refOf_any A c t F x.client wr (HX.out.below hbw) (by have := HN.out; omega)
          rwa [HL.out] at this)
        obtain ⟨m, hm⟩ : ∃ m : Nat, m = wOf x.client t := ⟨_, rfl⟩
        have HM := Lib.hid hm
        rw [← hm] at HOF
        clear hat hat2 ho hbx hbw kr ks hs5 hn1i hi hm z0 z2
        by_cases h8 : 8 ≤ m
        · have hm8 : decide ((m : Int) ≥ 8) = true := decide_eq_true (by omega)
          have HA := Lib.hid (show (wAdd x t).1 = t ∧ (wAdd x t).2 = 104 by unfold wAdd; rw [if_neg (by rw [HRT.out]; simp), if_neg HAT.out.1, if_pos (by have := HM.out; omega)]; exact ⟨rfl, rfl⟩)
          go_wp2_with fail
          refine HOF.out.mono ?_
          rintro e w6 ⟨rfl, hb6⟩
          have HBX6 := Lib.hid (HBX.out.trans (hb6.mono HS5.out))
          obtain ⟨j9, -, z2, z0, kr, -, hbw⟩ := HKW.out w6 HBX6.out
          have HKR := Lib.hid kr
          have HBW6 := Lib.hid hbw
          have m2 := kr.at_ (i := 0) rfl
          clear hb6 j0 b0 b1 b2 kr hbw
          go_wp2_with fail
          have kk := HKR.out.set 0 (.slice A n c)
          refine bodyPost_ret_by (results_row_tmp rfl _ _ (w.heap.size + 2) 29 _ _ rfl kk Tryd.underlying29 rfl info_rtab1) rfl ?_
          rw [HA.out.1, HA.out.2, ← HL.out]
          exact refp_exit HX.out HBW6.out (by omega) _ [.int .i64 104]
        · have hm8 : decide ((m : Int) ≥ 8) = false := decide_eq_false (by omega)
          have HA := Lib.hid (show (wAdd x t).1 = wIns x t ∧ (wAdd x t).2 = 0 by unfold wAdd; rw [if_neg (by rw [HRT.out]; simp), if_neg HAT.out.1, if_neg (by have := HM.out; omega)]; exact ⟨rfl, rfl⟩)
          go_wp2_with fail
          refine HOF.out.mono ?_
          rintro e w6 ⟨rfl, hb6⟩
          have HBX6 := Lib.hid (HBX.out.trans (hb6.mono HS5.out))
          have HO6 := Lib.hid (HO.out.below hb6)
          have HS6 := Lib.hid (Nat.le_trans HS5.out hb6.size)
          obtain ⟨j9, ⟨b9, b10, b11⟩, z2, z0, kr, -, hbw⟩ := HKW.out w6 HBX6.out
          have HKR := Lib.hid kr
          have HBW6 := Lib.hid hbw
          have m2 := kr.at_ (i := 0) rfl
          clear hb6 j0 b0 b1 b2 kr hbw
          cases put with
          | true =>
            go_wp2_with fail
            have kk := (HKR.out.far (p := ⟨w.heap.size, 0, none⟩) (by show w.heap.size + 2 ≠ w.heap.size; omega) (.slice A1 n1 c1)).set 0 (.slice A1 n1 c1)
            refine bodyPost_ret_by (results_row_tmp rfl _ _ (w.heap.size + 2) 29 _ _ rfl kk Tryd.underlying29 rfl info_rtab1) rfl ?_
            rw [HA.out.1, HA.out.2, ← HAT.out.2.2]
            have g0 := grown_set (grown_refl w6 (some w.heap.size)) 0 (.slice A1 n1 c1)
            exact refp_done (HBW6.out.grown g0 HBW6.out.size (fun b hb => Nat.le_of_eq (Option.some.inj hb))) (World.ownsRow.kept HO6.out g0 (.inr fun e => by have := HO6.out.block _ e; omega)) (by omega) (show w.heap.size + 2 < w.heap.size + 3 by omega) _ [.int .i64 0]
          | false =>
            go_wp2_with (at_builtin; refine wpList_app_wt rfl _ _ rfl (w.heap.size + 3) A1 n1 c1 _ rfl (HO6.out.alloc _) ⟨w6.heap.size, 0, none⟩ x rfl (news_wt w6 x) (by omega) (by have := HS6.out; simp; omega) ?_; intro A7 c7 w7 HO7 HG7 HR7; have HB7 := Lib.hid ((HBX6.out.alloc HS6.out (.cells #[.int .i64 x.client, .int .i64 x.kind, .string ⟨x.path.toArray⟩] 31)).grown HG7.out (by have := HS6.out; simp; omega) (fun b hb => HO6.out.block b hb)); obtain ⟨p0, -, p1, p2, kr7, -, hbw7⟩ := HKW.out w7 HB7.out; have HKR7 := Lib.hid kr7; have HBW7 := Lib.hid hbw7; have p3 := kr7.at_ (i := 0) rfl; clear kr7 hbw7)
            have kk := (HKR7.out.far (p := ⟨w.heap.size, 0, none⟩) (by show w.heap.size + 2 ≠ w.heap.size; omega) (.slice A7 (n1 + 1) c7)).set 0 (.slice A7 (n1 + 1) c7)
            refine bodyPost_ret_by (results_row_tmp rfl _ _ (w.heap.size + 2) 29 _ _ rfl kk Tryd.underlying29 rfl info_rtab1) rfl ?_
            rw [HA.out.1, HA.out.2, wIns_none HAT.out.2.1, ← HAT.out.2.2]
            have g0 := grown_set (grown_refl w7 (some w.heap.size)) 0 (.slice A7 (n1 + 1) c7)
            exact refp_done (HBW7.out.grown g0 HBW7.out.size (fun b hb => Nat.le_of_eq (Option.some.inj hb))) (World.ownsRow.kept HO7.out g0 (.inr fun e => by have := HO7.out.block _ e; omega)) (by omega) (show w.heap.size + 2 < w.heap.size + 3 by omega) _ [.int .i64 0]
end Go.Proofs.YtbppokdaehaocaaDoor
