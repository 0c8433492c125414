import Derived.Test.YtmgmmbgjmnklkaaMMsgRefR
import Derived.Test.YtmgmmbgjmnklkaaMsgRef10
import Derived.Deep.MidRow
import Derived.Deep.CutRange

/-
  What a message is as it is read part by part: plain words for the reference's Decode. No statement.
-/
namespace Go.Proofs.Ytmgmmbgjmnklkaa
set_option maxRecDepth 100000
open Go.RowKit
open Pk
set_option linter.unusedVariables false

/-- the blocks in which a message's parts may lie: behind the two that the call laid first, and not the message's own -/
def GD (W g : Nat) (b : Nat) : Prop := W + 1 < b ∧ b ≠ g
structure DBase (W g : Nat) (x : Addr) (c : Nat) (ss : List (List UInt8)) (wB wr : World) : Prop where
  two : Bk wr W 28 [.int .i64 0, .int .i64 0, .int .i64 0, .int .i64 0, .int .i64 0, .int .i64 0, .int .i64 0, .int .i64 0, .slice none 0 0, .slice none 0 0, .slice none 0 0, .slice none 0 0, .slice none 0 0]
  four : Bk wr (W + 1) 28 [.int .i64 0, .int .i64 0, .int .i64 0, .int .i64 0, .int .i64 0, .int .i64 0, .int .i64 0, .int .i64 0, .slice none 0 0, .slice none 0 0, .slice none 0 0, .slice none 0 0, .slice none 0 0]
  grown : wB.grownBy wr (some g)
  rows : RdS RB (GD W g) wr (some x) c ss
theorem DBase.step {W g : Nat} {x : Addr} {c : Nat} {ss : List (List UInt8)} {wB wr w' : World} (h : DBase W g x c ss wB wr) (hg : wr.grownBy w' (some g)) (hW : W + 1 < g) : DBase W g x c ss wB w' :=
  ⟨h.two.grown hg (fun e => by injection e with e; omega), h.four.grown hg (fun e => by injection e with e; omega), grown_trans h.grown hg (.inl rfl),
    h.rows.keep (Kp.of_grown hg fun b hb e => hb.2 (Option.some.inj e)) fun _ h _ => h⟩
structure DGood (r : Option Mg) (W g : Nat) (ps : List Nat) (fs : List (List UInt8)) (kd : Int) (k : Nat) (mk : Mg) (qk : Mad) (wr : World) : Prop where
  box : Bk wr g 28 (mgC mk qk)
  read : MgR (GD W g) wr mk qk
  puts : okX Mg.ok (mk.puts (ps.drop k) (fs.drop k)) = r
  kind : mk.kind = kd
  prov : 8 ∉ ps.take k → qk.va = none ∧ qk.vc = 0 ∧ mk.proven = []
section
variable {r : Option Mg} {W g : Nat} {ps : List Nat} {fs : List (List UInt8)} {kd : Int} {k p : Nat} {mk m' : Mg} {qk q' : Mad} {wr w' : World} {f : List UInt8}
theorem DGood.next (h : DGood r W g ps fs kd k mk qk wr) (hp : ps[k]? = some p) (hf : fs[k]? = some f) (hm : mk.put p f = some m') (hb : Bk w' g 28 (mgC m' q')) (hr : MgR (GD W g) w' m' q')
    (hpv : p ≠ 8 → q'.va = qk.va ∧ q'.vc = qk.vc ∧ m'.proven = mk.proven) : DGood r W g ps fs kd (k + 1) m' q' w' := by
  refine ⟨hb, hr, ?_, (put_kind hm).trans h.kind, fun hn => ?_⟩
  · have := h.puts
    rw [puts_step hp hf, hm] at this
    exact this
  · obtain ⟨hk, rfl⟩ := List.getElem?_eq_some_iff.1 hp
    rw [List.take_succ_eq_append_getElem hk] at hn
    simp only [List.mem_append, List.mem_singleton, not_or] at hn
    obtain ⟨h1, h2, h3⟩ := h.prov hn.1
    obtain ⟨e1, e2, e3⟩ := hpv (fun e => hn.2 e.symm)
    exact ⟨e1.trans h1, e2.trans h2, e3.trans h3⟩
theorem DGood.none_ (h : DGood r W g ps fs kd k mk qk wr) (hp : ps[k]? = some p) (hf : fs[k]? = some f) (hm : mk.put p f = none) : r = none := by
  have := h.puts
  rw [puts_step hp hf, hm] at this
  exact this.symm
theorem DGood.stuck (h : DGood r W g ps fs kd k mk qk wr) (hps : ps = partsN kd) (hp : ps[k]? = some p) (hf : fs[k]? = some f) (hbad : ∀ M : Mg, M.partOk p = true → M.partPack p = some f → False) : r = none := by
  have hpu := h.puts
  cases hq : mk.puts (ps.drop k) (fs.drop k) with
  | none => rw [← hpu, hq]; rfl
  | some M =>
    cases hok : M.ok with
    | false => rw [← hpu, hq]; simp [okX, hok]
    | true =>
      exfalso
      have hnd : (ps.drop k).Nodup := by rw [hps]; exact (List.drop_sublist k _).nodup parts_nodup
      have hle : ∀ q ∈ ps.drop k, q ≤ 8 := fun q hq => by rw [hps] at hq; exact parts_le q (List.mem_of_mem_drop hq)
      obtain ⟨h1, h2⟩ := pack_puts (ps.drop k) (fs.drop k) mk M hle hnd hq
      obtain ⟨hk, rfl⟩ := List.getElem?_eq_some_iff.1 hp
      obtain ⟨hk2, rfl⟩ := List.getElem?_eq_some_iff.1 hf
      rw [List.drop_eq_getElem_cons hk, List.drop_eq_getElem_cons hk2] at h1
      unfold allX at h1
      cases hh : M.partPack ps[k] with
      | none => rw [hh] at h1; cases h1
      | some y =>
        rw [hh] at h1
        cases hr : allX M.partPack (ps.drop (k + 1)) with
        | none => rw [hr] at h1; cases h1
        | some ys =>
          rw [hr] at h1
          injection h1 with h1
          injection h1 with h3 _
          subst h3
          refine hbad M ?_ hh
          cases hpo : M.partOk ps[k] with
          | true => rfl
          | false =>
            have := ok_part (m := M) (p := ps[k]) (by rw [h2, h.kind, ← hps]; simp) hpo
            rw [this] at hok
            cases hok
end
theorem dec_en {f : List UInt8} {y : En} (h : decEn f = some y) : rdEn f = some y ∧ y.ok = true := by
  unfold decEn okX at h
  cases hr : rdEn f with
  | none => rw [hr] at h; cases h
  | some x =>
    rw [hr] at h
    cases hx : x.ok with
    | false => simp [hx] at h
    | true =>
      simp only [hx, if_true] at h
      obtain rfl := Option.some.inj h
      exact ⟨rfl, hx⟩
theorem en_dec {f : List UInt8} {y : En} (h : rdEn f = some y) (ho : y.ok = true) : decEn f = some y := by unfold decEn okX; rw [h]; simp [ho]
theorem bad4 {f : List UInt8} (h : decEn f = none) (M : Mg) (ho : M.partOk 4 = true) (hp : M.partPack 4 = some f) : False := by
  have ho : M.e.ok = true := ho
  have hp : some M.e.pack = some f := hp
  injection hp with hp
  subst hp
  rw [en_dec (rdEn_pack ho) ho] at h
  cases h
theorem bad7 {f : List UInt8} (h : ∀ xs, rdLts f = some xs → (∀ x ∈ xs, x.ok = true) → False) (M : Mg) (ho : M.partOk 7 = true) (hp : M.partPack 7 = some f) : False :=
  h M.proof (rdLts_pack (show ltsOk M.proof = true from ho) hp) (ltsOk_mem (show ltsOk M.proof = true from ho)).2
/-- what is proven with an entry and letters that are right -/
def PvHalf (x : Pv) : Prop := x.e.ok = true ∧ ∀ l ∈ x.votes, l.ok = true
theorem bad8 {f : List UInt8} (h : ∀ xs, rdPvs f = some xs → (∀ x ∈ xs, PvHalf x) → False) (M : Mg) (ho : M.partOk 8 = true) (hp : M.partPack 8 = some f) : False := by
  have ho : pvsOk M.proven = true := ho
  refine h M.proven (rdPvs_pack ho hp) fun x hx => ?_
  have := pv_ok9 ((pvsOk_mem ho).2 x hx)
  exact ⟨this.2.2.1, this.2.2.2.2⟩
/-- a row that can't be read so stops all -/
theorem row_bad {fs : List (List UInt8)} {l row : List UInt8} (hl : rdPvs l = allX rdPv fs) (hm : row ∈ fs) (hb : ∀ y, rdPv row = some y → PvHalf y → False) : ∀ xs, rdPvs l = some xs → (∀ x ∈ xs, PvHalf x) → False := by
  intro xs hx ha
  rw [hl] at hx
  obtain ⟨y, hy, he⟩ := allX_has hx row hm
  exact hb y he (ha y hy)
theorem pv_of {row f0 f1 f2 : List UInt8} {a b : Int} {e : En} {v : List Lt} (hf : rdFlds 3 row = some [f0, f1, f2]) (hn : rdNums 2 f0 = some [a, b]) (he : rdEn f1 = some e) (hv : rdLts f2 = some v) : rdPv row = some ⟨a, b, e, v⟩ := by
  unfold rdPv
  rw [hf]
  simp only [hn, he, hv]
theorem pv_to {row : List UInt8} {y : Pv} (h : rdPv row = some y) : ∃ f0 f1 f2, rdFlds 3 row = some [f0, f1, f2] ∧ rdNums 2 f0 = some [y.seq, y.view] ∧ rdEn f1 = some y.e ∧ rdLts f2 = some y.votes := by
  unfold rdPv at h
  split at h
  · rename_i f0 f1 f2 hf
    split at h
    · rename_i a b hn
      split at h
      · rename_i e he
        split at h
        · rename_i v hv
          obtain rfl := Option.some.inj h
          exact ⟨f0, f1, f2, hf, hn, he, hv⟩
        · cases h
      · cases h
    · cases h
  · cases h
/-- the message that has only a kind, without parts -/
theorem kind_good {r : Option Mg} {W g : Nat} {ps : List Nat} {fs : List (List UInt8)} {kd : Int} {wr : World} (hb : Bk wr g 28 (mgC (kindMg kd) ⟨none, 0, none, 0, none, 0, none, 0, none, 0⟩)) (hr : okX Mg.ok ((kindMg kd).puts ps fs) = r) : DGood r W g ps fs kd 0 (kindMg kd) ⟨none, 0, none, 0, none, 0, none, 0, none, 0⟩ wr :=
  ⟨hb, ⟨BF.nil_ _ _, BF.nil_ _ _, BF.nil_ _ _, RdS.nil_ _ _ _, RdS.nil_ _ _ _⟩, by simpa using hr, rfl, fun _ => ⟨rfl, rfl, rfl⟩⟩
/-- where the loop over the parts stands -/
def DSt (r : Option Mg) (W g : Nat) (x : Addr) (c : Nat) (f0 : List UInt8) (ps : List Nat) (fs : List (List UInt8)) (kd : Int) (wB : World) (k : Nat) (ok : Bool) (wr : World) : Prop :=
  DBase W g x c (f0 :: fs) wB wr ∧ (ok = true → ∃ mk qk, DGood r W g ps fs kd k mk qk wr) ∧ (ok = false → r = none)
theorem wpList_store_bk8 {P : Program} {ops : Array Oper} {rest : List Oper} {o : Oper} {a : Act} {w : World} {Q : Exit → Act → World → Prop} (hgd : o.guard = none) (ty : TypeId) (x y : Operand) (ho : o.op = .store ty x y)
    (g : Nat) (vs : List Value) (hx : a.eval x = .pointer (some ⟨g, 0, none⟩)) (hy : a.eval y = .agg vs.toArray) (t : TypeId) (cur : List Value) (hb : Bk w g t cur) (hl : vs.length = cur.length)
    (hi : (P.info? ty).map (·.size) = some vs.length) (h1 : vs.all (·.oneCell') = true) (h : ∀ w', Hid (Bk w' g t vs) → Hid (w.grownBy w' (some g)) → wpList P ops Q rest (a.put o.dst undef) w') : wpList P ops Q (o :: rest) a w := by
  refine wpList_store_mid hgd ty x y ho g 0 vs.toArray hx hy (hb.there (by simp; omega)) (by simpa using hi) (all_oneCell_toArray (fun v hv => List.all_eq_true.1 h1 v hv)) ?_
  exact h _ (Lib.hid (hb.setAll vs hl)) (Lib.hid (grown_setCells vs 0 (grown_refl w _)))
/-- the bytes are a list whose first field is one of these kinds -/
def IsK (l : List UInt8) (K : List Int) : Prop := ∃ f0 fs kd, (splitN l).1 = 0 ∧ (splitN l).2 = f0 :: fs ∧ rdNum f0 = some kd ∧ kd ∈ K
theorem nodup_take8 {kd : Int} {ps : List Nat} {k p : Nat} (hps : ps = partsN kd) (h : ps[k]? = some p) : p ∉ ps.take k := by
  have hn : ps.Nodup := by rw [hps]; exact parts_nodup
  obtain ⟨hk, rfl⟩ := List.getElem?_eq_some_iff.1 h
  intro hm
  obtain ⟨i, hi, e⟩ := List.getElem_of_mem hm
  rw [List.length_take] at hi
  rw [List.getElem_take] at e
  exact List.pairwise_iff_getElem.1 hn i k (by omega) hk (by omega) e
theorem OwnS.set12 {α : Type} {R : Rdr α} {ty : TypeId} {G : Nat → Prop} {base : Nat} {w : World} {A : Option Addr} {n c : Nat} {xs : List α} (h : OwnS R ty G base w A n c xs) {g : Nat} (hgb : g < base) (i : Nat) (u : Value) (hG : ∀ b, G b → b ≠ g) :
    OwnS R ty G base (w.setCell ⟨g, i, none⟩ u) A n c xs := by
  have hblk := h.block
  obtain ⟨h1, css, h2, h3, h4⟩ := h
  have hgr := grown_set (grown_refl w (some g)) i u
  refine ⟨h1, css, h2, World.ownsRow.kept h3 hgr (.inr fun e => by have := hblk g e; omega), fun k x cs hx hc => R.keep (h4 k x cs hx hc) (Kp.of_grown hgr fun b hb e => hG b hb.1 (Option.some.inj e)) fun _ h _ => h⟩
/-- where the loop over what is proven stands -/
def PSt (r : Option Mg) (g : Nat) (C : List Value) (w5 : World) (fs2 : List (List UInt8)) (j : Nat) (ok : Bool) (wx : World) : Prop :=
  w5.grownBy wx (some g) ∧ (ok = true → ∃ (acc : List Pv) (A' : Option Addr) (c' : Nat), Bk wx g 28 (C ++ [.slice A' acc.length c']) ∧ OwnS RPv 62 (From w5.heap.size) w5.heap.size wx A' acc.length c' acc ∧ allX rdPv (fs2.take j) = some acc ∧ ∀ x ∈ acc, PvHalf x) ∧ (ok = false → r = none)
end Go.Proofs.Ytmgmmbgjmnklkaa

/-
  The reference's Decode. A walk; no statement.
-/
namespace Go.Proofs.Ytmgmmbgjmnklkaa
set_option maxRecDepth 100000
open Go.RowKit
open Pk
set_option linter.unusedVariables false

theorem dec_split {l : List UInt8} (h : (splitN l).1 ≠ 0) : decMg l = none := by unfold decMg okX; rw [rdMg_none h]
theorem dec_some {l : List UInt8} (h : (splitN l).1 = 0) : decMg l = okX Mg.ok (match (splitN l).2 with
    | f0 :: fs => (match rdNum f0 with
      | some k => if kindB k then (kindMg k).puts (partsN k) fs else none
      | none => none)
    | _ => none) := by unfold decMg; rw [rdMg_some h]; cases (splitN l).2 <;> rfl
set_option maxHeartbeats 6400000 in
theorem refDecodeZ_any (L : Option Addr) (ln lc : Nat) (l : List UInt8) (w : World) (h : Sl w L ln lc l) (hn : ln ≤ 4294967296) (hq : ¬ IsK l [1, 2, 3, 4, 5, 6, 7, 8, 9, 10, 11, 12, 13, 14]) :
    Calls Try.prog 19 #[.slice L ln lc] w (DecM l w) := by
  have HQ := Lib.hid (show (splitN l).1 = 0 → ∀ g0 gs kd, (splitN l).2 = g0 :: gs → rdNum g0 = some kd → kindB kd = true → False from fun h0 g0 gs kd h1 h2 h3 => hq ⟨g0, gs, kd, h0, h1, h2, by rcases kind_cases h3 with rfl | rfl | rfl | rfl | rfl | rfl | rfl | rfl | rfl | rfl | rfl | rfl | rfl | rfl <;> decide⟩)
  clear hq
  obtain ⟨r, hr⟩ : ∃ r, r = decMg l := ⟨_, rfl⟩
  have HRL := Lib.hid hr
  clear hr
  obtain ⟨i0, hi, hz0, hz1, hz2⟩ := info_parts info_provenA
  have s1 : (w.alloc (.cells #[.int .i64 0, .int .i64 0, .int .i64 0, .int .i64 0, .int .i64 0, .int .i64 0, .int .i64 0, .int .i64 0, .slice none 0 0, .slice none 0 0, .slice none 0 0, .slice none 0 0, .slice none 0 0] 28)).heap.size = w.heap.size + 1 := by simp
  obtain ⟨X, hX⟩ : ∃ X, X = (w.alloc (.cells #[.int .i64 0, .int .i64 0, .int .i64 0, .int .i64 0, .int .i64 0, .int .i64 0, .int .i64 0, .int .i64 0, .slice none 0 0, .slice none 0 0, .slice none 0 0, .slice none 0 0, .slice none 0 0] 28)).alloc (.cells #[.int .i64 0, .int .i64 0, .int .i64 0, .int .i64 0, .int .i64 0, .int .i64 0, .int .i64 0, .int .i64 0, .slice none 0 0, .slice none 0 0, .slice none 0 0, .slice none 0 0, .slice none 0 0] 28) := ⟨_, rfl⟩
  have hB : Below w.heap.size w X := by rw [hX]; exact ((Below.refl w.heap.size w).alloc (Nat.le_refl _) (.cells #[.int .i64 0, .int .i64 0, .int .i64 0, .int .i64 0, .int .i64 0, .int .i64 0, .int .i64 0, .int .i64 0, .slice none 0 0, .slice none 0 0, .slice none 0 0, .slice none 0 0, .slice none 0 0] 28)).alloc (by rw [s1]; omega) (.cells #[.int .i64 0, .int .i64 0, .int .i64 0, .int .i64 0, .int .i64 0, .int .i64 0, .int .i64 0, .int .i64 0, .slice none 0 0, .slice none 0 0, .slice none 0 0, .slice none 0 0, .slice none 0 0] 28)
  have HB := Lib.hid hB
  have HK2 := Lib.hid (show Bk X w.heap.size 28 [.int .i64 0, .int .i64 0, .int .i64 0, .int .i64 0, .int .i64 0, .int .i64 0, .int .i64 0, .int .i64 0, .slice none 0 0, .slice none 0 0, .slice none 0 0, .slice none 0 0, .slice none 0 0] by rw [hX]; exact (Bk.new w 28 [.int .i64 0, .int .i64 0, .int .i64 0, .int .i64 0, .int .i64 0, .int .i64 0, .int .i64 0, .int .i64 0, .slice none 0 0, .slice none 0 0, .slice none 0 0, .slice none 0 0, .slice none 0 0]).alloc _)
  have HK4 := Lib.hid (show Bk X (w.heap.size + 1) 28 [.int .i64 0, .int .i64 0, .int .i64 0, .int .i64 0, .int .i64 0, .int .i64 0, .int .i64 0, .int .i64 0, .slice none 0 0, .slice none 0 0, .slice none 0 0, .slice none 0 0, .slice none 0 0] by rw [hX]; exact bk_new2 w _ _ _)
  have HC := Lib.hid (refSplit_any L ln lc l X (h.below hB).rd h.1 h.2.1 (by omega))
  clear h hn hB s1
  go_enter Try.func19, Try.ntmps19
  go_upto_region 2 with fail
  rw [← hX]
  clear hX
  go_wp2_with fail
  refine HC.out.mono ?_
  rintro e w1 ⟨hb1, ⟨hz, rfl⟩ | ⟨hz, A1, n1, c1, rfl, ho1⟩⟩
  · have hk : (((splitN l).1 : Int) != 0) = true := by rw [bne_iff_ne]; omega
    have HD := Lib.hid (HRL.out.trans (dec_split hz))
    have HB1 := Lib.hid (below_next HB.out hb1 HB.out.size)
    have HK12 := Lib.hid (HK2.out.kept hb1)
    have HK14 := Lib.hid (HK4.out.kept hb1)
    clear hz hb1 HC HB HK2 HK4
    go_wp2_with (first
      | (refine wpList_load_row rfl 28 _ rfl (w.heap.size + 1) rfl 28 #[.int .i64 0, .int .i64 0, .int .i64 0, .int .i64 0, .int .i64 0, .int .i64 0, .int .i64 0, .int .i64 0, .slice none 0 0, .slice none 0 0, .slice none 0 0, .slice none 0 0, .slice none 0 0] (0, 0) _ HK14.out Try.underlying28 rfl info1_M ?_)
      | (refine wpList_store_bk8 rfl 28 _ _ rfl w.heap.size [.int .i64 0, .int .i64 0, .int .i64 0, .int .i64 0, .int .i64 0, .int .i64 0, .int .i64 0, .int .i64 0, .slice none 0 0, .slice none 0 0, .slice none 0 0, .slice none 0 0, .slice none 0 0] rfl rfl 28 [.int .i64 0, .int .i64 0, .int .i64 0, .int .i64 0, .int .i64 0, .int .i64 0, .int .i64 0, .int .i64 0, .slice none 0 0, .slice none 0 0, .slice none 0 0, .slice none 0 0, .slice none 0 0] HK12.out rfl info1_M rfl ?_
         intro w99 hk99 hg99))
    refine bodyPost_ret_by (results_row_tmp rfl _ _ w.heap.size 28 _ _ rfl hk99.out Try.underlying28 rfl info1_M) rfl ?_
    exact ⟨HB1.out.grown hg99.out HB1.out.size (fun g hg => by cases hg; omega), .inr ⟨HRL.out.symm.trans HD.out, rfl⟩⟩
  have HZ0 := Lib.hid hz
  have HD := Lib.hid (HRL.out.trans (dec_some hz))
  have hk0 : (((splitN l).1 : Int) != 0) = false := by rw [bne_eq_false_iff_eq]; omega
  have HB1 := Lib.hid (below_next HB.out hb1 HB.out.size)
  have HK12 := Lib.hid (HK2.out.kept hb1)
  have HK14 := Lib.hid (HK4.out.kept hb1)
  have HF := Lib.hid ((RdS.of_own ho1).keep (F' := GD w.heap.size w1.heap.size) ⟨Nat.le_refl _, fun _ _ _ => rfl⟩ fun b hb hl => ⟨by have := HK4.out.lt; unfold From at hb; omega, by omega⟩)
  have HSF := Lib.hid (split_fields hz)
  have hfn := split_len hz
  obtain rfl : (splitN l).2.length = n1 := ho1.1
  clear hz hb1 ho1 HC HB HK2 HK4
  generalize (splitN l).2 = ss at *
  match ss with
  | [] =>
    have HDe := Lib.hid (show r = none by rw [HD.out]; rfl)
    go_wp2_with (first
      | (refine wpList_load_row rfl 28 _ rfl (w.heap.size + 1) rfl 28 #[.int .i64 0, .int .i64 0, .int .i64 0, .int .i64 0, .int .i64 0, .int .i64 0, .int .i64 0, .int .i64 0, .slice none 0 0, .slice none 0 0, .slice none 0 0, .slice none 0 0, .slice none 0 0] (0, 0) _ HK14.out Try.underlying28 rfl info1_M ?_)
      | (refine wpList_store_bk8 rfl 28 _ _ rfl w.heap.size [.int .i64 0, .int .i64 0, .int .i64 0, .int .i64 0, .int .i64 0, .int .i64 0, .int .i64 0, .int .i64 0, .slice none 0 0, .slice none 0 0, .slice none 0 0, .slice none 0 0, .slice none 0 0] rfl rfl 28 [.int .i64 0, .int .i64 0, .int .i64 0, .int .i64 0, .int .i64 0, .int .i64 0, .int .i64 0, .int .i64 0, .slice none 0 0, .slice none 0 0, .slice none 0 0, .slice none 0 0, .slice none 0 0] HK12.out rfl info1_M rfl ?_
         intro w99 hk99 hg99))
    refine bodyPost_ret_by (results_row_tmp rfl _ _ w.heap.size 28 _ _ rfl hk99.out Try.underlying28 rfl info1_M) rfl ?_
    exact ⟨HB1.out.grown hg99.out HB1.out.size (fun g hg => by cases hg; omega), .inr ⟨HRL.out.symm.trans HDe.out, rfl⟩⟩
  | f0 :: fs =>
    obtain ⟨x, B0, d0, rfl, hxb, hc0, hB0⟩ := HF.out.b1 (k := 0) rfl
    have hc0' : w1.cell? x = some (.slice B0 f0.length d0) := by simpa [Addr.add] using hc0
    have y1 : (0 : Int) < ((fs.length : Int) + 1) := by omega
    have y0 : (((fs.length : Int) + 1) == 0) = false := by rw [beq_eq_false_iff_ne]; omega
    have HX := Lib.hid (show x.block < w1.heap.size from hxb)
    obtain ⟨X1, hX1⟩ : ∃ X1, X1 = w1.alloc (.cells #[.int .i64 0, .int .i64 0, .int .i64 0, .int .i64 0, .int .i64 0, .int .i64 0, .int .i64 0, .int .i64 0, .slice none 0 0, .slice none 0 0, .slice none 0 0, .slice none 0 0, .slice none 0 0] 28) := ⟨_, rfl⟩
    have hb1 : Below w1.heap.size w1 X1 := by rw [hX1]; exact (Below.refl _ _).alloc (Nat.le_refl _) _
    have HKM := Lib.hid (show Bk X1 w1.heap.size 28 [.int .i64 0, .int .i64 0, .int .i64 0, .int .i64 0, .int .i64 0, .int .i64 0, .int .i64 0, .int .i64 0, .slice none 0 0, .slice none 0 0, .slice none 0 0, .slice none 0 0, .slice none 0 0] by rw [hX1]; exact Bk.new w1 _ _)
    have HBX := Lib.hid (below_next HB1.out hb1 HB1.out.size)
    have HKX2 := Lib.hid (HK12.out.kept hb1)
    have HKX4 := Lib.hid (HK14.out.kept hb1)
    have HFX := Lib.hid (HF.out.below hb1)
    have HCX := Lib.hid (refOne_any B0 f0.length d0 f0 X1 (hB0.below hb1).sl (by have := HSF.out f0 (List.mem_cons_self ..); omega))
    have hc1 := kept_cell hc0' hb1
    have HGW := Lib.hid (show w.heap.size + 1 < w1.heap.size from HK14.out.lt)
    clear hxb hc0 hB0 hb1 hc0' HB1 HK12 HK14 HF
    go_upto_region 6 with fail
    rw [← hX1]
    clear hX1
    go_wp2_with fail
    refine HCX.out.mono ?_
    rintro e w2 ⟨hb2, ⟨kd, hkd, rfl⟩ | ⟨hkd, rfl⟩⟩
    rotate_left
    · have HD2 := Lib.hid (show r = none by rw [HD.out]; simp only [hkd]; rfl)
      have HBXb := Lib.hid (below_next HBX.out hb2 HBX.out.size)
      have HKX2b := Lib.hid (HKX2.out.kept hb2)
      have HKX4b := Lib.hid (HKX4.out.kept hb2)
      have HKMb := Lib.hid (HKM.out.kept hb2)
      have HFXb := Lib.hid (HFX.out.below hb2)
      clear hb2 hkd HD
      go_wp2_with fail
      refine (refParts_any 0 _).mono ?_
      rintro e w3 ⟨rfl, hb3⟩
      have HBXc := Lib.hid (below_next HBXb.out hb3 HBXb.out.size)
      have HKX2c := Lib.hid (HKX2b.out.kept hb3)
      have HKX4c := Lib.hid (HKX4b.out.kept hb3)
      have HKMc := Lib.hid (HKMb.out.kept hb3)
      have HFXc := Lib.hid (HFXb.out.below hb3)
      clear hb3 hc1
      go_wp2_with (first
        | (refine wpList_load_row rfl 28 _ rfl (w.heap.size + 1) rfl 28 #[.int .i64 0, .int .i64 0, .int .i64 0, .int .i64 0, .int .i64 0, .int .i64 0, .int .i64 0, .int .i64 0, .slice none 0 0, .slice none 0 0, .slice none 0 0, .slice none 0 0, .slice none 0 0] (0, 0) _ HKX4c.out Try.underlying28 rfl info1_M ?_)
        | (refine wpList_store_bk8 rfl 28 _ _ rfl w.heap.size [.int .i64 0, .int .i64 0, .int .i64 0, .int .i64 0, .int .i64 0, .int .i64 0, .int .i64 0, .int .i64 0, .slice none 0 0, .slice none 0 0, .slice none 0 0, .slice none 0 0, .slice none 0 0] rfl rfl 28 [.int .i64 0, .int .i64 0, .int .i64 0, .int .i64 0, .int .i64 0, .int .i64 0, .int .i64 0, .int .i64 0, .slice none 0 0, .slice none 0 0, .slice none 0 0, .slice none 0 0, .slice none 0 0] HKX2c.out rfl info1_M rfl ?_
           intro w99 hk99 hg99))
      refine bodyPost_ret_by (results_row_tmp rfl _ _ w.heap.size 28 _ _ rfl hk99.out Try.underlying28 rfl info1_M) rfl ?_
      exact ⟨HBXc.out.grown hg99.out HBXc.out.size (fun g hg => by cases hg; omega), .inr ⟨HRL.out.symm.trans HD2.out, rfl⟩⟩
    have HBXb := Lib.hid (below_next HBX.out hb2 HBX.out.size)
    have HKX2b := Lib.hid (HKX2.out.kept hb2)
    have HKX4b := Lib.hid (HKX4.out.kept hb2)
    have HKMb := Lib.hid (HKM.out.kept hb2)
    have HFXb := Lib.hid (HFX.out.below hb2)
    have HD2 := Lib.hid (show r = okX Mg.ok (if kindB kd then (kindMg kd).puts (partsN kd) fs else none) by rw [HD.out]; simp only [hkd])
    have HKD := Lib.hid (fun h => HQ.out HZ0.out f0 fs kd rfl hkd h)
    clear hb2 hkd HD hc1
    go_wp2_with fail
    refine (refParts_any kd _).mono ?_
    rintro e w3 ⟨rfl, hb3⟩
    have HBXc := Lib.hid (below_next HBXb.out hb3 HBXb.out.size)
    have HKX2c := Lib.hid (HKX2b.out.kept hb3)
    have HKX4c := Lib.hid (HKX4b.out.kept hb3)
    have HKMc := Lib.hid (HKMb.out.kept hb3)
    have HFXc := Lib.hid (HFXb.out.below hb3)
    clear hb3
    have hll := letters_len kd
    by_cases hkb : kindB kd = true
    rotate_left
    · have hk2 : kindB kd = false := by simpa using hkb
      have HD3 := Lib.hid (show r = none by rw [HD2.out, hk2]; rfl)
      rw [letters_none hk2]
      clear hll hkb hk2 HD2
      by_cases hf : fs.length = 0
      · have y5 : (((fs.length : Int) + 1) != 1) = false := by rw [bne_eq_false_iff_eq]; omega
        go_wp2_with (first
          | (refine wpList_load_row rfl 28 _ rfl (w.heap.size + 1) rfl 28 #[.int .i64 0, .int .i64 0, .int .i64 0, .int .i64 0, .int .i64 0, .int .i64 0, .int .i64 0, .int .i64 0, .slice none 0 0, .slice none 0 0, .slice none 0 0, .slice none 0 0, .slice none 0 0] (0, 0) _ HKX4c.out Try.underlying28 rfl info1_M ?_)
          | (refine wpList_store_bk8 rfl 28 _ _ rfl w.heap.size [.int .i64 0, .int .i64 0, .int .i64 0, .int .i64 0, .int .i64 0, .int .i64 0, .int .i64 0, .int .i64 0, .slice none 0 0, .slice none 0 0, .slice none 0 0, .slice none 0 0, .slice none 0 0] rfl rfl 28 [.int .i64 0, .int .i64 0, .int .i64 0, .int .i64 0, .int .i64 0, .int .i64 0, .int .i64 0, .int .i64 0, .slice none 0 0, .slice none 0 0, .slice none 0 0, .slice none 0 0, .slice none 0 0] HKX2c.out rfl info1_M rfl ?_
             intro w99 hk99 hg99))
        refine bodyPost_ret_by (results_row_tmp rfl _ _ w.heap.size 28 _ _ rfl hk99.out Try.underlying28 rfl info1_M) rfl ?_
        exact ⟨HBXc.out.grown hg99.out HBXc.out.size (fun g hg => by cases hg; omega), .inr ⟨HRL.out.symm.trans HD3.out, rfl⟩⟩
      · have y5 : (((fs.length : Int) + 1) != 1) = true := by rw [bne_iff_ne]; omega
        go_wp2_with (first
          | (refine wpList_load_row rfl 28 _ rfl (w.heap.size + 1) rfl 28 #[.int .i64 0, .int .i64 0, .int .i64 0, .int .i64 0, .int .i64 0, .int .i64 0, .int .i64 0, .int .i64 0, .slice none 0 0, .slice none 0 0, .slice none 0 0, .slice none 0 0, .slice none 0 0] (0, 0) _ HKX4c.out Try.underlying28 rfl info1_M ?_)
          | (refine wpList_store_bk8 rfl 28 _ _ rfl w.heap.size [.int .i64 0, .int .i64 0, .int .i64 0, .int .i64 0, .int .i64 0, .int .i64 0, .int .i64 0, .int .i64 0, .slice none 0 0, .slice none 0 0, .slice none 0 0, .slice none 0 0, .slice none 0 0] rfl rfl 28 [.int .i64 0, .int .i64 0, .int .i64 0, .int .i64 0, .int .i64 0, .int .i64 0, .int .i64 0, .int .i64 0, .slice none 0 0, .slice none 0 0, .slice none 0 0, .slice none 0 0, .slice none 0 0] HKX2c.out rfl info1_M rfl ?_
             intro w99 hk99 hg99))
        refine bodyPost_ret_by (results_row_tmp rfl _ _ w.heap.size 28 _ _ rfl hk99.out Try.underlying28 rfl info1_M) rfl ?_
        exact ⟨HBXc.out.grown hg99.out HBXc.out.size (fun g hg => by cases hg; omega), .inr ⟨HRL.out.symm.trans HD3.out, rfl⟩⟩
    have hF : False := HKD.out hkb
    cases hF
set_option maxHeartbeats 6400000 in
theorem refDecodeA1_any (L : Option Addr) (ln lc : Nat) (l : List UInt8) (w : World) (h : Sl w L ln lc l) (hn : ln ≤ 4294967296) (hq : IsK l [3, 4, 5, 6]) :
    Calls Try.prog 19 #[.slice L ln lc] w (DecM l w) := by
  have HZ0 := Lib.hid (show (splitN l).1 = 0 by obtain ⟨_, _, _, h1, _⟩ := hq; exact h1)
  have HN0 := Lib.hid (show (splitN l).2 ≠ [] by obtain ⟨_, _, _, _, h1, _⟩ := hq; rw [h1]; exact List.cons_ne_nil _ _)
  have HQ := Lib.hid (show ∀ g0 gs, (splitN l).2 = g0 :: gs → ∃ kd, rdNum g0 = some kd ∧ kd ∈ ([3, 4, 5, 6] : List Int) by
    intro g0 gs h1
    obtain ⟨f0, fs, kd, _, h2, h3, h4⟩ := hq
    rw [h1] at h2
    injection h2 with h2 _
    rw [h2]
    exact ⟨kd, h3, h4⟩)
  clear hq
  obtain ⟨r, hr⟩ : ∃ r, r = decMg l := ⟨_, rfl⟩
  have HRL := Lib.hid hr
  clear hr
  obtain ⟨i0, hi, hz0, hz1, hz2⟩ := info_parts info_provenA
  have s1 : (w.alloc (.cells #[.int .i64 0, .int .i64 0, .int .i64 0, .int .i64 0, .int .i64 0, .int .i64 0, .int .i64 0, .int .i64 0, .slice none 0 0, .slice none 0 0, .slice none 0 0, .slice none 0 0, .slice none 0 0] 28)).heap.size = w.heap.size + 1 := by simp
  obtain ⟨X, hX⟩ : ∃ X, X = (w.alloc (.cells #[.int .i64 0, .int .i64 0, .int .i64 0, .int .i64 0, .int .i64 0, .int .i64 0, .int .i64 0, .int .i64 0, .slice none 0 0, .slice none 0 0, .slice none 0 0, .slice none 0 0, .slice none 0 0] 28)).alloc (.cells #[.int .i64 0, .int .i64 0, .int .i64 0, .int .i64 0, .int .i64 0, .int .i64 0, .int .i64 0, .int .i64 0, .slice none 0 0, .slice none 0 0, .slice none 0 0, .slice none 0 0, .slice none 0 0] 28) := ⟨_, rfl⟩
  have hB : Below w.heap.size w X := by rw [hX]; exact ((Below.refl w.heap.size w).alloc (Nat.le_refl _) (.cells #[.int .i64 0, .int .i64 0, .int .i64 0, .int .i64 0, .int .i64 0, .int .i64 0, .int .i64 0, .int .i64 0, .slice none 0 0, .slice none 0 0, .slice none 0 0, .slice none 0 0, .slice none 0 0] 28)).alloc (by rw [s1]; omega) (.cells #[.int .i64 0, .int .i64 0, .int .i64 0, .int .i64 0, .int .i64 0, .int .i64 0, .int .i64 0, .int .i64 0, .slice none 0 0, .slice none 0 0, .slice none 0 0, .slice none 0 0, .slice none 0 0] 28)
  have HB := Lib.hid hB
  have HK2 := Lib.hid (show Bk X w.heap.size 28 [.int .i64 0, .int .i64 0, .int .i64 0, .int .i64 0, .int .i64 0, .int .i64 0, .int .i64 0, .int .i64 0, .slice none 0 0, .slice none 0 0, .slice none 0 0, .slice none 0 0, .slice none 0 0] by rw [hX]; exact (Bk.new w 28 [.int .i64 0, .int .i64 0, .int .i64 0, .int .i64 0, .int .i64 0, .int .i64 0, .int .i64 0, .int .i64 0, .slice none 0 0, .slice none 0 0, .slice none 0 0, .slice none 0 0, .slice none 0 0]).alloc _)
  have HK4 := Lib.hid (show Bk X (w.heap.size + 1) 28 [.int .i64 0, .int .i64 0, .int .i64 0, .int .i64 0, .int .i64 0, .int .i64 0, .int .i64 0, .int .i64 0, .slice none 0 0, .slice none 0 0, .slice none 0 0, .slice none 0 0, .slice none 0 0] by rw [hX]; exact bk_new2 w _ _ _)
  have HC := Lib.hid (refSplit_any L ln lc l X (h.below hB).rd h.1 h.2.1 (by omega))
  clear h hn hB s1
  go_enter Try.func19, Try.ntmps19
  go_upto_region 2 with fail
  rw [← hX]
  clear hX
  go_wp2_with fail
  refine HC.out.mono ?_
  rintro e w1 ⟨hb1, ⟨hz, rfl⟩ | ⟨hz, A1, n1, c1, rfl, ho1⟩⟩
  · exact absurd HZ0.out hz
  have HD := Lib.hid (HRL.out.trans (dec_some hz))
  have hk0 : (((splitN l).1 : Int) != 0) = false := by rw [bne_eq_false_iff_eq]; omega
  have HB1 := Lib.hid (below_next HB.out hb1 HB.out.size)
  have HK12 := Lib.hid (HK2.out.kept hb1)
  have HK14 := Lib.hid (HK4.out.kept hb1)
  have HF := Lib.hid ((RdS.of_own ho1).keep (F' := GD w.heap.size w1.heap.size) ⟨Nat.le_refl _, fun _ _ _ => rfl⟩ fun b hb hl => ⟨by have := HK4.out.lt; unfold From at hb; omega, by omega⟩)
  have HSF := Lib.hid (split_fields hz)
  have hfn := split_len hz
  obtain rfl : (splitN l).2.length = n1 := ho1.1
  clear hz hb1 ho1 HC HB HK2 HK4
  generalize (splitN l).2 = ss at *
  match ss with
  | [] =>
    have hF : False := HN0.out rfl
    cases hF
  | f0 :: fs =>
    obtain ⟨x, B0, d0, rfl, hxb, hc0, hB0⟩ := HF.out.b1 (k := 0) rfl
    have hc0' : w1.cell? x = some (.slice B0 f0.length d0) := by simpa [Addr.add] using hc0
    have y1 : (0 : Int) < ((fs.length : Int) + 1) := by omega
    have y0 : (((fs.length : Int) + 1) == 0) = false := by rw [beq_eq_false_iff_ne]; omega
    have HX := Lib.hid (show x.block < w1.heap.size from hxb)
    obtain ⟨X1, hX1⟩ : ∃ X1, X1 = w1.alloc (.cells #[.int .i64 0, .int .i64 0, .int .i64 0, .int .i64 0, .int .i64 0, .int .i64 0, .int .i64 0, .int .i64 0, .slice none 0 0, .slice none 0 0, .slice none 0 0, .slice none 0 0, .slice none 0 0] 28) := ⟨_, rfl⟩
    have hb1 : Below w1.heap.size w1 X1 := by rw [hX1]; exact (Below.refl _ _).alloc (Nat.le_refl _) _
    have HKM := Lib.hid (show Bk X1 w1.heap.size 28 [.int .i64 0, .int .i64 0, .int .i64 0, .int .i64 0, .int .i64 0, .int .i64 0, .int .i64 0, .int .i64 0, .slice none 0 0, .slice none 0 0, .slice none 0 0, .slice none 0 0, .slice none 0 0] by rw [hX1]; exact Bk.new w1 _ _)
    have HBX := Lib.hid (below_next HB1.out hb1 HB1.out.size)
    have HKX2 := Lib.hid (HK12.out.kept hb1)
    have HKX4 := Lib.hid (HK14.out.kept hb1)
    have HFX := Lib.hid (HF.out.below hb1)
    have HCX := Lib.hid (refOne_any B0 f0.length d0 f0 X1 (hB0.below hb1).sl (by have := HSF.out f0 (List.mem_cons_self ..); omega))
    have hc1 := kept_cell hc0' hb1
    have HGW := Lib.hid (show w.heap.size + 1 < w1.heap.size from HK14.out.lt)
    clear hxb hc0 hB0 hb1 hc0' HB1 HK12 HK14 HF
    go_upto_region 6 with fail
    rw [← hX1]
    clear hX1
    go_wp2_with fail
    refine HCX.out.mono ?_
    rintro e w2 ⟨hb2, ⟨kd, hkd, rfl⟩ | ⟨hkd, rfl⟩⟩
    rotate_left
    · obtain ⟨kd, h1, _⟩ := HQ.out f0 fs rfl
      rw [hkd] at h1
      cases h1
    have HBXb := Lib.hid (below_next HBX.out hb2 HBX.out.size)
    have HKX2b := Lib.hid (HKX2.out.kept hb2)
    have HKX4b := Lib.hid (HKX4.out.kept hb2)
    have HKMb := Lib.hid (HKM.out.kept hb2)
    have HFXb := Lib.hid (HFX.out.below hb2)
    have HD2 := Lib.hid (show r = okX Mg.ok (if kindB kd then (kindMg kd).puts (partsN kd) fs else none) by rw [HD.out]; simp only [hkd])
    have HKD := Lib.hid (show kd ∈ ([3, 4, 5, 6] : List Int) by obtain ⟨k9, h1, h2⟩ := HQ.out f0 fs rfl; rw [hkd] at h1; injection h1 with h1; rw [h1]; exact h2)
    clear hb2 hkd HD hc1
    go_wp2_with fail
    refine (refParts_any kd _).mono ?_
    rintro e w3 ⟨rfl, hb3⟩
    have HBXc := Lib.hid (below_next HBXb.out hb3 HBXb.out.size)
    have HKX2c := Lib.hid (HKX2b.out.kept hb3)
    have HKX4c := Lib.hid (HKX4b.out.kept hb3)
    have HKMc := Lib.hid (HKMb.out.kept hb3)
    have HFXc := Lib.hid (HFXb.out.below hb3)
    clear hb3
    have hll := letters_len kd
    by_cases hkb : kindB kd = true
    rotate_left
    · exact absurd ((show ∀ kd ∈ ([3, 4, 5, 6] : List Int), kindB kd = true by decide) kd HKD.out) hkb
    have HD3 := Lib.hid (show r = okX Mg.ok ((kindMg kd).puts (partsN kd) fs) by rw [HD2.out, hkb]; rfl)
    have HLA := Lib.hid (fun (i p : Nat) (h : (partsN kd)[i]? = some p) => letters_at h)
    have hls := letters_some hkb
    have HKB := Lib.hid hkb
    have HPL := Lib.hid (parts_lt kd)
    have HPN := Lib.hid (parts_len kd)
    obtain ⟨ps, hps⟩ : ∃ ps, ps = partsN kd := ⟨_, rfl⟩
    rw [← hps] at HD3 HLA HPL HPN hll
    have HPS := Lib.hid hps
    generalize lettersOf kd = ls at *
    have hle : ls.isEmpty = false := by cases ls with | nil => exact absurd rfl hls | cons a b => rfl
    clear hls HD2 hkb hps
    have HLL := Lib.hid hll
    have hp4 : ps.length ≤ 4 := HPN.out
    have y6 : IntKind.i64.wrap (1 + (ls.length : Int)) = 1 + (ls.length : Int) := by rw [IntKind.wrap_i64]; omega
    by_cases hlen : fs.length = ps.length
    rotate_left
    · have HD4 := Lib.hid (show r = none by
        rw [HD3.out]
        cases hp : (kindMg kd).puts ps fs with
        | none => rfl
        | some m' => exact absurd (puts_len _ _ _ _ hp).symm hlen)
      have y5 : (((fs.length : Int) + 1) != 1 + (ls.length : Int)) = true := by rw [bne_iff_ne]; omega
      clear hlen hll
      go_wp2_with (first
        | (refine wpList_load_row rfl 28 _ rfl (w.heap.size + 1) rfl 28 #[.int .i64 0, .int .i64 0, .int .i64 0, .int .i64 0, .int .i64 0, .int .i64 0, .int .i64 0, .int .i64 0, .slice none 0 0, .slice none 0 0, .slice none 0 0, .slice none 0 0, .slice none 0 0] (0, 0) _ HKX4c.out Try.underlying28 rfl info1_M ?_)
        | (refine wpList_store_bk8 rfl 28 _ _ rfl w.heap.size [.int .i64 0, .int .i64 0, .int .i64 0, .int .i64 0, .int .i64 0, .int .i64 0, .int .i64 0, .int .i64 0, .slice none 0 0, .slice none 0 0, .slice none 0 0, .slice none 0 0, .slice none 0 0] rfl rfl 28 [.int .i64 0, .int .i64 0, .int .i64 0, .int .i64 0, .int .i64 0, .int .i64 0, .int .i64 0, .int .i64 0, .slice none 0 0, .slice none 0 0, .slice none 0 0, .slice none 0 0, .slice none 0 0] HKX2c.out rfl info1_M rfl ?_
           intro w99 hk99 hg99))
      refine bodyPost_ret_by (results_row_tmp rfl _ _ w.heap.size 28 _ _ rfl hk99.out Try.underlying28 rfl info1_M) rfl ?_
      exact ⟨HBXc.out.grown hg99.out HBXc.out.size (fun g hg => by cases hg; omega), .inr ⟨HRL.out.symm.trans HD4.out, rfl⟩⟩
    have y5 : (((fs.length : Int) + 1) != 1 + (ls.length : Int)) = false := by rw [bne_eq_false_iff_eq]; omega
    have HLEN := Lib.hid hlen
    obtain ⟨w4, hw4⟩ : ∃ w4, w4 = w3.setCell ⟨w1.heap.size, 0, none⟩ (.int .i64 kd) := ⟨_, rfl⟩
    have hg4 : w3.grownBy w4 (some w1.heap.size) := by rw [hw4]; exact grown_set (grown_refl _ _) _ _
    have HB4 := Lib.hid (show Below w.heap.size w w4 from HBXc.out.grown hg4 HBXc.out.size (fun g hg => by cases hg; have := HGW.out; omega))
    have HDB := Lib.hid (show DBase w.heap.size w1.heap.size x c1 (f0 :: fs) w4 w4 from ⟨HKX2c.out.grown hg4 (fun e => by injection e with e; have := HGW.out; omega), HKX4c.out.grown hg4 (fun e => by injection e with e; have := HGW.out; omega), grown_refl _ _, HFXc.out.keep (Kp.of_grown hg4 fun b hb e => hb.2 (Option.some.inj e)) fun _ h _ => h⟩)
    have HDG := Lib.hid (show DGood r w.heap.size w1.heap.size ps fs kd 0 (kindMg kd) ⟨none, 0, none, 0, none, 0, none, 0, none, 0⟩ w4 from kind_good (by rw [hw4]; exact HKMc.out.set 0 (.int .i64 kd)) HD3.out.symm)
    have j0 := HKMc.out.at_ (i := 0) rfl
    have z0 := HKMc.out.frozen 0
    go_upto_region 11 with fail
    rw [← hw4]
    clear hw4 hg4 hlen hll j0 z0 HBX HBXb HBXc HKX2 HKX2b HKX2c HKX4 HKX4b HKX4c HKM HKMb HKMc HFX HFXb HFXc HD3 y5
    go_wp2_with fail
    go_loopw [9, 11] (fun okv i wr => ∃ (k : Nat) (ok : Bool), okv = .bool ok ∧ i = .int .i64 k ∧ k ≤ ps.length ∧ DSt r w.heap.size w1.heap.size x c1 f0 ps fs kd w4 k ok wr) (fun _ i _ => ps.length - (intOf i).toNat)
    case atStart => exact ⟨0, true, rfl, rfl, by omega, HDB.out, fun _ => ⟨_, _, HDG.out⟩, fun h => by cases h⟩
    case round =>
      obtain ⟨k, ok, rfl, rfl, hk, hdb, hgood, hbad⟩ := hrel
      have HDBW := Lib.hid hdb
      have HBW := Lib.hid (show Below w.heap.size w wr from HB4.out.grown hdb.grown HB4.out.size (fun g hg => by cases hg; have := HGW.out; omega))
      have HR2 := Lib.hid hdb.two
      have HR4 := Lib.hid hdb.four
      clear hdb
      cases ok with
      | false =>
        have HDN := Lib.hid (hbad rfl)
        clear hgood hbad
        by_cases hlt : k < ps.length
        · have y7 : (k : Int) < (ls.length : Int) := by have := HLL.out; omega
          go_wp2_with (first
            | (refine wpList_load_row rfl 28 _ rfl (w.heap.size + 1) rfl 28 #[.int .i64 0, .int .i64 0, .int .i64 0, .int .i64 0, .int .i64 0, .int .i64 0, .int .i64 0, .int .i64 0, .slice none 0 0, .slice none 0 0, .slice none 0 0, .slice none 0 0, .slice none 0 0] (0, 0) _ HR4.out Try.underlying28 rfl info1_M ?_)
            | (refine wpList_store_bk8 rfl 28 _ _ rfl w.heap.size [.int .i64 0, .int .i64 0, .int .i64 0, .int .i64 0, .int .i64 0, .int .i64 0, .int .i64 0, .int .i64 0, .slice none 0 0, .slice none 0 0, .slice none 0 0, .slice none 0 0, .slice none 0 0] rfl rfl 28 [.int .i64 0, .int .i64 0, .int .i64 0, .int .i64 0, .int .i64 0, .int .i64 0, .int .i64 0, .int .i64 0, .slice none 0 0, .slice none 0 0, .slice none 0 0, .slice none 0 0, .slice none 0 0] HR2.out rfl info1_M rfl ?_
               intro w99 hk99 hg99))
          refine bodyPost_ret_by (results_row_tmp rfl _ _ w.heap.size 28 _ _ rfl hk99.out Try.underlying28 rfl info1_M) rfl ?_
          exact ⟨HBW.out.grown hg99.out HBW.out.size (fun g hg => by cases hg; omega), .inr ⟨HRL.out.symm.trans HDN.out, rfl⟩⟩
        · have y7 : ¬ ((k : Int) < (ls.length : Int)) := by have := HLL.out; omega
          go_wp2_with (first
            | (refine wpList_load_row rfl 28 _ rfl (w.heap.size + 1) rfl 28 #[.int .i64 0, .int .i64 0, .int .i64 0, .int .i64 0, .int .i64 0, .int .i64 0, .int .i64 0, .int .i64 0, .slice none 0 0, .slice none 0 0, .slice none 0 0, .slice none 0 0, .slice none 0 0] (0, 0) _ HR4.out Try.underlying28 rfl info1_M ?_)
            | (refine wpList_store_bk8 rfl 28 _ _ rfl w.heap.size [.int .i64 0, .int .i64 0, .int .i64 0, .int .i64 0, .int .i64 0, .int .i64 0, .int .i64 0, .int .i64 0, .slice none 0 0, .slice none 0 0, .slice none 0 0, .slice none 0 0, .slice none 0 0] rfl rfl 28 [.int .i64 0, .int .i64 0, .int .i64 0, .int .i64 0, .int .i64 0, .int .i64 0, .int .i64 0, .int .i64 0, .slice none 0 0, .slice none 0 0, .slice none 0 0, .slice none 0 0, .slice none 0 0] HR2.out rfl info1_M rfl ?_
               intro w99 hk99 hg99))
          refine bodyPost_ret_by (results_row_tmp rfl _ _ w.heap.size 28 _ _ rfl hk99.out Try.underlying28 rfl info1_M) rfl ?_
          exact ⟨HBW.out.grown hg99.out HBW.out.size (fun g hg => by cases hg; omega), .inr ⟨HRL.out.symm.trans HDN.out, rfl⟩⟩
      | true =>
        obtain ⟨mk, qk, hg⟩ := hgood rfl
        have HG := Lib.hid hg
        have HGB := Lib.hid (show Bk wr w1.heap.size 28 [.int .i64 mk.kind, .int .i64 mk.view, .int .i64 mk.seq, .int .i64 mk.client, .int .i64 mk.stamp, .int .i64 mk.e.c, .int .i64 mk.e.s, .int .i64 mk.e.t, .slice qk.ea mk.e.dig.length qk.ec, .slice qk.ga mk.dig.length qk.gc, .slice qk.da mk.data.length qk.dc, .slice qk.pa mk.proof.length qk.pc, .slice qk.va mk.proven.length qk.vc] from hg.box)
        clear hgood hbad hg
        by_cases hlt : k < ps.length
        rotate_left
        · have y7 : ¬ ((k : Int) < (ls.length : Int)) := by have := HLL.out; omega
          have HRE := Lib.hid (show okX Mg.ok (some mk) = r by
            have := HG.out.puts
            rw [List.drop_of_length_le (by omega), List.drop_of_length_le (by have := HLEN.out; omega)] at this
            exact this)
          have HKI := Lib.hid (show kindB mk.kind = true by rw [HG.out.kind]; exact HKB.out)
          have q0 := HGB.out.at_ (i := 0) rfl
          have q1 := HGB.out.at_ (i := 1) rfl
          have q2 := HGB.out.at_ (i := 2) rfl
          have q3 := HGB.out.at_ (i := 3) rfl
          have q4 := HGB.out.at_ (i := 4) rfl
          have q5 := HGB.out.at_ (i := 5) rfl
          have q6 := HGB.out.at_ (i := 6) rfl
          have q7 := HGB.out.at_ (i := 7) rfl
          have q8 := HGB.out.at_ (i := 8) rfl
          have q9 := HGB.out.at_ (i := 9) rfl
          have q10 := HGB.out.at_ (i := 10) rfl
          have q11 := HGB.out.at_ (i := 11) rfl
          have q12 := HGB.out.at_ (i := 12) rfl
          go_wp2_with fail
          refine (refRight_any mk qk _ _ HG.out.read HKI.out).mono ?_
          rintro e w5 ⟨rfl, hb5⟩
          have HB5 := Lib.hid (below_next HBW.out hb5 HBW.out.size)
          have HR52 := Lib.hid (HR2.out.kept hb5)
          have HR54 := Lib.hid (HR4.out.kept hb5)
          have HG5 := Lib.hid (HGB.out.kept hb5)
          have HM5 := Lib.hid (HG.out.read.below hb5)
          clear hb5 q0 q1 q2 q3 q4 q5 q6 q7 q8 q9 q10 q11 q12
          cases hok : mk.ok
          · have HDN := Lib.hid (show r = none by rw [← HRE.out]; simp [okX, hok])
            clear hok
            go_wp2_with (first
              | (refine wpList_load_row rfl 28 _ rfl (w.heap.size + 1) rfl 28 #[.int .i64 0, .int .i64 0, .int .i64 0, .int .i64 0, .int .i64 0, .int .i64 0, .int .i64 0, .int .i64 0, .slice none 0 0, .slice none 0 0, .slice none 0 0, .slice none 0 0, .slice none 0 0] (0, 0) _ HR54.out Try.underlying28 rfl info1_M ?_)
              | (refine wpList_store_bk8 rfl 28 _ _ rfl w.heap.size [.int .i64 0, .int .i64 0, .int .i64 0, .int .i64 0, .int .i64 0, .int .i64 0, .int .i64 0, .int .i64 0, .slice none 0 0, .slice none 0 0, .slice none 0 0, .slice none 0 0, .slice none 0 0] rfl rfl 28 [.int .i64 0, .int .i64 0, .int .i64 0, .int .i64 0, .int .i64 0, .int .i64 0, .int .i64 0, .int .i64 0, .slice none 0 0, .slice none 0 0, .slice none 0 0, .slice none 0 0, .slice none 0 0] HR52.out rfl info1_M rfl ?_
                 intro w99 hk99 hg99))
            refine bodyPost_ret_by (results_row_tmp rfl _ _ w.heap.size 28 _ _ rfl hk99.out Try.underlying28 rfl info1_M) rfl ?_
            exact ⟨HB5.out.grown hg99.out HB5.out.size (fun g hg => by cases hg; omega), .inr ⟨HRL.out.symm.trans HDN.out, rfl⟩⟩
          have HDN := Lib.hid (show r = some mk by rw [← HRE.out]; simp [okX, hok])
          clear hok
          go_wp2_with (first
            | (refine wpList_load_row rfl 28 _ rfl w1.heap.size rfl 28 #[.int .i64 mk.kind, .int .i64 mk.view, .int .i64 mk.seq, .int .i64 mk.client, .int .i64 mk.stamp, .int .i64 mk.e.c, .int .i64 mk.e.s, .int .i64 mk.e.t, .slice qk.ea mk.e.dig.length qk.ec, .slice qk.ga mk.dig.length qk.gc, .slice qk.da mk.data.length qk.dc, .slice qk.pa mk.proof.length qk.pc, .slice qk.va mk.proven.length qk.vc] (0, 0) _ HG5.out Try.underlying28 rfl info1_M ?_)
            | (refine wpList_store_bk8 rfl 28 _ _ rfl w.heap.size [.int .i64 mk.kind, .int .i64 mk.view, .int .i64 mk.seq, .int .i64 mk.client, .int .i64 mk.stamp, .int .i64 mk.e.c, .int .i64 mk.e.s, .int .i64 mk.e.t, .slice qk.ea mk.e.dig.length qk.ec, .slice qk.ga mk.dig.length qk.gc, .slice qk.da mk.data.length qk.dc, .slice qk.pa mk.proof.length qk.pc, .slice qk.va mk.proven.length qk.vc] rfl rfl 28 [.int .i64 0, .int .i64 0, .int .i64 0, .int .i64 0, .int .i64 0, .int .i64 0, .int .i64 0, .int .i64 0, .slice none 0 0, .slice none 0 0, .slice none 0 0, .slice none 0 0, .slice none 0 0] HR52.out rfl info1_M rfl ?_
               intro w99 hk99 hg99))
          have hr := HM5.out.keep (F' := From w.heap.size) (Kp.of_grown hg99.out fun b hb e => by injection e with e; have := hb.1; omega) (fun b hb _ => by have := hb.1; unfold From; omega)
          refine bodyPost_ret_by (results_row_tmp rfl _ _ w.heap.size 28 _ _ rfl hk99.out Try.underlying28 rfl info1_M) rfl ?_
          exact ⟨HB5.out.grown hg99.out HB5.out.size (fun g hg => by cases hg; omega), .inl ⟨mk, qk, HRL.out.symm.trans HDN.out, rfl, hr⟩⟩
        have hx : ps[k]? = some ps[k] := List.getElem?_eq_getElem hlt
        obtain ⟨f, hf⟩ : ∃ f, fs[k]? = some f := ⟨_, List.getElem?_eq_getElem (by have := HLEN.out; omega)⟩
        obtain ⟨x9, B, d, ea, hxb, hcf, hBf⟩ := HDBW.out.rows.b1 (k := k + 1) (l := f) (by simpa using hf)
        obtain rfl := Option.some.inj ea
        have hcf : wr.cell? ⟨x.block, x.off + (k + 1), none⟩ = some (.slice B f.length d) := by simpa [Addr.add] using hcf
        have hq := HLA.out k _ hx
        have hkl : k < ls.length := by have := HLL.out; omega
        have hp9 := HPL.out _ (List.getElem_mem hlt)
        have hsz : f.length ≤ 4294967296 := by
          have h1 : f ∈ f0 :: fs := List.mem_cons_of_mem _ (List.mem_of_getElem? hf)
          have := HSF.out f h1
          omega
        have HFP := Lib.hid hf
        have HXP := Lib.hid hx
        generalize ps[k] = p at *
        have hlk : ls[k] = letterB p := by rw [List.getElem?_eq_getElem hkl] at hq; exact Option.some.inj hq
        have HLK := Lib.hid hlk
        have HBF := Lib.hid hBf
        have HSZ := Lib.hid hsz
        have HGG := Lib.hid (show ∀ b, wr.heap.size ≤ b → GD w.heap.size w1.heap.size b from fun b hb => by have h1 := HG.out.box.lt; have h2 := HGW.out; exact ⟨by omega, by omega⟩)
        have y7 : (k : Int) < (ls.length : Int) := by omega
        have y8 : (0 : Int) ≤ (k : Int) := by omega
        have y9 : (k : Int) < (fs.length : Int) := by have := HLEN.out; omega
        have y10 : ls.length ≤ 4 := by have := HLL.out; omega
        have y11 : fs.length ≤ 4 := by have := HLEN.out; omega
        have hks : k < ByteArray.size ⟨ls.toArray⟩ := hkl
        have h9 : p ≤ 8 := by omega
        clear hx hf ea hxb hq hp9 hsz hlk hBf
        rcases nine8 h9 with rfl | rfl | rfl | rfl | rfl | rfl | rfl | rfl | rfl
        · skip
          have hlk : ((⟨ls.toArray⟩ : ByteArray)[k]'hks).toNat = 118 := by show (ls[k]).toNat = _; rw [HLK.out]; rfl
          have b0 : ((((⟨ls.toArray⟩ : ByteArray)[k]'hks).toNat : Int) == 118) = true := by rw [hlk]; rfl
          clear hlk h9
          have HC := Lib.hid (refOne_any B f.length d f wr HBF.out.sl HSZ.out)
          go_wp2_with fail
          refine HC.out.mono ?_
          rintro e w5 ⟨hb5, ⟨v, hv, rfl⟩ | ⟨hv, rfl⟩⟩
          · have HG5 := Lib.hid (HG.out.box.kept hb5)
            have k1 := (HGB.out.kept hb5).at_ (i := 1) rfl
            have z1 := (HGB.out.kept hb5).frozen 1
            have HV := Lib.hid hv
            have HB5 := Lib.hid hb5
            clear hb5 hv
            go_wp2_with fail
            go_roundw
            case rel =>
              refine ⟨k + 1, true, rfl, by go_num, by omega, ?_⟩
              have gr := grown_set (below_grown HB5.out (some w1.heap.size)) 1 (.int .i64 v)
              have gr1 := grown_set (grown_refl w5 (some w1.heap.size)) 1 (.int .i64 v)
              have hm := HG.out.read.keep (Kp.of_grown gr fun b hb e => hb.2 (Option.some.inj e)) fun _ h _ => h
              exact ⟨HDBW.out.step gr HGW.out, fun _ => ⟨{ mk with view := v }, qk, HG.out.next HXP.out HFP.out (show mk.put 0 f = some _ by show (rdNum f).map _ = _; rw [HV.out]; rfl) (HG5.out.set 1 (.int .i64 v)) (show MgR _ _ { mk with view := v } qk from ⟨hm.e, hm.g, hm.d, hm.p, hm.v⟩) (fun h8 => ⟨rfl, rfl, rfl⟩)⟩, fun h => by cases h⟩
            case measure => simp [intOf]; omega
          · have HG5 := Lib.hid (HG.out.box.kept hb5)
            have k1 := (HGB.out.kept hb5).at_ (i := 1) rfl
            have z1 := (HGB.out.kept hb5).frozen 1
            have HV := Lib.hid hv
            have HB5 := Lib.hid hb5
            clear hb5 hv
            go_wp2_with fail
            go_roundw
            case rel =>
              refine ⟨k + 1, false, rfl, by go_num, by omega, ?_⟩
              have gr := grown_set (below_grown HB5.out (some w1.heap.size)) 1 (.int .i64 0)
              exact ⟨HDBW.out.step gr HGW.out, fun h => (by cases h), fun _ => HG.out.none_ HXP.out HFP.out (show mk.put 0 f = none by show (rdNum f).map _ = _; rw [HV.out]; rfl)⟩
            case measure => simp [intOf]; omega
        · skip
          have hlk : ((⟨ls.toArray⟩ : ByteArray)[k]'hks).toNat = 115 := by show (ls[k]).toNat = _; rw [HLK.out]; rfl
          have b0 : ((((⟨ls.toArray⟩ : ByteArray)[k]'hks).toNat : Int) == 118) = false := by rw [hlk]; rfl
          have b1 : ((((⟨ls.toArray⟩ : ByteArray)[k]'hks).toNat : Int) == 115) = true := by rw [hlk]; rfl
          clear hlk h9
          have HC := Lib.hid (refOne_any B f.length d f wr HBF.out.sl HSZ.out)
          go_wp2_with fail
          refine HC.out.mono ?_
          rintro e w5 ⟨hb5, ⟨v, hv, rfl⟩ | ⟨hv, rfl⟩⟩
          · have HG5 := Lib.hid (HG.out.box.kept hb5)
            have k2 := (HGB.out.kept hb5).at_ (i := 2) rfl
            have z2 := (HGB.out.kept hb5).frozen 2
            have HV := Lib.hid hv
            have HB5 := Lib.hid hb5
            clear hb5 hv
            go_wp2_with fail
            go_roundw
            case rel =>
              refine ⟨k + 1, true, rfl, by go_num, by omega, ?_⟩
              have gr := grown_set (below_grown HB5.out (some w1.heap.size)) 2 (.int .i64 v)
              have gr1 := grown_set (grown_refl w5 (some w1.heap.size)) 2 (.int .i64 v)
              have hm := HG.out.read.keep (Kp.of_grown gr fun b hb e => hb.2 (Option.some.inj e)) fun _ h _ => h
              exact ⟨HDBW.out.step gr HGW.out, fun _ => ⟨{ mk with seq := v }, qk, HG.out.next HXP.out HFP.out (show mk.put 1 f = some _ by show (rdNum f).map _ = _; rw [HV.out]; rfl) (HG5.out.set 2 (.int .i64 v)) (show MgR _ _ { mk with seq := v } qk from ⟨hm.e, hm.g, hm.d, hm.p, hm.v⟩) (fun h8 => ⟨rfl, rfl, rfl⟩)⟩, fun h => by cases h⟩
            case measure => simp [intOf]; omega
          · have HG5 := Lib.hid (HG.out.box.kept hb5)
            have k2 := (HGB.out.kept hb5).at_ (i := 2) rfl
            have z2 := (HGB.out.kept hb5).frozen 2
            have HV := Lib.hid hv
            have HB5 := Lib.hid hb5
            clear hb5 hv
            go_wp2_with fail
            go_roundw
            case rel =>
              refine ⟨k + 1, false, rfl, by go_num, by omega, ?_⟩
              have gr := grown_set (below_grown HB5.out (some w1.heap.size)) 2 (.int .i64 0)
              exact ⟨HDBW.out.step gr HGW.out, fun h => (by cases h), fun _ => HG.out.none_ HXP.out HFP.out (show mk.put 1 f = none by show (rdNum f).map _ = _; rw [HV.out]; rfl)⟩
            case measure => simp [intOf]; omega
        · skip
          have hF : False := (show ∀ kd ∈ ([3, 4, 5, 6] : List Int), 2 ∉ partsN kd by decide) kd HKD.out (by rw [← HPS.out]; exact List.mem_of_getElem? HXP.out)
          cases hF
        · skip
          have hF : False := (show ∀ kd ∈ ([3, 4, 5, 6] : List Int), 3 ∉ partsN kd by decide) kd HKD.out (by rw [← HPS.out]; exact List.mem_of_getElem? HXP.out)
          cases hF
        · skip
          have hlk : ((⟨ls.toArray⟩ : ByteArray)[k]'hks).toNat = 101 := by show (ls[k]).toNat = _; rw [HLK.out]; rfl
          have b0 : ((((⟨ls.toArray⟩ : ByteArray)[k]'hks).toNat : Int) == 118) = false := by rw [hlk]; rfl
          have b1 : ((((⟨ls.toArray⟩ : ByteArray)[k]'hks).toNat : Int) == 115) = false := by rw [hlk]; rfl
          have b2 : ((((⟨ls.toArray⟩ : ByteArray)[k]'hks).toNat : Int) == 99) = false := by rw [hlk]; rfl
          have b3 : ((((⟨ls.toArray⟩ : ByteArray)[k]'hks).toNat : Int) == 116) = false := by rw [hlk]; rfl
          have b4 : ((((⟨ls.toArray⟩ : ByteArray)[k]'hks).toNat : Int) == 101) = true := by rw [hlk]; rfl
          clear hlk h9
          have HC := Lib.hid (refReadEntry_any B f.length d f wr HBF.out.sl HSZ.out)
          go_wp2_with fail
          refine HC.out.mono ?_
          rintro e w5 ⟨hb5, ⟨v, A5, c5, hv, rfl, hr5⟩ | ⟨hv, rfl⟩⟩
          · have HG5 := Lib.hid (HG.out.box.kept hb5)
            have k5 := (HGB.out.kept hb5).at_ (i := 5) rfl
            have z5 := (HGB.out.kept hb5).frozen 5
            have k6 := (HGB.out.kept hb5).at_ (i := 6) rfl
            have z6 := (HGB.out.kept hb5).frozen 6
            have k7 := (HGB.out.kept hb5).at_ (i := 7) rfl
            have z7 := (HGB.out.kept hb5).frozen 7
            have k8 := (HGB.out.kept hb5).at_ (i := 8) rfl
            have z8 := (HGB.out.kept hb5).frozen 8
            have HV := Lib.hid (dec_en hv).1
            have HB5 := Lib.hid hb5
            have HR5 := Lib.hid hr5
            clear hb5 hv hr5
            go_wp2_with fail
            go_roundw
            case rel =>
              refine ⟨k + 1, true, rfl, by go_num, by omega, ?_⟩
              have gr := grown_set (grown_set (grown_set (grown_set (below_grown HB5.out (some w1.heap.size)) 5 (.int .i64 v.c)) 6 (.int .i64 v.s)) 7 (.int .i64 v.t)) 8 (.slice A5 v.dig.length c5)
              have gr1 := grown_set (grown_set (grown_set (grown_set (grown_refl w5 (some w1.heap.size)) 5 (.int .i64 v.c)) 6 (.int .i64 v.s)) 7 (.int .i64 v.t)) 8 (.slice A5 v.dig.length c5)
              have hm := HG.out.read.keep (Kp.of_grown gr fun b hb e => hb.2 (Option.some.inj e)) fun _ h _ => h
              exact ⟨HDBW.out.step gr HGW.out, fun _ => ⟨{ mk with e := v }, { qk with ea := A5, ec := c5 }, HG.out.next HXP.out HFP.out (show mk.put 4 f = some _ by show (rdEn f).map _ = _; rw [HV.out]; rfl) ((((HG5.out.set 5 (.int .i64 v.c)).set 6 (.int .i64 v.s)).set 7 (.int .i64 v.t)).set 8 (.slice A5 v.dig.length c5)) (show MgR _ _ { mk with e := v } { qk with ea := A5, ec := c5 } from ⟨HR5.out.keep (F' := GD w.heap.size w1.heap.size) (Kp.of_grown gr1 fun b hb e => (HGG.out b hb).2 (Option.some.inj e)) fun b hb _ => HGG.out b hb, hm.g, hm.d, hm.p, hm.v⟩) (fun h8 => ⟨rfl, rfl, rfl⟩)⟩, fun h => by cases h⟩
            case measure => simp [intOf]; omega
          · have HG5 := Lib.hid (HG.out.box.kept hb5)
            have k5 := (HGB.out.kept hb5).at_ (i := 5) rfl
            have z5 := (HGB.out.kept hb5).frozen 5
            have k6 := (HGB.out.kept hb5).at_ (i := 6) rfl
            have z6 := (HGB.out.kept hb5).frozen 6
            have k7 := (HGB.out.kept hb5).at_ (i := 7) rfl
            have z7 := (HGB.out.kept hb5).frozen 7
            have k8 := (HGB.out.kept hb5).at_ (i := 8) rfl
            have z8 := (HGB.out.kept hb5).frozen 8
            have HV := Lib.hid hv
            have HB5 := Lib.hid hb5
            clear hb5 hv
            go_wp2_with fail
            go_roundw
            case rel =>
              refine ⟨k + 1, false, rfl, by go_num, by omega, ?_⟩
              have gr := grown_set (grown_set (grown_set (grown_set (below_grown HB5.out (some w1.heap.size)) 5 (.int .i64 0)) 6 (.int .i64 0)) 7 (.int .i64 0)) 8 (.slice none 0 0)
              exact ⟨HDBW.out.step gr HGW.out, fun h => (by cases h), fun _ => HG.out.stuck HPS.out HXP.out HFP.out (bad4 HV.out)⟩
            case measure => simp [intOf]; omega
        · skip
          have hF : False := (show ∀ kd ∈ ([3, 4, 5, 6] : List Int), 5 ∉ partsN kd by decide) kd HKD.out (by rw [← HPS.out]; exact List.mem_of_getElem? HXP.out)
          cases hF
        · skip
          have hF : False := (show ∀ kd ∈ ([3, 4, 5, 6] : List Int), 6 ∉ partsN kd by decide) kd HKD.out (by rw [← HPS.out]; exact List.mem_of_getElem? HXP.out)
          cases hF
        · skip
          have hF : False := (show ∀ kd ∈ ([3, 4, 5, 6] : List Int), 7 ∉ partsN kd by decide) kd HKD.out (by rw [← HPS.out]; exact List.mem_of_getElem? HXP.out)
          cases hF
        · skip
          have hF : False := (show ∀ kd ∈ ([3, 4, 5, 6] : List Int), 8 ∉ partsN kd by decide) kd HKD.out (by rw [← HPS.out]; exact List.mem_of_getElem? HXP.out)
          cases hF
set_option maxHeartbeats 6400000 in
theorem refDecodeA3_any (L : Option Addr) (ln lc : Nat) (l : List UInt8) (w : World) (h : Sl w L ln lc l) (hn : ln ≤ 4294967296) (hq : IsK l [12]) :
    Calls Try.prog 19 #[.slice L ln lc] w (DecM l w) := by
  have HZ0 := Lib.hid (show (splitN l).1 = 0 by obtain ⟨_, _, _, h1, _⟩ := hq; exact h1)
  have HN0 := Lib.hid (show (splitN l).2 ≠ [] by obtain ⟨_, _, _, _, h1, _⟩ := hq; rw [h1]; exact List.cons_ne_nil _ _)
  have HQ := Lib.hid (show ∀ g0 gs, (splitN l).2 = g0 :: gs → ∃ kd, rdNum g0 = some kd ∧ kd ∈ ([12] : List Int) by
    intro g0 gs h1
    obtain ⟨f0, fs, kd, _, h2, h3, h4⟩ := hq
    rw [h1] at h2
    injection h2 with h2 _
    rw [h2]
    exact ⟨kd, h3, h4⟩)
  clear hq
  obtain ⟨r, hr⟩ : ∃ r, r = decMg l := ⟨_, rfl⟩
  have HRL := Lib.hid hr
  clear hr
  obtain ⟨i0, hi, hz0, hz1, hz2⟩ := info_parts info_provenA
  have s1 : (w.alloc (.cells #[.int .i64 0, .int .i64 0, .int .i64 0, .int .i64 0, .int .i64 0, .int .i64 0, .int .i64 0, .int .i64 0, .slice none 0 0, .slice none 0 0, .slice none 0 0, .slice none 0 0, .slice none 0 0] 28)).heap.size = w.heap.size + 1 := by simp
  obtain ⟨X, hX⟩ : ∃ X, X = (w.alloc (.cells #[.int .i64 0, .int .i64 0, .int .i64 0, .int .i64 0, .int .i64 0, .int .i64 0, .int .i64 0, .int .i64 0, .slice none 0 0, .slice none 0 0, .slice none 0 0, .slice none 0 0, .slice none 0 0] 28)).alloc (.cells #[.int .i64 0, .int .i64 0, .int .i64 0, .int .i64 0, .int .i64 0, .int .i64 0, .int .i64 0, .int .i64 0, .slice none 0 0, .slice none 0 0, .slice none 0 0, .slice none 0 0, .slice none 0 0] 28) := ⟨_, rfl⟩
  have hB : Below w.heap.size w X := by rw [hX]; exact ((Below.refl w.heap.size w).alloc (Nat.le_refl _) (.cells #[.int .i64 0, .int .i64 0, .int .i64 0, .int .i64 0, .int .i64 0, .int .i64 0, .int .i64 0, .int .i64 0, .slice none 0 0, .slice none 0 0, .slice none 0 0, .slice none 0 0, .slice none 0 0] 28)).alloc (by rw [s1]; omega) (.cells #[.int .i64 0, .int .i64 0, .int .i64 0, .int .i64 0, .int .i64 0, .int .i64 0, .int .i64 0, .int .i64 0, .slice none 0 0, .slice none 0 0, .slice none 0 0, .slice none 0 0, .slice none 0 0] 28)
  have HB := Lib.hid hB
  have HK2 := Lib.hid (show Bk X w.heap.size 28 [.int .i64 0, .int .i64 0, .int .i64 0, .int .i64 0, .int .i64 0, .int .i64 0, .int .i64 0, .int .i64 0, .slice none 0 0, .slice none 0 0, .slice none 0 0, .slice none 0 0, .slice none 0 0] by rw [hX]; exact (Bk.new w 28 [.int .i64 0, .int .i64 0, .int .i64 0, .int .i64 0, .int .i64 0, .int .i64 0, .int .i64 0, .int .i64 0, .slice none 0 0, .slice none 0 0, .slice none 0 0, .slice none 0 0, .slice none 0 0]).alloc _)
  have HK4 := Lib.hid (show Bk X (w.heap.size + 1) 28 [.int .i64 0, .int .i64 0, .int .i64 0, .int .i64 0, .int .i64 0, .int .i64 0, .int .i64 0, .int .i64 0, .slice none 0 0, .slice none 0 0, .slice none 0 0, .slice none 0 0, .slice none 0 0] by rw [hX]; exact bk_new2 w _ _ _)
  have HC := Lib.hid (refSplit_any L ln lc l X (h.below hB).rd h.1 h.2.1 (by omega))
  clear h hn hB s1
  go_enter Try.func19, Try.ntmps19
  go_upto_region 2 with fail
  rw [← hX]
  clear hX
  go_wp2_with fail
  refine HC.out.mono ?_
  rintro e w1 ⟨hb1, ⟨hz, rfl⟩ | ⟨hz, A1, n1, c1, rfl, ho1⟩⟩
  · exact absurd HZ0.out hz
  have HD := Lib.hid (HRL.out.trans (dec_some hz))
  have hk0 : (((splitN l).1 : Int) != 0) = false := by rw [bne_eq_false_iff_eq]; omega
  have HB1 := Lib.hid (below_next HB.out hb1 HB.out.size)
  have HK12 := Lib.hid (HK2.out.kept hb1)
  have HK14 := Lib.hid (HK4.out.kept hb1)
  have HF := Lib.hid ((RdS.of_own ho1).keep (F' := GD w.heap.size w1.heap.size) ⟨Nat.le_refl _, fun _ _ _ => rfl⟩ fun b hb hl => ⟨by have := HK4.out.lt; unfold From at hb; omega, by omega⟩)
  have HSF := Lib.hid (split_fields hz)
  have hfn := split_len hz
  obtain rfl : (splitN l).2.length = n1 := ho1.1
  clear hz hb1 ho1 HC HB HK2 HK4
  generalize (splitN l).2 = ss at *
  match ss with
  | [] =>
    have hF : False := HN0.out rfl
    cases hF
  | f0 :: fs =>
    obtain ⟨x, B0, d0, rfl, hxb, hc0, hB0⟩ := HF.out.b1 (k := 0) rfl
    have hc0' : w1.cell? x = some (.slice B0 f0.length d0) := by simpa [Addr.add] using hc0
    have y1 : (0 : Int) < ((fs.length : Int) + 1) := by omega
    have y0 : (((fs.length : Int) + 1) == 0) = false := by rw [beq_eq_false_iff_ne]; omega
    have HX := Lib.hid (show x.block < w1.heap.size from hxb)
    obtain ⟨X1, hX1⟩ : ∃ X1, X1 = w1.alloc (.cells #[.int .i64 0, .int .i64 0, .int .i64 0, .int .i64 0, .int .i64 0, .int .i64 0, .int .i64 0, .int .i64 0, .slice none 0 0, .slice none 0 0, .slice none 0 0, .slice none 0 0, .slice none 0 0] 28) := ⟨_, rfl⟩
    have hb1 : Below w1.heap.size w1 X1 := by rw [hX1]; exact (Below.refl _ _).alloc (Nat.le_refl _) _
    have HKM := Lib.hid (show Bk X1 w1.heap.size 28 [.int .i64 0, .int .i64 0, .int .i64 0, .int .i64 0, .int .i64 0, .int .i64 0, .int .i64 0, .int .i64 0, .slice none 0 0, .slice none 0 0, .slice none 0 0, .slice none 0 0, .slice none 0 0] by rw [hX1]; exact Bk.new w1 _ _)
    have HBX := Lib.hid (below_next HB1.out hb1 HB1.out.size)
    have HKX2 := Lib.hid (HK12.out.kept hb1)
    have HKX4 := Lib.hid (HK14.out.kept hb1)
    have HFX := Lib.hid (HF.out.below hb1)
    have HCX := Lib.hid (refOne_any B0 f0.length d0 f0 X1 (hB0.below hb1).sl (by have := HSF.out f0 (List.mem_cons_self ..); omega))
    have hc1 := kept_cell hc0' hb1
    have HGW := Lib.hid (show w.heap.size + 1 < w1.heap.size from HK14.out.lt)
    clear hxb hc0 hB0 hb1 hc0' HB1 HK12 HK14 HF
    go_upto_region 6 with fail
    rw [← hX1]
    clear hX1
    go_wp2_with fail
    refine HCX.out.mono ?_
    rintro e w2 ⟨hb2, ⟨kd, hkd, rfl⟩ | ⟨hkd, rfl⟩⟩
    rotate_left
    · obtain ⟨kd, h1, _⟩ := HQ.out f0 fs rfl
      rw [hkd] at h1
      cases h1
    have HBXb := Lib.hid (below_next HBX.out hb2 HBX.out.size)
    have HKX2b := Lib.hid (HKX2.out.kept hb2)
    have HKX4b := Lib.hid (HKX4.out.kept hb2)
    have HKMb := Lib.hid (HKM.out.kept hb2)
    have HFXb := Lib.hid (HFX.out.below hb2)
    have HD2 := Lib.hid (show r = okX Mg.ok (if kindB kd then (kindMg kd).puts (partsN kd) fs else none) by rw [HD.out]; simp only [hkd])
    have HKD := Lib.hid (show kd ∈ ([12] : List Int) by obtain ⟨k9, h1, h2⟩ := HQ.out f0 fs rfl; rw [hkd] at h1; injection h1 with h1; rw [h1]; exact h2)
    clear hb2 hkd HD hc1
    go_wp2_with fail
    refine (refParts_any kd _).mono ?_
    rintro e w3 ⟨rfl, hb3⟩
    have HBXc := Lib.hid (below_next HBXb.out hb3 HBXb.out.size)
    have HKX2c := Lib.hid (HKX2b.out.kept hb3)
    have HKX4c := Lib.hid (HKX4b.out.kept hb3)
    have HKMc := Lib.hid (HKMb.out.kept hb3)
    have HFXc := Lib.hid (HFXb.out.below hb3)
    clear hb3
    have hll := letters_len kd
    by_cases hkb : kindB kd = true
    rotate_left
    · exact absurd ((show ∀ kd ∈ ([12] : List Int), kindB kd = true by decide) kd HKD.out) hkb
    have HD3 := Lib.hid (show r = okX Mg.ok ((kindMg kd).puts (partsN kd) fs) by rw [HD2.out, hkb]; rfl)
    have HLA := Lib.hid (fun (i p : Nat) (h : (partsN kd)[i]? = some p) => letters_at h)
    have hls := letters_some hkb
    have HKB := Lib.hid hkb
    have HPL := Lib.hid (parts_lt kd)
    have HPN := Lib.hid (parts_len kd)
    obtain ⟨ps, hps⟩ : ∃ ps, ps = partsN kd := ⟨_, rfl⟩
    rw [← hps] at HD3 HLA HPL HPN hll
    have HPS := Lib.hid hps
    generalize lettersOf kd = ls at *
    have hle : ls.isEmpty = false := by cases ls with | nil => exact absurd rfl hls | cons a b => rfl
    clear hls HD2 hkb hps
    have HLL := Lib.hid hll
    have hp4 : ps.length ≤ 4 := HPN.out
    have y6 : IntKind.i64.wrap (1 + (ls.length : Int)) = 1 + (ls.length : Int) := by rw [IntKind.wrap_i64]; omega
    by_cases hlen : fs.length = ps.length
    rotate_left
    · have HD4 := Lib.hid (show r = none by
        rw [HD3.out]
        cases hp : (kindMg kd).puts ps fs with
        | none => rfl
        | some m' => exact absurd (puts_len _ _ _ _ hp).symm hlen)
      have y5 : (((fs.length : Int) + 1) != 1 + (ls.length : Int)) = true := by rw [bne_iff_ne]; omega
      clear hlen hll
      go_wp2_with (first
        | (refine wpList_load_row rfl 28 _ rfl (w.heap.size + 1) rfl 28 #[.int .i64 0, .int .i64 0, .int .i64 0, .int .i64 0, .int .i64 0, .int .i64 0, .int .i64 0, .int .i64 0, .slice none 0 0, .slice none 0 0, .slice none 0 0, .slice none 0 0, .slice none 0 0] (0, 0) _ HKX4c.out Try.underlying28 rfl info1_M ?_)
        | (refine wpList_store_bk8 rfl 28 _ _ rfl w.heap.size [.int .i64 0, .int .i64 0, .int .i64 0, .int .i64 0, .int .i64 0, .int .i64 0, .int .i64 0, .int .i64 0, .slice none 0 0, .slice none 0 0, .slice none 0 0, .slice none 0 0, .slice none 0 0] rfl rfl 28 [.int .i64 0, .int .i64 0, .int .i64 0, .int .i64 0, .int .i64 0, .int .i64 0, .int .i64 0, .int .i64 0, .slice none 0 0, .slice none 0 0, .slice none 0 0, .slice none 0 0, .slice none 0 0] HKX2c.out rfl info1_M rfl ?_
           intro w99 hk99 hg99))
      refine bodyPost_ret_by (results_row_tmp rfl _ _ w.heap.size 28 _ _ rfl hk99.out Try.underlying28 rfl info1_M) rfl ?_
      exact ⟨HBXc.out.grown hg99.out HBXc.out.size (fun g hg => by cases hg; omega), .inr ⟨HRL.out.symm.trans HD4.out, rfl⟩⟩
    have y5 : (((fs.length : Int) + 1) != 1 + (ls.length : Int)) = false := by rw [bne_eq_false_iff_eq]; omega
    have HLEN := Lib.hid hlen
    obtain ⟨w4, hw4⟩ : ∃ w4, w4 = w3.setCell ⟨w1.heap.size, 0, none⟩ (.int .i64 kd) := ⟨_, rfl⟩
    have hg4 : w3.grownBy w4 (some w1.heap.size) := by rw [hw4]; exact grown_set (grown_refl _ _) _ _
    have HB4 := Lib.hid (show Below w.heap.size w w4 from HBXc.out.grown hg4 HBXc.out.size (fun g hg => by cases hg; have := HGW.out; omega))
    have HDB := Lib.hid (show DBase w.heap.size w1.heap.size x c1 (f0 :: fs) w4 w4 from ⟨HKX2c.out.grown hg4 (fun e => by injection e with e; have := HGW.out; omega), HKX4c.out.grown hg4 (fun e => by injection e with e; have := HGW.out; omega), grown_refl _ _, HFXc.out.keep (Kp.of_grown hg4 fun b hb e => hb.2 (Option.some.inj e)) fun _ h _ => h⟩)
    have HDG := Lib.hid (show DGood r w.heap.size w1.heap.size ps fs kd 0 (kindMg kd) ⟨none, 0, none, 0, none, 0, none, 0, none, 0⟩ w4 from kind_good (by rw [hw4]; exact HKMc.out.set 0 (.int .i64 kd)) HD3.out.symm)
    have j0 := HKMc.out.at_ (i := 0) rfl
    have z0 := HKMc.out.frozen 0
    go_upto_region 11 with fail
    rw [← hw4]
    clear hw4 hg4 hlen hll j0 z0 HBX HBXb HBXc HKX2 HKX2b HKX2c HKX4 HKX4b HKX4c HKM HKMb HKMc HFX HFXb HFXc HD3 y5
    go_wp2_with fail
    go_loopw [9, 11] (fun okv i wr => ∃ (k : Nat) (ok : Bool), okv = .bool ok ∧ i = .int .i64 k ∧ k ≤ ps.length ∧ DSt r w.heap.size w1.heap.size x c1 f0 ps fs kd w4 k ok wr) (fun _ i _ => ps.length - (intOf i).toNat)
    case atStart => exact ⟨0, true, rfl, rfl, by omega, HDB.out, fun _ => ⟨_, _, HDG.out⟩, fun h => by cases h⟩
    case round =>
      obtain ⟨k, ok, rfl, rfl, hk, hdb, hgood, hbad⟩ := hrel
      have HDBW := Lib.hid hdb
      have HBW := Lib.hid (show Below w.heap.size w wr from HB4.out.grown hdb.grown HB4.out.size (fun g hg => by cases hg; have := HGW.out; omega))
      have HR2 := Lib.hid hdb.two
      have HR4 := Lib.hid hdb.four
      clear hdb
      cases ok with
      | false =>
        have HDN := Lib.hid (hbad rfl)
        clear hgood hbad
        by_cases hlt : k < ps.length
        · have y7 : (k : Int) < (ls.length : Int) := by have := HLL.out; omega
          go_wp2_with (first
            | (refine wpList_load_row rfl 28 _ rfl (w.heap.size + 1) rfl 28 #[.int .i64 0, .int .i64 0, .int .i64 0, .int .i64 0, .int .i64 0, .int .i64 0, .int .i64 0, .int .i64 0, .slice none 0 0, .slice none 0 0, .slice none 0 0, .slice none 0 0, .slice none 0 0] (0, 0) _ HR4.out Try.underlying28 rfl info1_M ?_)
            | (refine wpList_store_bk8 rfl 28 _ _ rfl w.heap.size [.int .i64 0, .int .i64 0, .int .i64 0, .int .i64 0, .int .i64 0, .int .i64 0, .int .i64 0, .int .i64 0, .slice none 0 0, .slice none 0 0, .slice none 0 0, .slice none 0 0, .slice none 0 0] rfl rfl 28 [.int .i64 0, .int .i64 0, .int .i64 0, .int .i64 0, .int .i64 0, .int .i64 0, .int .i64 0, .int .i64 0, .slice none 0 0, .slice none 0 0, .slice none 0 0, .slice none 0 0, .slice none 0 0] HR2.out rfl info1_M rfl ?_
               intro w99 hk99 hg99))
          refine bodyPost_ret_by (results_row_tmp rfl _ _ w.heap.size 28 _ _ rfl hk99.out Try.underlying28 rfl info1_M) rfl ?_
          exact ⟨HBW.out.grown hg99.out HBW.out.size (fun g hg => by cases hg; omega), .inr ⟨HRL.out.symm.trans HDN.out, rfl⟩⟩
        · have y7 : ¬ ((k : Int) < (ls.length : Int)) := by have := HLL.out; omega
          go_wp2_with (first
            | (refine wpList_load_row rfl 28 _ rfl (w.heap.size + 1) rfl 28 #[.int .i64 0, .int .i64 0, .int .i64 0, .int .i64 0, .int .i64 0, .int .i64 0, .int .i64 0, .int .i64 0, .slice none 0 0, .slice none 0 0, .slice none 0 0, .slice none 0 0, .slice none 0 0] (0, 0) _ HR4.out Try.underlying28 rfl info1_M ?_)
            | (refine wpList_store_bk8 rfl 28 _ _ rfl w.heap.size [.int .i64 0, .int .i64 0, .int .i64 0, .int .i64 0, .int .i64 0, .int .i64 0, .int .i64 0, .int .i64 0, .slice none 0 0, .slice none 0 0, .slice none 0 0, .slice none 0 0, .slice none 0 0] rfl rfl 28 [.int .i64 0, .int .i64 0, .int .i64 0, .int .i64 0, .int .i64 0, .int .i64 0, .int .i64 0, .int .i64 0, .slice none 0 0, .slice none 0 0, .slice none 0 0, .slice none 0 0, .slice none 0 0] HR2.out rfl info1_M rfl ?_
               intro w99 hk99 hg99))
          refine bodyPost_ret_by (results_row_tmp rfl _ _ w.heap.size 28 _ _ rfl hk99.out Try.underlying28 rfl info1_M) rfl ?_
          exact ⟨HBW.out.grown hg99.out HBW.out.size (fun g hg => by cases hg; omega), .inr ⟨HRL.out.symm.trans HDN.out, rfl⟩⟩
      | true =>
        obtain ⟨mk, qk, hg⟩ := hgood rfl
        have HG := Lib.hid hg
        have HGB := Lib.hid (show Bk wr w1.heap.size 28 [.int .i64 mk.kind, .int .i64 mk.view, .int .i64 mk.seq, .int .i64 mk.client, .int .i64 mk.stamp, .int .i64 mk.e.c, .int .i64 mk.e.s, .int .i64 mk.e.t, .slice qk.ea mk.e.dig.length qk.ec, .slice qk.ga mk.dig.length qk.gc, .slice qk.da mk.data.length qk.dc, .slice qk.pa mk.proof.length qk.pc, .slice qk.va mk.proven.length qk.vc] from hg.box)
        clear hgood hbad hg
        by_cases hlt : k < ps.length
        rotate_left
        · have y7 : ¬ ((k : Int) < (ls.length : Int)) := by have := HLL.out; omega
          have HRE := Lib.hid (show okX Mg.ok (some mk) = r by
            have := HG.out.puts
            rw [List.drop_of_length_le (by omega), List.drop_of_length_le (by have := HLEN.out; omega)] at this
            exact this)
          have HKI := Lib.hid (show kindB mk.kind = true by rw [HG.out.kind]; exact HKB.out)
          have q0 := HGB.out.at_ (i := 0) rfl
          have q1 := HGB.out.at_ (i := 1) rfl
          have q2 := HGB.out.at_ (i := 2) rfl
          have q3 := HGB.out.at_ (i := 3) rfl
          have q4 := HGB.out.at_ (i := 4) rfl
          have q5 := HGB.out.at_ (i := 5) rfl
          have q6 := HGB.out.at_ (i := 6) rfl
          have q7 := HGB.out.at_ (i := 7) rfl
          have q8 := HGB.out.at_ (i := 8) rfl
          have q9 := HGB.out.at_ (i := 9) rfl
          have q10 := HGB.out.at_ (i := 10) rfl
          have q11 := HGB.out.at_ (i := 11) rfl
          have q12 := HGB.out.at_ (i := 12) rfl
          go_wp2_with fail
          refine (refRight_any mk qk _ _ HG.out.read HKI.out).mono ?_
          rintro e w5 ⟨rfl, hb5⟩
          have HB5 := Lib.hid (below_next HBW.out hb5 HBW.out.size)
          have HR52 := Lib.hid (HR2.out.kept hb5)
          have HR54 := Lib.hid (HR4.out.kept hb5)
          have HG5 := Lib.hid (HGB.out.kept hb5)
          have HM5 := Lib.hid (HG.out.read.below hb5)
          clear hb5 q0 q1 q2 q3 q4 q5 q6 q7 q8 q9 q10 q11 q12
          cases hok : mk.ok
          · have HDN := Lib.hid (show r = none by rw [← HRE.out]; simp [okX, hok])
            clear hok
            go_wp2_with (first
              | (refine wpList_load_row rfl 28 _ rfl (w.heap.size + 1) rfl 28 #[.int .i64 0, .int .i64 0, .int .i64 0, .int .i64 0, .int .i64 0, .int .i64 0, .int .i64 0, .int .i64 0, .slice none 0 0, .slice none 0 0, .slice none 0 0, .slice none 0 0, .slice none 0 0] (0, 0) _ HR54.out Try.underlying28 rfl info1_M ?_)
              | (refine wpList_store_bk8 rfl 28 _ _ rfl w.heap.size [.int .i64 0, .int .i64 0, .int .i64 0, .int .i64 0, .int .i64 0, .int .i64 0, .int .i64 0, .int .i64 0, .slice none 0 0, .slice none 0 0, .slice none 0 0, .slice none 0 0, .slice none 0 0] rfl rfl 28 [.int .i64 0, .int .i64 0, .int .i64 0, .int .i64 0, .int .i64 0, .int .i64 0, .int .i64 0, .int .i64 0, .slice none 0 0, .slice none 0 0, .slice none 0 0, .slice none 0 0, .slice none 0 0] HR52.out rfl info1_M rfl ?_
                 intro w99 hk99 hg99))
            refine bodyPost_ret_by (results_row_tmp rfl _ _ w.heap.size 28 _ _ rfl hk99.out Try.underlying28 rfl info1_M) rfl ?_
            exact ⟨HB5.out.grown hg99.out HB5.out.size (fun g hg => by cases hg; omega), .inr ⟨HRL.out.symm.trans HDN.out, rfl⟩⟩
          have HDN := Lib.hid (show r = some mk by rw [← HRE.out]; simp [okX, hok])
          clear hok
          go_wp2_with (first
            | (refine wpList_load_row rfl 28 _ rfl w1.heap.size rfl 28 #[.int .i64 mk.kind, .int .i64 mk.view, .int .i64 mk.seq, .int .i64 mk.client, .int .i64 mk.stamp, .int .i64 mk.e.c, .int .i64 mk.e.s, .int .i64 mk.e.t, .slice qk.ea mk.e.dig.length qk.ec, .slice qk.ga mk.dig.length qk.gc, .slice qk.da mk.data.length qk.dc, .slice qk.pa mk.proof.length qk.pc, .slice qk.va mk.proven.length qk.vc] (0, 0) _ HG5.out Try.underlying28 rfl info1_M ?_)
            | (refine wpList_store_bk8 rfl 28 _ _ rfl w.heap.size [.int .i64 mk.kind, .int .i64 mk.view, .int .i64 mk.seq, .int .i64 mk.client, .int .i64 mk.stamp, .int .i64 mk.e.c, .int .i64 mk.e.s, .int .i64 mk.e.t, .slice qk.ea mk.e.dig.length qk.ec, .slice qk.ga mk.dig.length qk.gc, .slice qk.da mk.data.length qk.dc, .slice qk.pa mk.proof.length qk.pc, .slice qk.va mk.proven.length qk.vc] rfl rfl 28 [.int .i64 0, .int .i64 0, .int .i64 0, .int .i64 0, .int .i64 0, .int .i64 0, .int .i64 0, .int .i64 0, .slice none 0 0, .slice none 0 0, .slice none 0 0, .slice none 0 0, .slice none 0 0] HR52.out rfl info1_M rfl ?_
               intro w99 hk99 hg99))
          have hr := HM5.out.keep (F' := From w.heap.size) (Kp.of_grown hg99.out fun b hb e => by injection e with e; have := hb.1; omega) (fun b hb _ => by have := hb.1; unfold From; omega)
          refine bodyPost_ret_by (results_row_tmp rfl _ _ w.heap.size 28 _ _ rfl hk99.out Try.underlying28 rfl info1_M) rfl ?_
          exact ⟨HB5.out.grown hg99.out HB5.out.size (fun g hg => by cases hg; omega), .inl ⟨mk, qk, HRL.out.symm.trans HDN.out, rfl, hr⟩⟩
        have hx : ps[k]? = some ps[k] := List.getElem?_eq_getElem hlt
        obtain ⟨f, hf⟩ : ∃ f, fs[k]? = some f := ⟨_, List.getElem?_eq_getElem (by have := HLEN.out; omega)⟩
        obtain ⟨x9, B, d, ea, hxb, hcf, hBf⟩ := HDBW.out.rows.b1 (k := k + 1) (l := f) (by simpa using hf)
        obtain rfl := Option.some.inj ea
        have hcf : wr.cell? ⟨x.block, x.off + (k + 1), none⟩ = some (.slice B f.length d) := by simpa [Addr.add] using hcf
        have hq := HLA.out k _ hx
        have hkl : k < ls.length := by have := HLL.out; omega
        have hp9 := HPL.out _ (List.getElem_mem hlt)
        have hsz : f.length ≤ 4294967296 := by
          have h1 : f ∈ f0 :: fs := List.mem_cons_of_mem _ (List.mem_of_getElem? hf)
          have := HSF.out f h1
          omega
        have HFP := Lib.hid hf
        have HXP := Lib.hid hx
        generalize ps[k] = p at *
        have hlk : ls[k] = letterB p := by rw [List.getElem?_eq_getElem hkl] at hq; exact Option.some.inj hq
        have HLK := Lib.hid hlk
        have HBF := Lib.hid hBf
        have HSZ := Lib.hid hsz
        have HGG := Lib.hid (show ∀ b, wr.heap.size ≤ b → GD w.heap.size w1.heap.size b from fun b hb => by have h1 := HG.out.box.lt; have h2 := HGW.out; exact ⟨by omega, by omega⟩)
        have y7 : (k : Int) < (ls.length : Int) := by omega
        have y8 : (0 : Int) ≤ (k : Int) := by omega
        have y9 : (k : Int) < (fs.length : Int) := by have := HLEN.out; omega
        have y10 : ls.length ≤ 4 := by have := HLL.out; omega
        have y11 : fs.length ≤ 4 := by have := HLEN.out; omega
        have hks : k < ByteArray.size ⟨ls.toArray⟩ := hkl
        have h9 : p ≤ 8 := by omega
        clear hx hf ea hxb hq hp9 hsz hlk hBf
        rcases nine8 h9 with rfl | rfl | rfl | rfl | rfl | rfl | rfl | rfl | rfl
        · skip
          have hlk : ((⟨ls.toArray⟩ : ByteArray)[k]'hks).toNat = 118 := by show (ls[k]).toNat = _; rw [HLK.out]; rfl
          have b0 : ((((⟨ls.toArray⟩ : ByteArray)[k]'hks).toNat : Int) == 118) = true := by rw [hlk]; rfl
          clear hlk h9
          have HC := Lib.hid (refOne_any B f.length d f wr HBF.out.sl HSZ.out)
          go_wp2_with fail
          refine HC.out.mono ?_
          rintro e w5 ⟨hb5, ⟨v, hv, rfl⟩ | ⟨hv, rfl⟩⟩
          · have HG5 := Lib.hid (HG.out.box.kept hb5)
            have k1 := (HGB.out.kept hb5).at_ (i := 1) rfl
            have z1 := (HGB.out.kept hb5).frozen 1
            have HV := Lib.hid hv
            have HB5 := Lib.hid hb5
            clear hb5 hv
            go_wp2_with fail
            go_roundw
            case rel =>
              refine ⟨k + 1, true, rfl, by go_num, by omega, ?_⟩
              have gr := grown_set (below_grown HB5.out (some w1.heap.size)) 1 (.int .i64 v)
              have gr1 := grown_set (grown_refl w5 (some w1.heap.size)) 1 (.int .i64 v)
              have hm := HG.out.read.keep (Kp.of_grown gr fun b hb e => hb.2 (Option.some.inj e)) fun _ h _ => h
              exact ⟨HDBW.out.step gr HGW.out, fun _ => ⟨{ mk with view := v }, qk, HG.out.next HXP.out HFP.out (show mk.put 0 f = some _ by show (rdNum f).map _ = _; rw [HV.out]; rfl) (HG5.out.set 1 (.int .i64 v)) (show MgR _ _ { mk with view := v } qk from ⟨hm.e, hm.g, hm.d, hm.p, hm.v⟩) (fun h8 => ⟨rfl, rfl, rfl⟩)⟩, fun h => by cases h⟩
            case measure => simp [intOf]; omega
          · have HG5 := Lib.hid (HG.out.box.kept hb5)
            have k1 := (HGB.out.kept hb5).at_ (i := 1) rfl
            have z1 := (HGB.out.kept hb5).frozen 1
            have HV := Lib.hid hv
            have HB5 := Lib.hid hb5
            clear hb5 hv
            go_wp2_with fail
            go_roundw
            case rel =>
              refine ⟨k + 1, false, rfl, by go_num, by omega, ?_⟩
              have gr := grown_set (below_grown HB5.out (some w1.heap.size)) 1 (.int .i64 0)
              exact ⟨HDBW.out.step gr HGW.out, fun h => (by cases h), fun _ => HG.out.none_ HXP.out HFP.out (show mk.put 0 f = none by show (rdNum f).map _ = _; rw [HV.out]; rfl)⟩
            case measure => simp [intOf]; omega
        · skip
          have hF : False := (show ∀ kd ∈ ([12] : List Int), 1 ∉ partsN kd by decide) kd HKD.out (by rw [← HPS.out]; exact List.mem_of_getElem? HXP.out)
          cases hF
        · skip
          have hF : False := (show ∀ kd ∈ ([12] : List Int), 2 ∉ partsN kd by decide) kd HKD.out (by rw [← HPS.out]; exact List.mem_of_getElem? HXP.out)
          cases hF
        · skip
          have hF : False := (show ∀ kd ∈ ([12] : List Int), 3 ∉ partsN kd by decide) kd HKD.out (by rw [← HPS.out]; exact List.mem_of_getElem? HXP.out)
          cases hF
        · skip
          have hF : False := (show ∀ kd ∈ ([12] : List Int), 4 ∉ partsN kd by decide) kd HKD.out (by rw [← HPS.out]; exact List.mem_of_getElem? HXP.out)
          cases hF
        · skip
          have hF : False := (show ∀ kd ∈ ([12] : List Int), 5 ∉ partsN kd by decide) kd HKD.out (by rw [← HPS.out]; exact List.mem_of_getElem? HXP.out)
          cases hF
        · skip
          have hF : False := (show ∀ kd ∈ ([12] : List Int), 6 ∉ partsN kd by decide) kd HKD.out (by rw [← HPS.out]; exact List.mem_of_getElem? HXP.out)
          cases hF
        · skip
          have hlk : ((⟨ls.toArray⟩ : ByteArray)[k]'hks).toNat = 108 := by show (ls[k]).toNat = _; rw [HLK.out]; rfl
          have b0 : ((((⟨ls.toArray⟩ : ByteArray)[k]'hks).toNat : Int) == 118) = false := by rw [hlk]; rfl
          have b1 : ((((⟨ls.toArray⟩ : ByteArray)[k]'hks).toNat : Int) == 115) = false := by rw [hlk]; rfl
          have b2 : ((((⟨ls.toArray⟩ : ByteArray)[k]'hks).toNat : Int) == 99) = false := by rw [hlk]; rfl
          have b3 : ((((⟨ls.toArray⟩ : ByteArray)[k]'hks).toNat : Int) == 116) = false := by rw [hlk]; rfl
          have b4 : ((((⟨ls.toArray⟩ : ByteArray)[k]'hks).toNat : Int) == 101) = false := by rw [hlk]; rfl
          have b5 : ((((⟨ls.toArray⟩ : ByteArray)[k]'hks).toNat : Int) == 100) = false := by rw [hlk]; rfl
          have b6 : ((((⟨ls.toArray⟩ : ByteArray)[k]'hks).toNat : Int) == 98) = false := by rw [hlk]; rfl
          have b7 : ((((⟨ls.toArray⟩ : ByteArray)[k]'hks).toNat : Int) == 108) = true := by rw [hlk]; rfl
          clear hlk h9
          have HC := Lib.hid (refReads_any B f.length d f wr HBF.out.sl HSZ.out)
          go_wp2_with fail
          refine HC.out.mono ?_
          rintro e w5 ⟨hb5, ⟨v, hv, hall, A5, c5, rfl, hr5⟩ | ⟨hv, rfl⟩⟩
          · have HG5 := Lib.hid (HG.out.box.kept hb5)
            have k11 := (HGB.out.kept hb5).at_ (i := 11) rfl
            have z11 := (HGB.out.kept hb5).frozen 11
            have HV := Lib.hid hv
            have HB5 := Lib.hid hb5
            have HR5 := Lib.hid hr5
            clear hb5 hv hr5 hall
            go_wp2_with fail
            go_roundw
            case rel =>
              refine ⟨k + 1, true, rfl, by go_num, by omega, ?_⟩
              have gr := grown_set (below_grown HB5.out (some w1.heap.size)) 11 (.slice A5 v.length c5)
              have gr1 := grown_set (grown_refl w5 (some w1.heap.size)) 11 (.slice A5 v.length c5)
              have hm := HG.out.read.keep (Kp.of_grown gr fun b hb e => hb.2 (Option.some.inj e)) fun _ h _ => h
              exact ⟨HDBW.out.step gr HGW.out, fun _ => ⟨{ mk with proof := v }, { qk with pa := A5, pc := c5 }, HG.out.next HXP.out HFP.out (show mk.put 7 f = some _ by show (rdLts f).map _ = _; rw [HV.out]; rfl) (HG5.out.set 11 (.slice A5 v.length c5)) (show MgR _ _ { mk with proof := v } { qk with pa := A5, pc := c5 } from ⟨hm.e, hm.g, hm.d, HR5.out.keep (F' := GD w.heap.size w1.heap.size) (Kp.of_grown gr1 fun b hb e => (HGG.out b hb).2 (Option.some.inj e)) fun b hb _ => HGG.out b hb, hm.v⟩) (fun h8 => ⟨rfl, rfl, rfl⟩)⟩, fun h => by cases h⟩
            case measure => simp [intOf]; omega
          · have HG5 := Lib.hid (HG.out.box.kept hb5)
            have k11 := (HGB.out.kept hb5).at_ (i := 11) rfl
            have z11 := (HGB.out.kept hb5).frozen 11
            have HV := Lib.hid hv
            have HB5 := Lib.hid hb5
            clear hb5 hv
            go_wp2_with fail
            go_roundw
            case rel =>
              refine ⟨k + 1, false, rfl, by go_num, by omega, ?_⟩
              have gr := grown_set (below_grown HB5.out (some w1.heap.size)) 11 (.slice none 0 0)
              exact ⟨HDBW.out.step gr HGW.out, fun h => (by cases h), fun _ => HG.out.stuck HPS.out HXP.out HFP.out (bad7 HV.out)⟩
            case measure => simp [intOf]; omega
        · skip
          have hF : False := (show ∀ kd ∈ ([12] : List Int), 8 ∉ partsN kd by decide) kd HKD.out (by rw [← HPS.out]; exact List.mem_of_getElem? HXP.out)
          cases hF
end Go.Proofs.Ytmgmmbgjmnklkaa
