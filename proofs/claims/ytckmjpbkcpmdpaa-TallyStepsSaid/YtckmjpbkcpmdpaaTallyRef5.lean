/-
  The document's own tally: Put. A walk; no statement.
-/
import Derived.Test.YtckmjpbkcpmdpaaTallyRef3
import Derived.Deep.Cut
namespace Go.Proofs.Ytckmjpbkcpmdpaa
open Go.RowKit
set_option linter.unusedVariables false
set_option maxRecDepth 100000

theorem vrc_set (x' : Vr) : ∀ (l : List Vr) (k : Nat) (rest : List Value), k < l.length →
    ((((vrc l ++ rest).set (k * 4) (.bool x'.has)).set (k * 4 + 1) (.int .i64 x'.rank)).set (k * 4 + 2) (.slice x'.ka x'.kn x'.kc)).set (k * 4 + 3) (.slice x'.la x'.ln x'.lc) = vrc (l.set k x') ++ rest
  | [], k, _, h => by simp at h
  | y :: r, 0, _, _ => rfl
  | y :: r, k + 1, rest, h => by
    have ih := vrc_set x' r k rest (by simpa using h)
    rw [show (k + 1) * 4 = k * 4 + 1 + 1 + 1 + 1 by omega, show k * 4 + 1 + 1 + 1 + 1 + 1 = (k * 4 + 1) + 1 + 1 + 1 + 1 by omega, show k * 4 + 1 + 1 + 1 + 1 + 2 = (k * 4 + 2) + 1 + 1 + 1 + 1 by omega, show k * 4 + 1 + 1 + 1 + 1 + 3 = (k * 4 + 3) + 1 + 1 + 1 + 1 by omega]
    simp only [vrc, List.cons_append, List.set_cons_succ]
    rw [ih]
theorem ownVr_at {w : World} {base : Nat} {A : Option Addr} {n c : Nat} {l : List Vr} (h : OwnVr w base A n c l) (hn : 0 < n) :
    ∃ g, A = some ⟨g, 0, none⟩ ∧ base ≤ g ∧ n ≤ c ∧ c ≤ maxLen ∧ ∃ rest, Bk w g 53 (vrc l ++ rest) ∧ (vrc l ++ rest).length = c * 4 := by
  rcases h.2 with ⟨_, e2⟩ | ⟨g, cap, cur, e1, hb, hg, hnc, hcm, hsz, ht⟩
  · omega
  · injection e1 with e3 e4 e5
    subst e3 e5
    refine ⟨g, rfl, hb, hnc, hcm, cur.toList.drop (n * 4), ?_, ?_⟩
    · rw [← ht, List.take_append_drop]
      simpa [Bk] using hg
    · rw [← ht, List.take_append_drop]
      simpa using hsz
theorem ownVr_back {w : World} {base g n c : Nat} {l : List Vr} {rest : List Value} (h : Bk w g 53 (vrc l ++ rest)) (hc : (vrc l ++ rest).length = c * 4) (hb : base ≤ g) (hn : l.length = n) (hnc : n ≤ c) (hm : c ≤ maxLen) :
    OwnVr w base (some ⟨g, 0, none⟩) n c l :=
  ⟨by rw [vrc_len, hn], .inr ⟨g, c, _, rfl, hb, h, hnc, hm, by simpa using hc, by
    show List.take (n * 4) (vrc l ++ rest) = _
    have e : n * 4 = (vrc l).length := by rw [vrc_len, hn]
    rw [e, List.take_left]⟩⟩
theorem OwnVr.empty (w : World) : OwnVr (w.alloc (.cells #[] 53)) w.heap.size (some ⟨w.heap.size, 0, none⟩) 0 0 [] :=
  World.ownsRow_lit (e := 53) (base := w.heap.size) (size := 4) w #[] 0 (Nat.le_refl _) (by simp [maxLen]) rfl
/-- what Put of the document's tally does: whether it takes the vote, and the tally behind it, whose blocks are of G or new -/
def PutR (N : Int) (vs : List Vo) (v : Vo) (G : Nat → Prop) (n : Nat) (w : World) (e : Ending) (w' : World) : Prop :=
  ∃ A' c' G', e = .returned (.tuple #[.agg #[.slice A' n c'], .bool (tyTakes N vs v.voter v.rank)]) ∧ RefM w' G' A' n c' N (if tyTakes N vs v.voter v.rank = true then tyPut vs v else vs) ∧ (∀ i, G' i → G i ∨ w.heap.size ≤ i) ∧ Below w.heap.size w w'
/-- which votes are taken -/
theorem takes_at {N : Int} {vs : List Vo} {xs : List Vr} (ho : RefOf N vs xs) (hg : TyGood N vs) {a r : Int} {k : Nat} {x : Vr} (e : a = (k : Int)) (hx : xs[k]? = some x) : tyTakes N vs a r = (decide (0 ≤ r) && (!x.has || decide (x.rank < r))) := by
  subst e
  have h1 := (List.getElem?_eq_some_iff.1 hx).1
  have h2 := ho.len
  unfold tyTakes
  rw [ho.known hg hx]
  rw [decide_eq_true (show (0 : Int) ≤ (k : Int) by omega), decide_eq_true (show (k : Int) < N by omega)]
  cases x.has <;> simp [Vr.vo]
theorem takes_out {N : Int} {vs : List Vo} {a r : Int} (h : a < 0 ∨ N ≤ a) : tyTakes N vs a r = false := by
  unfold tyTakes
  rcases h with h | h
  · rw [decide_eq_false (show ¬ (0 : Int) ≤ a by omega)]; rfl
  · rw [decide_eq_false (show ¬ a < N by omega)]; simp
/-- behind the walk: the new tally -/
theorem put_made {w w' : World} {G : Nat → Prop} {A : Option Addr} {n c : Nat} {N : Int} {vs : List Vo} {xs : List Vr} (h : RefAt w G A n c xs) (ho : RefOf N vs xs) (hg : TyGood N vs) (hb : Below w.heap.size w w')
    {k : Nat} {x' : Vr} {v : Vo} (hk : k < n) (hh : x'.has = true) (hv : x'.vo k = v) (hl : x'.key.length ≤ 1099511627776 ∧ x'.load.length ≤ 1099511627776) (hr : 0 ≤ v.rank ∧ v.rank ≤ 9223372036854775807)
    {A' : Option Addr} {c' : Nat} (hrow : OwnVr w' w.heap.size A' n c' (xs.set k x')) (h1 : OwnB w' w.heap.size x'.ka x'.kn x'.kc x'.key) (h2 : OwnB w' w.heap.size x'.la x'.ln x'.lc x'.load) :
    RefM w' (fun i => G i ∨ (w.heap.size ≤ i ∧ i < w'.heap.size)) A' n c' N (tyPut vs v) := by
  have hlen := h.row.len
  have hN := ho.len
  subst hv
  refine ⟨hg.put ⟨by show (0 : Int) ≤ (k : Int); omega, by show (k : Int) < N; omega, hr.1, hr.2, hl.1, hl.2⟩, xs.set k x', ⟨hrow.more (Nat.zero_le _), fun b e => .inr (hrow.block b e), fun x hx => ?_, fun x hx a e => ?_, fun i hi => ?_⟩, ho.put (by omega) hh hl⟩
  · rcases List.mem_or_eq_of_mem_set hx with q | q
    · exact ⟨(h.rds x q).1.below hb, (h.rds x q).2.below hb⟩
    · subst q; exact ⟨h1.rd, h2.rd⟩
  · rcases List.mem_or_eq_of_mem_set hx with q | q
    · exact .inl (h.far x q a e)
    · subst q
      rcases e with e | e
      · exact .inr ⟨h1.block a.block (by rw [e]; rfl), (World.ownsRow.lt h1 a.block (by rw [e]; rfl)).2⟩
      · exact .inr ⟨h2.block a.block (by rw [e]; rfl), (World.ownsRow.lt h2 a.block (by rw [e]; rfl)).2⟩
  · rcases hi with hi | hi
    · exact Nat.lt_of_lt_of_le (h.lt i hi) hb.size
    · exact hi.2
set_option maxHeartbeats 6400000 in
theorem refPut_any (a r : Int) (key load : List UInt8) (K : Option Addr) (kn kc : Nat) (L : Option Addr) (ln lc : Nat) (G : Nat → Prop) (A : Option Addr) (n c : Nat) (N : Int) (vs : List Vo) (w : World) (h : RefM w G A n c N vs) (hn64 : n ≤ 64)
    (hk : Rd w K kn (key.map bv)) (hl : Rd w L ln (load.map bv)) (hkl : key.length ≤ 1099511627776) (hll : load.length ≤ 1099511627776) (hr : r ≤ 9223372036854775807) :
    Calls Try.prog 14 #[.agg #[.slice A n c], .int .i64 a, .int .i64 r, .slice K kn kc, .slice L ln lc] w (PutR N vs ⟨a, r, key, load⟩ G n w) := by
  obtain ⟨i0, hi, hz0, hz1, hz2⟩ := info_parts info_vr
  have HM := h
  obtain ⟨hg, xs, h, ho⟩ := h
  have hxl := h.row.len
  have hN := ho.len
  have k1 := (Bk.new w 29 [.slice A n c]).alloc (.cells #[.slice none 0 0] 29)
  have k2 := bk_new2 w (.cells #[.slice A n c] 29) [.slice none 0 0] 29
  have hb2 := ((Below.refl w.heap.size w).alloc (Nat.le_refl _) (.cells #[.slice A n c] 29)).alloc (by simp) (.cells #[.slice none 0 0] 29)
  have t0 := k1.at_ (i := 0) rfl
  have r0 := k2.at_ (i := 0) rfl
  have fr := k2.frozen 0
  have HR := Lib.hid (bk_new2 w (.cells #[.slice A n c] 29) [.slice A n c] 29)
  have HB := Lib.hid (((Below.refl w.heap.size w).alloc (Nat.le_refl _) (.cells #[.slice A n c] 29)).alloc (by simp) (.cells #[.slice A n c] 29))
  have hT := h.kept hb2
  have hcase : (a < 0 ∨ N ≤ a) ∨ ∃ (k : Nat) (x : Vr) (g : Nat), a = (k : Int) ∧ k < n ∧ xs[k]? = some x ∧ A = some ⟨g, 0, none⟩ ∧ g < w.heap.size := by
    by_cases q : a < 0 ∨ N ≤ a
    · exact .inl q
    · have e : a = (a.toNat : Int) := by omega
      have e2 : a.toNat < xs.length := by omega
      obtain ⟨g, e3, e4, _⟩ := h.row.at_ (List.getElem?_eq_getElem e2)
      exact .inr ⟨a.toNat, _, g, e, by omega, List.getElem?_eq_getElem e2, e3, e4⟩
  have HM' := Lib.hid HM
  rcases hcase with q | ⟨k, x, g, rfl, hkn, hx, rfl, hgl⟩
  · have HTK := Lib.hid (takes_out (r := r) (vs := vs) q)
    have q' : a < 0 ∨ (¬ a < 0 ∧ (n : Int) ≤ a) := by omega
    clear q hT h ho hg k1 hb2 k2 HM
    rcases q' with q | ⟨q1, q2⟩
    all_goals
      go_enter Try.func14, Try.ntmps14
      go_wp2_with fail
      refine bodyPost_ret_by (results_row_tmp rfl _ _ (w.heap.size + 1) 29 _ _ rfl HR.out Try.underlying29 rfl info_rt) rfl ?_
      exact ⟨A, c, G, by rw [HTK.out]; rfl, by rw [HTK.out]; exact HM'.out.kept HB.out, fun i hi => .inl hi, HB.out⟩
  · have HTK := Lib.hid (takes_at (r := r) ho hg rfl hx)
    obtain ⟨g', eg, _, c0, c1, _, _⟩ := hT.row.at_ hx
    obtain rfl : g = g' := by injection eg with eg; injection eg
    have y1 : ¬ (k : Int) < 0 := by omega
    have y2 : ¬ (n : Int) ≤ (k : Int) := by omega
    have y3 : (0 : Int) ≤ (k : Int) := by omega
    have y4 : (k : Int) < (n : Int) := by omega
    have hc4 : r < 0 ∨ (¬ r < 0 ∧ x.has = true ∧ r ≤ x.rank) ∨ (¬ r < 0 ∧ x.has = true ∧ ¬ r ≤ x.rank) ∨ (¬ r < 0 ∧ x.has = false) := by
      by_cases p : r < 0
      · exact .inl p
      · cases x.has with
        | false => exact .inr (.inr (.inr ⟨p, rfl⟩))
        | true =>
          by_cases p2 : r ≤ x.rank
          · exact .inr (.inl ⟨p, rfl, p2⟩)
          · exact .inr (.inr (.inl ⟨p, rfl, p2⟩))
    rcases hc4 with p | ⟨p, hh, p2⟩ | ⟨p, hh, p2⟩ | ⟨p, hh⟩
    · have HTK2 := Lib.hid (show tyTakes N vs (k : Int) r = false by rw [HTK.out, decide_eq_false (show ¬ (0 : Int) ≤ r by omega)]; rfl)
      clear hT h ho hg k1 hb2 k2 HM hx
      go_enter Try.func14, Try.ntmps14
      go_wp2_with fail
      refine bodyPost_ret_by (results_row_tmp rfl _ _ (w.heap.size + 1) 29 _ _ rfl HR.out Try.underlying29 rfl info_rt) rfl ?_
      exact ⟨_, c, G, by rw [HTK2.out]; rfl, by rw [HTK2.out]; exact HM'.out.kept HB.out, fun i hi => .inl hi, HB.out⟩
    · have HTK2 := Lib.hid (show tyTakes N vs (k : Int) r = false by rw [HTK.out, hh, decide_eq_false (show ¬ x.rank < r by omega)]; simp)
      rw [hh] at c0
      clear hT h ho hg k1 hb2 k2 HM hx
      go_enter Try.func14, Try.ntmps14
      go_wp2_with fail
      refine bodyPost_ret_by (results_row_tmp rfl _ _ (w.heap.size + 1) 29 _ _ rfl HR.out Try.underlying29 rfl info_rt) rfl ?_
      exact ⟨_, c, G, by rw [HTK2.out]; rfl, by rw [HTK2.out]; exact HM'.out.kept HB.out, fun i hi => .inl hi, HB.out⟩
    all_goals
      have HTK2 := Lib.hid (show tyTakes N vs (k : Int) r = true by rw [HTK.out, hh, decide_eq_true (show (0 : Int) ≤ r by omega)]; first | rfl | (rw [decide_eq_true (show x.rank < r by omega)]; rfl))
      rw [hh] at c0
      have HT := Lib.hid h
      have HO := Lib.hid ho
      have HG := Lib.hid hg
      have HX := Lib.hid hx
      have HKT := Lib.hid (k1.alloc (.cells #[] 53))
      have HKR := Lib.hid (k2.alloc (.cells #[] 53))
      have HB2 := Lib.hid hb2
      have HN := Lib.hid hkn
      have HXL := Lib.hid hxl
      have HRK := Lib.hid hk
      have HRL := Lib.hid hl
      have HL2 := Lib.hid (And.intro hkl (And.intro hll (show 0 ≤ r ∧ r ≤ 9223372036854775807 by omega)))
      have HSRC := Lib.hid ((hT.kept ((Below.refl _ _).alloc (Nat.le_refl _) (.cells #[] 53))).row)
      have HE0 := Lib.hid (show OwnVr (((w.alloc (.cells #[.slice (some ⟨g, 0, none⟩) n c] 29)).alloc (.cells #[.slice none 0 0] 29)).alloc (.cells #[] 53)) (w.heap.size + 2) (some ⟨w.heap.size + 1 + 1, 0, none⟩) 0 0 [] from by simpa using OwnVr.empty ((w.alloc (.cells #[.slice (some ⟨g, 0, none⟩) n c] 29)).alloc (.cells #[.slice none 0 0] 29)))
      clear hT h ho hg k1 hb2 k2 HM hx hk hl hkl hll hr hkn HR HB
      go_enter Try.func14, Try.ntmps14
      go_wp2_with (at_builtin
                   refine wpList_append_own_at _ rfl _ _ 27 rfl (w.heap.size + 2) 53 i0 _ 4 64 Try.underlying27 hi hz0 hz1 hz2 rfl (by omega) (.slice (some ⟨w.heap.size + 1 + 1, 0, none⟩) 0 0) 0 (vrc []) rfl HE0.out
                     ⟨g, 0, none⟩ n c (vrc xs) rfl (by rw [vrc_len, HXL.out]) (fun j u hj => World.ownsRow.cells HSRC.out (g := g) rfl j u hj) (one_vrc xs) (by simp only [maxLen]; omega) (by omega) (by simp) ?_
                   intro v4 w4 hown4 hg4 hnil4 hrow4
                   rw [Nat.zero_add] at hown4
                   obtain ⟨A4, c4, rfl⟩ : ∃ A4 c4, v4 = .slice A4 n c4 := by
                     rcases hown4.2 with ⟨_, e⟩ | ⟨g, cap, cur, e, _⟩
                     · have := HN.out; omega
                     · exact ⟨_, _, e⟩
                   obtain ⟨g4, rfl, hg4b, hnc4, hcm4, rest4, hk4, hlen4⟩ := ownVr_at (show OwnVr w4 (w.heap.size + 2) A4 n c4 xs from hown4) (by have := HN.out; omega)
                   have b4 := HB2.out.alloc HB2.out.size (.cells #[] 53)
                   have HB4 := Lib.hid (b4.grown hg4 b4.size (fun g hg => by have := HE0.out.block g hg; omega))
                   have HT4 := Lib.hid (HKT.out.grown hg4 (fun hg => by have := HE0.out.block _ hg.symm; omega))
                   have HR4 := Lib.hid (HKR.out.grown hg4 (fun hg => by have := HE0.out.block _ hg.symm; omega))
                   have HK4 := Lib.hid hk4
                   have HI4 := Lib.hid (And.intro hg4b (And.intro hnc4 (And.intro hcm4 hlen4)))
                   have HC1 := Lib.hid (copyBytes_any K kn kc key w4 (HRK.out.below HB4.out) (by have h1 := HRK.out.1; have h2 := HL2.out.1; rw [List.length_map] at h1; omega))
                   clear hown4 hg4 hnil4 hrow4 b4 t0 r0 hk4 hg4b hnc4 hcm4 hlen4 c0 c1 fr)
      refine HC1.out.mono ?_
      rintro e w5 ⟨A5, n5, c5, rfl, ho5, hb5⟩
      have HB5 := Lib.hid (below_next HB4.out hb5 HB4.out.size)
      have HO5 := Lib.hid (ho5.more HB4.out.size)
      have HN5 := Lib.hid (show ∀ b, (Value.slice A5 n5 c5).ownBlock = some b → b ≠ g4 ∧ w.heap.size + 2 ≤ b from fun b hb => by have h1 := ho5.block b hb; have h2 := HK4.out.lt; have h3 := HI4.out.1; omega)
      have HT5 := Lib.hid (HT4.out.kept hb5)
      have HR5 := Lib.hid (HR4.out.kept hb5)
      have HK5 := Lib.hid (HK4.out.kept hb5)
      have HC2 := Lib.hid (copyBytes_any L ln lc load w5 (HRL.out.below HB5.out) (by have h1 := HRL.out.1; have h2 := HL2.out.2.1; rw [List.length_map] at h1; omega))
      clear ho5 hb5
      go_wp2_with fail
      refine HC2.out.mono ?_
      rintro e w6 ⟨A6, n6, c6, rfl, ho6, hb6⟩
      have HB6 := Lib.hid (below_next HB5.out hb6 HB5.out.size)
      have HO6 := Lib.hid (ho6.more HB5.out.size)
      have HN6 := Lib.hid (show ∀ b, (Value.slice A6 n6 c6).ownBlock = some b → b ≠ g4 ∧ w.heap.size + 2 ≤ b from fun b hb => by have h1 := ho6.block b hb; have h2 := HK5.out.lt; have h3 := HI4.out.1; omega)
      have HO5' := Lib.hid (HO5.out.below hb6)
      have HT6 := Lib.hid (HT5.out.kept hb6)
      have HR6 := Lib.hid (HR5.out.kept hb6)
      have hk6 := HK5.out.kept hb6
      have HK6 := Lib.hid hk6
      have hat := vrc_at xs k x HX.out
      have hap : ∀ i v, (vrc xs)[i]? = some v → (vrc xs ++ rest4)[i]? = some v := fun i v h => by rw [List.getElem?_append_left (List.getElem?_eq_some_iff.1 h).1]; exact h
      have s0 := hk6.at_ (hap _ _ hat.1)
      have s1 := hk6.at_ (hap _ _ hat.2.1)
      have s2 := hk6.at_ (hap _ _ hat.2.2.1)
      have s3 := hk6.at_ (hap _ _ hat.2.2.2)
      have f0 := hk6.frozen (k * 4)
      have f1 := hk6.frozen (k * 4 + 1)
      have f2 := hk6.frozen (k * 4 + 2)
      have f3 := hk6.frozen (k * 4 + 3)
      clear ho6 hb6 hk6 hat hap
      go_upto_region 5 with fail
      generalize hx' : (Vr.mk true r key load A5 n5 c5 A6 n6 c6) = x'
      have e1 : x'.has = true := by rw [← hx']
      have e2 : x'.rank = r := by rw [← hx']
      have e3 : x'.key = key := by rw [← hx']
      have e4 : x'.load = load := by rw [← hx']
      have kb := ((((HK6.out).set (k * 4) (.bool true)).set (k * 4 + 1) (.int .i64 r)).set (k * 4 + 2) (.slice A5 n5 c5)).set (k * 4 + 3) (.slice A6 n6 c6)
      have ek : ((((vrc xs ++ rest4).set (k * 4) (.bool true)).set (k * 4 + 1) (.int .i64 r)).set (k * 4 + 2) (.slice A5 n5 c5)).set (k * 4 + 3) (.slice A6 n6 c6) = vrc (xs.set k x') ++ rest4 := by
        rw [← hx']
        exact vrc_set ⟨true, r, key, load, A5, n5, c5, A6, n6, c6⟩ xs k rest4 (by have h1 := HN.out; have h2 := HXL.out; omega)
      rw [ek] at kb
      have hgg := HI4.out.1
      have ch := (((((Chg.refl (fun i => i = g4) w6).set (.inl rfl) (k * 4) (.bool true)).set (.inl rfl) (k * 4 + 1) (.int .i64 r)).set (.inl rfl) (k * 4 + 2) (.slice A5 n5 c5)).set (.inl rfl) (k * 4 + 3) (.slice A6 n6 c6))
      have HB7 := Lib.hid (HB6.out.trans (ch.below (B := w.heap.size) (fun i hi => by have e : i = g4 := hi; omega) HB6.out.size))
      have HT7 := Lib.hid (ch.bk HT6.out (fun e => by have e' : w.heap.size = g4 := e; omega))
      have HR7 := Lib.hid (ch.bk HR6.out (fun e => by have e' : w.heap.size + 1 = g4 := e; omega))
      have HO57 := Lib.hid (show OwnB _ w.heap.size A5 n5 c5 key from ch.ownB HO5'.out (fun b hb e => (HN5.out b hb).1 e))
      have HO67 := Lib.hid (show OwnB _ w.heap.size A6 n6 c6 load from ch.ownB HO6.out (fun b hb e => (HN6.out b hb).1 e))
      have HK7 := Lib.hid kb
      clear ch kb ek s0 s1 s2 s3 f0 f1 f2 f3
      generalize ((((w6.setCell { block := g4, off := k * 4 } (Value.bool true)).setCell { block := g4, off := k * 4 + 1 } (Value.int IntKind.i64 r)).setCell { block := g4, off := k * 4 + 2 } (Value.slice A5 n5 c5)).setCell { block := g4, off := k * 4 + 3 } (Value.slice A6 n6 c6)) = w7 at *
      have t7 := HT7.out.at_ (i := 0) rfl
      have ft7 := HT7.out.frozen 0
      have HT8 := Lib.hid (HT7.out.set 0 (.slice (some ⟨g4, 0, none⟩) n c4))
      have t8 := HT8.out.at_ (i := 0) rfl
      have HR8 := Lib.hid (HR7.out.far (p := ⟨w.heap.size, 0, none⟩) (by simp) (.slice (some ⟨g4, 0, none⟩) n c4))
      have r8 := HR8.out.at_ (i := 0) rfl
      have fr8 := HR8.out.frozen 0
      have HR9 := Lib.hid (HR8.out.set 0 (.slice (some ⟨g4, 0, none⟩) n c4))
      go_wp2_with fail
      refine bodyPost_ret_by (results_row_tmp rfl _ _ (w.heap.size + 1) 29 _ _ rfl HR9.out Try.underlying29 rfl info_rt) rfl ?_
      have ch2 := ((Chg.refl (fun i => i = w.heap.size ∨ i = w.heap.size + 1) w7).set (g := w.heap.size) (.inl (.inl rfl)) 0 (.slice (some ⟨g4, 0, none⟩) n c4)).set (g := w.heap.size + 1) (.inl (.inr rfl)) 0 (.slice (some ⟨g4, 0, none⟩) n c4)
      have HB9 := HB7.out.trans (ch2.below (B := w.heap.size) (fun i hi => by rcases hi with e | e <;> omega) HB7.out.size)
      have hr9 := ch2.bk HK7.out (fun e => by have h1 := HI4.out.1; rcases e with e | e <;> omega)
      have ho5 := ch2.ownB HO57.out (fun b hb e => by have h1 := (HN5.out b hb).2; rcases e with e | e <;> omega)
      have ho6 := ch2.ownB HO67.out (fun b hb e => by have h1 := (HN6.out b hb).2; rcases e with e | e <;> omega)
      refine ⟨some ⟨g4, 0, none⟩, c4, fun i => G i ∨ (w.heap.size ≤ i ∧ i < (World.setCell (w7.setCell ⟨w.heap.size, 0, none⟩ (.slice (some ⟨g4, 0, none⟩) n c4)) ⟨w.heap.size + 1, 0, none⟩ (.slice (some ⟨g4, 0, none⟩) n c4)).heap.size), by rw [HTK2.out]; rfl, ?_, fun i hi => hi.imp id (fun q => q.1), HB9⟩
      rw [if_pos (show tyTakes N vs (Vo.mk k r key load).voter (Vo.mk k r key load).rank = true from HTK2.out)]
      exact put_made HT.out HO.out HG.out HB9 HN.out e1 (by unfold Vr.vo; rw [e2, e3, e4]) (by rw [e3, e4]; exact ⟨HL2.out.1, HL2.out.2.1⟩) HL2.out.2.2
        (ownVr_back hr9 (by have h1 := HI4.out.2.2.2; rw [List.length_append, vrc_len] at h1; rw [List.length_append, vrc_len, List.length_set]; exact h1) (by have h1 := HI4.out.1; omega) (by rw [List.length_set]; exact HXL.out) HI4.out.2.1 HI4.out.2.2.1) (by subst hx'; exact ho5) (by subst hx'; exact ho6)
end Go.Proofs.Ytckmjpbkcpmdpaa
