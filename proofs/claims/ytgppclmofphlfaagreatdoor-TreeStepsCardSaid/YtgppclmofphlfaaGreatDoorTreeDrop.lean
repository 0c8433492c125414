/-
  A node dropped. Walks; no statement.
-/
import Derived.Test.YtgppclmofphlfaaGreatDoorTreeKids1
import Derived.Test.YtgppclmofphlfaaGreatDoorTreeMake
import Derived.Maps.OwnIn
namespace Go.Proofs.YtgppclmofphlfaaGreatDoor
set_option maxRecDepth 100000
open Go.RowKit Go.Shelf
set_option linter.unusedVariables false
attribute [local go_sem] Oper.semAt_some

theorem parent_some {q : List UInt8} (h : (partsOf q).isSome = true) (h0 : q ≠ [47]) : ∃ up, parentP q = some up := by
  rcases path_cases q with e | ⟨rfl, e⟩ | ⟨ps, x, e, _⟩
  · rw [e] at h; cases h
  · exact absurd rfl h0
  · exact ⟨_, (parentP_eq e).1⟩
theorem tDrop_err {q : List UInt8} {v : Int} {t : List Lf} {n : Int} (h0 : q ≠ [47]) (h : tGet q t = (none, n)) : tDrop q v t = (t, n) := by
  unfold tGet at h
  unfold tDrop
  split at h
  · rename_i hp
    injection h with _ h
    rw [(belowP_none hp).2.1, ← h]
  · rename_i hp
    obtain ⟨up, hu⟩ := parent_some (q := q) (by cases e : partsOf q with | none => exact absurd e hp | some _ => rfl) h0
    rw [hu]
    split at h
    · rename_i ha
      injection h with _ h
      rw [← h]
    · cases h
theorem tDrop_has {q : List UInt8} {v : Int} {t : List Lf} {l : Lf} (h0 : q ≠ [47]) (hs : Srt t) (h : tGet q t = (some l, 0)) : tDrop q v t =
    if 0 ≤ v ∧ l.ver ≠ v then (t, 102) else if tKids q t ≠ [] then (t, 103) else (t.filter fun y => decide (y.path ≠ q), 0) := by
  unfold tGet at h
  unfold tDrop
  split at h
  · cases h
  · rename_i hp
    obtain ⟨up, hu⟩ := parent_some (q := q) (by cases e : partsOf q with | none => exact absurd e hp | some _ => rfl) h0
    rw [hu]
    split at h
    · cases h
    · rename_i k hk
      have e : t.getD k lfRoot = l := by injection h with h; exact Option.some.inj h
      obtain ⟨x, hx, hxp⟩ := tAt_mem hk
      rw [e, drop_filter hs hx, hxp]
section
variable {F : Fence} {nF : Nat}
theorem wpListIn_drop_tree {G : Nat → Prop} {w : World} {ops : Array Oper} {rest : List Oper} {o : Oper} {a : Act} {Q : Exit → Act → World → Prop} (hg : o.guard = none) (m x : Operand)
    (hop : o.op = Op.call { callee := Callee.builtin Builtin.delete, args := #[m, x], argTypes := #[74, 9] }) (b : Nat) (t : List Lf) (q : List UInt8) (hm : a.eval m = .map (some b)) (hx : a.eval x = .string ⟨q.toArray⟩) (h : MpAt G w b t) (hl : q.length ≤ maxLen)
    (hK : ∀ w', Hid (MpAt G w' b (t.filter fun y => decide (y.path ≠ q))) → Hid (w.grownBy w' (some b)) → wpListIn F nF Tryz.prog ops Q rest (a.put o.dst (.tuple #[])) w') : wpListIn F nF Tryz.prog ops Q (o :: rest) a w := by
  refine wpListIn_plain hg fun K' hK' => ?_
  obtain ⟨w', hrun, r1, r2⟩ := h.drop q hl o.type
  unfold Oper.wpIn
  refine ⟨by simp [Oper.about, hop, resolve, Target.leads, Sem.run_pure], ?_⟩
  rw [Oper.semAt_plain F _ _ (by rw [hop]; intro c hc'; cases hc')]
  simp [execOp, hop, resolve, invoke, builtin, hm, hx, hrun, Result.andThen]
  exact hK' _ _ (hK w' (Lib.hid r1) (Lib.hid r2))
end
set_option maxRecDepth 100000 in
set_option maxHeartbeats 8000000 in
theorem drop_any (g : Nat) (t : List Lf) (F : Nat → Prop) (p : ByteArray) (v : Int) (w : World) (hE : Env w) (hT : TreeAt F w g t) (hn : t.length ≤ 1000) :
    Calls Tryz.prog 17 #[.pointer (some ⟨g, 0, none⟩), .string p, .int .i64 v] w (TDid F g (tDrop p.data.toList v t).1 (.int .i64 (tDrop p.data.toList v t).2) w) := by
  obtain ⟨q, rfl⟩ : ∃ l : List UInt8, p = ⟨l.toArray⟩ := ⟨p.data.toList, (sv_of p).symm⟩
  show Calls _ _ _ _ (TDid F g (tDrop q v t).1 (.int .i64 (tDrop q v t).2) w)
  obtain ⟨W1, hW1⟩ : ∃ W1, W1 = w.alloc (.cells #[.int .i64 0] 36) := ⟨_, rfl⟩
  have HB1 := Lib.hid (show Below w.heap.size w W1 by rw [hW1]; exact (Below.refl w.heap.size w).alloc (Nat.le_refl _) _)
  have HS1 := Lib.hid (show W1.heap.size = w.heap.size + 1 by rw [hW1]; simp)
  have HK1 := Lib.hid (show Bk W1 w.heap.size 36 [.int .i64 0] by rw [hW1]; exact Bk.new w 36 [.int .i64 0])
  have HC := Lib.hid (find_any g t (Lw F w) ⟨q.toArray⟩ W1 (hE.below HB1.out) (hT.low.below HB1.out))
  have HWE := Lib.hid hW1
  have HT := Lib.hid hT
  have HSR := Lib.hid hT.srt
  have HE := Lib.hid hE
  clear hE hT hW1
  refine (callsIn_wide (n := 6)).1 ?_
  refine callsIn_of_wp_marks Tryz.func17 rfl trivial ?_ rfl
  simp only [Tryz.ntmps17, List.size_toArray, List.length_cons, List.length_nil, Nat.reduceAdd, Nat.reduceSub, Array.replicate_succ, Array.replicate_zero, List.push_toArray, List.append_toArray, List.nil_append, List.cons_append]
  by_cases h0 : q = [47]
  · subst h0
    rw [show tDrop [47] v t = (t, 90) from rfl]
    have he : ((⟨[47].toArray⟩ : ByteArray) == ⟨#[47]⟩) = true := by decide
    gi_wp2_with fail
    have HX := Lib.hid (show Below w.heap.size w (w.alloc (.cells #[.int .i64 90] 36)) from (Below.refl w.heap.size w).alloc (Nat.le_refl _) _)
    have hc5 := (Bk.new w 36 [.int .i64 90]).at_ (i := 0) rfl
    refine ⟨.int .i64 90, ?_, tdid_same _ HT.out HX.out⟩
    simp [results, Tryz.f17, go_sem, hc5]
  · have he : (q == [47]) = false := by simpa using h0
    rcases tGet_cases q t with ⟨l, e, hlp, hlm, hqp⟩ | ⟨m, e, hm⟩
    · rw [tDrop_has h0 HSR.out e]
      replace HC := Lib.hid (show Calls _ _ _ _ (FndP (Lw F w) (some l, 0) W1) by have := HC.out; rw [show (⟨q.toArray⟩ : ByteArray).data.toList = q from rfl, e] at this; exact this)
      have HV := Lib.hid (fun A c X => isVersion_any l A c v X)
      have HQ := Lib.hid (show q.length ≤ maxLen by have := parts_le hqp; simp only [maxLen]; omega)
      clear e hlp hlm hqp h0
      by_cases hv : 0 ≤ v ∧ l.ver ≠ v
      · rw [if_pos hv]
        rw [show decide (v < 0 ∨ v = l.ver) = false by simp only [decide_eq_false_iff_not]; rintro (h | h) <;> omega] at HV
        clear hv
        gi_wp2_with fail
        rw [← HWE.out]
        refine ⟨trivial, (callsIn_wide.2 HC.out).mono ?_⟩
        rintro e w1 ⟨hb1, A, c, rfl, -⟩
        have HX := Lib.hid (HB1.out.trans (hb1.mono HB1.out.size))
        have HK := Lib.hid (HK1.out.kept hb1)
        clear hb1
        gi_wp2_with fail
        refine ⟨trivial, (callsIn_wide.2 (HV.out A c _)).mono ?_⟩
        rintro e w2 ⟨rfl, hb2⟩
        have HX2 := Lib.hid ((HX.out.alloc HX.out.size (.cells #[.string ⟨l.path.toArray⟩, .slice A l.data.length c, .int .i64 l.ver, .int .i64 l.own, .int .i64 l.next, .int .i64 l.born] 50)).trans (hb2.mono (by have := HX.out.size; simp; omega)))
        have HK2 := Lib.hid ((HK.out.alloc (.cells #[.string ⟨l.path.toArray⟩, .slice A l.data.length c, .int .i64 l.ver, .int .i64 l.own, .int .i64 l.next, .int .i64 l.born] 50)).kept hb2)
        clear hb2
        have k0 : w2.cell? ⟨w.heap.size, 0, none⟩ = some (.int .i64 0) := HK2.out.at_ rfl
        have k1 : w2.frozen? ⟨w.heap.size, 0, none⟩ = false := HK2.out.frozen 0
        gi_wp2_with fail
        have hc5 : (w2.setCell ⟨w.heap.size, 0, none⟩ (.int .i64 102)).cell? ⟨w.heap.size, 0, none⟩ = some (.int .i64 102) := (HK2.out.set 0 (.int .i64 102)).at_ rfl
        refine ⟨.int .i64 102, ?_, tdid_same _ HT.out (HX2.out.grown (grown_set (grown_refl w2 (some w.heap.size)) 0 (.int .i64 102)) HX2.out.size (fun g hg => by injection hg with hg; omega))⟩
        simp [results, Tryz.f17, go_sem, hc5]
      · rw [if_neg hv]
        rw [show decide (v < 0 ∨ v = l.ver) = true by simp only [decide_eq_true_iff]; omega] at HV
        clear hv
        obtain ⟨r, hr⟩ : ∃ r : List Lf × Int, r = if tKids q t ≠ [] then (t, 103) else (t.filter fun y => decide (y.path ≠ q), 0) := ⟨_, rfl⟩
        rw [← hr]
        have HRR := Lib.hid hr
        clear hr
        gi_wp2_with fail
        rw [← HWE.out]
        refine ⟨trivial, (callsIn_wide.2 HC.out).mono ?_⟩
        rintro e w1 ⟨hb1, A, c, rfl, -⟩
        have HX := Lib.hid (HB1.out.trans (hb1.mono HB1.out.size))
        have HK := Lib.hid (HK1.out.kept hb1)
        clear hb1
        gi_wp2_with fail
        refine ⟨trivial, (callsIn_wide.2 (HV.out A c _)).mono ?_⟩
        rintro e w2 ⟨rfl, hb2⟩
        have HX2 := Lib.hid ((HX.out.alloc HX.out.size (.cells #[.string ⟨l.path.toArray⟩, .slice A l.data.length c, .int .i64 l.ver, .int .i64 l.own, .int .i64 l.next, .int .i64 l.born] 50)).trans (hb2.mono (by have := HX.out.size; simp; omega)))
        have HK2 := Lib.hid ((HK.out.alloc (.cells #[.string ⟨l.path.toArray⟩, .slice A l.data.length c, .int .i64 l.ver, .int .i64 l.own, .int .i64 l.next, .int .i64 l.born] 50)).kept hb2)
        clear hb2
        have HKI := Lib.hid (kids_any g ⟨q.toArray⟩ w2)
        gi_wp2_with fail
        refine ⟨trivial, (callsIn_wide.2 HKI.out).mono ?_⟩
        rintro e w4 ⟨rfl, hw4⟩
        have HB4 := Lib.hid (show Below w2.heap.size w2 w4 by rw [hw4]; exact ((Below.refl _ w2).alloc (Nat.le_refl _) _).alloc (by simp) _)
        have HS4 := Lib.hid (show w4.heap.size = w2.heap.size + 2 by rw [hw4]; simp)
        have HC1 := Lib.hid (show w4.cell? ⟨w2.heap.size, 0, none⟩ = some (.pointer (some ⟨g, 0, none⟩)) by rw [hw4]; exact ((Bk.new w2 26 [.pointer (some ⟨g, 0, none⟩)]).alloc _).at_ rfl)
        have HC2 := Lib.hid (show w4.cell? ⟨w2.heap.size + 1, 0, none⟩ = some (.string ⟨q.toArray⟩) by
          rw [hw4]
          have := Bk.new (w2.alloc (.cells #[.pointer (some ⟨g, 0, none⟩)] 26)) 9 [.string ⟨q.toArray⟩]
          rw [show (w2.alloc (.cells #[.pointer (some ⟨g, 0, none⟩)] 26)).heap.size = w2.heap.size + 1 by simp] at this
          exact this.at_ rfl)
        have HK4 := Lib.hid (HK2.out.kept HB4.out)
        have HX4 := Lib.hid (HX2.out.trans (HB4.out.mono HX2.out.size))
        clear hw4
        gi_wp2_with fail
        have s1 := HS1.out
        have s2 := HK2.out.lt
        have s4 := HS4.out
        refine wpIn_rangeFunc_ownG rfl (by omega) (gf := 69) (lb := #[.pointer (some ⟨w2.heap.size, 0, none⟩), .pointer (some ⟨w2.heap.size + 1, 0, none⟩)]) rfl trivial (enters_of Tryz.func69 (by kernel_rfl) rfl)
          (kids_stops _ w.heap.size w2.heap.size (w2.heap.size + 1) g t F q w w4 HE.out HX4.out HC1.out HC2.out (HT.out.below HX4.out) hn (by
            rintro k (rfl | ⟨a, n, c2, hc, _⟩)
            · rfl
            · rw [show w4.cell? _ = _ from HK4.out.at_ (i := 0) rfl] at hc; cases hc) (by omega) (by omega)) kpB_t (kpB_b (by omega) (by omega)) (Below.refl _ _) (fun _ => rfl)
          (fun pre W => (pre = [] ∧ Bk W w.heap.size 36 [.int .i64 0]) ∧ Below w.heap.size w W)
          (fun cd pre W => (cd = .ret ∧ pre ≠ [] ∧ Bk W w.heap.size 36 [.int .i64 103]) ∧ Below w.heap.size w W)
          ?hI (fun cd => ?hIx) ?h0 ?a1 ?assign ?body ?done ?stop
        case hI =>
          refine OwnFrom.and (Own.from (fun s X Y row hs hg hr => ?_) _) (ownFrom_below (Nat.le_refl _) (by omega))
          refine ⟨hs.1, hs.2.grown hg (fun e => ?_)⟩
          obtain ⟨o, ho, hc⟩ := hr _ e.symm
          rw [show X.heap[w.heap.size]? = _ from hs.2] at ho
          cases ho; cases hc
        case hIx =>
          refine OwnFrom.and (Own.from (fun s X Y row hs hg hr => ?_) _) (ownFrom_below (Nat.le_refl _) (by omega))
          refine ⟨hs.1, hs.2.1, hs.2.2.grown hg (fun e => ?_)⟩
          obtain ⟨o, ho, hc⟩ := hr _ e.symm
          rw [show X.heap[w.heap.size]? = _ from hs.2.2] at ho
          cases ho; cases hc
        case h0 => exact ⟨⟨rfl, HK4.out⟩, HX4.out⟩
        case a1 => exact fun x => { tmps := #[.pointer (some ⟨g, 0, none⟩), .string ⟨q.toArray⟩, .int .i64 v, undef, undef, undef, .pointer (some ⟨w.heap.size, 0, none⟩), .pointer (some ⟨w1.heap.size, 0, none⟩), .int .i64 0, .string ⟨q.toArray⟩, .bool false, .tuple #[.agg #[.string ⟨l.path.toArray⟩, .slice A l.data.length c, .int .i64 l.ver, .int .i64 l.own, .int .i64 l.next, .int .i64 l.born], .int .i64 0], .pointer (some ⟨g, 0, none⟩), .string ⟨q.toArray⟩, .tuple #[.agg #[.string ⟨l.path.toArray⟩, .slice A l.data.length c, .int .i64 l.ver, .int .i64 l.own, .int .i64 l.next, .int .i64 l.born], .int .i64 0], .agg #[.string ⟨l.path.toArray⟩, .slice A l.data.length c, .int .i64 l.ver, .int .i64 l.own, .int .i64 l.next, .int .i64 l.born], .int .i64 0, .int .i64 0, .bool false, undef, .agg #[.string ⟨l.path.toArray⟩, .slice A l.data.length c, .int .i64 l.ver, .int .i64 l.own, .int .i64 l.next, .int .i64 l.born], .int .i64 v, .bool true, .bool false, .pointer (some ⟨g, 0, none⟩), .string ⟨q.toArray⟩, .func (.func 69) #[] #[.pointer (some ⟨w2.heap.size, 0, none⟩), .pointer (some ⟨w2.heap.size + 1, 0, none⟩)], .string ⟨x.1.toArray⟩, undef, undef, undef, undef, undef], defers := [] }
        case assign =>
          intro lr x W K hK
          clear s1 s2 s4
          gi_wp2
          exact hK
        case body =>
          rintro lr pre x W ⟨⟨rfl, hkb⟩, hib⟩ hlt
          have k0 : W.cell? ⟨w.heap.size, 0, none⟩ = some (.int .i64 0) := hkb.at_ rfl
          have k1 : W.frozen? ⟨w.heap.size, 0, none⟩ = false := hkb.frozen 0
          have HIB := Lib.hid hib
          have HKB := Lib.hid hkb
          clear hib hkb s1 s2 s4 hlt
          gi_wp2
          exact ⟨(KeepsOthers.setCell _ _ _).from _, ⟨rfl, by simp, HKB.out.set 0 _⟩, HIB.out.setCell (p := ⟨w.heap.size, 0, none⟩) (Nat.le_refl _) _⟩
        case done =>
          rintro D ys W hD hys ⟨⟨rfl, hkb⟩, hib⟩ hK
          have HIB := Lib.hid hib
          have HKB := Lib.hid hkb
          have HD := Lib.hid hD
          obtain ⟨tf, htf⟩ : ∃ tf, tf = t.filter fun y => decide (y.path ≠ q) := ⟨_, rfl⟩
          obtain rfl : r = (tf, 0) := by rw [HRR.out, if_neg (show ¬ tKids q t ≠ [] from fun h => h hys.symm), htf]
          have HTF := Lib.hid htf
          clear htf
          have hT := HT.out.low.below hib
          obtain ⟨b, hkg, hFg, hFb, hm⟩ := hT
          have g0 : W.cell? ⟨g, 0, none⟩ = some (.map (some b)) := hkg.at_ rfl
          have HGB := Lib.hid hkg
          have HFG := Lib.hid hFg
          have HFB := Lib.hid hFb
          have HMM := Lib.hid hm
          have HS4' := Lib.hid s2
          clear hib hkb hD s1 s2 s4 hys hkg hFg hFb hm
          gi_wp2_with (first
            | (gi_at_delete; refine wpListIn_drop_tree rfl _ _ rfl b t q rfl rfl HMM.out HQ.out ?_; intro w8 hm8 hg8; have hb8 := HKB.out.grown hg8.out (fun e => by injection e with e; have := HFB.out.2; omega); have k0 : w8.cell? ⟨w.heap.size, 0, none⟩ = some (.int .i64 0) := hb8.at_ rfl; have k1 : w8.frozen? ⟨w.heap.size, 0, none⟩ = false := hb8.frozen 0)
            | fail)
          have hgb : g ≠ b := by
            rintro rfl
            obtain ⟨es, cl, hx⟩ := HMM.out.isMap
            rw [show W.heap[g]? = _ from HGB.out] at hx
            cases hx
          have hDb : D ≠ b := by
            rintro rfl
            obtain ⟨es, cl, hx⟩ := HMM.out.isMap
            rw [hK] at hx
            cases hx
          have hDl := (Array.getElem?_eq_some_iff.1 hK).1
          have hK8 : w8.heap[D]? = some (.deferred (some [])) := (hg8.out.block D hDl (fun e => hDb (Option.some.inj e))).trans hK
          have hK9 := (KeepsOthers.setCell w8 ⟨w.heap.size, 0, none⟩ (.int .i64 0)).same D _ hK8 rfl
          refine ⟨by simp, .inl ⟨_, _, rfl, run_takeDeferred hK9, ?_⟩⟩
          have hb9 := hb8.set 0 (.int .i64 0)
          have hc5 := Go.cell_kept (hb9.at_ (i := 0) rfl) (grownBy_putObj' _ D (.deferred none)) (fun r e => by cases e; exact ⟨_, hK9, rfl⟩)
          refine ⟨.int .i64 0, by simp [results, Tryz.f17, go_sem, hc5], rfl, Lw F w, ?_, fun k hk => .inl hk.1, ?_⟩
          · have h8 : TreeAt (Lw F w) w8 g tf := by
              rw [HTF.out]
              exact ⟨b, HGB.out.grown hg8.out (fun e => hgb (Option.some.inj e)), HFG.out, HFB.out, hm8.out⟩
            have c9 : Chg (fun k => w.heap.size ≤ k) w8 (w8.setCell ⟨w.heap.size, 0, none⟩ (.int .i64 0)) := (Chg.refl _ _).set (.inl (Nat.le_refl _)) 0 _
            have c10 := c9.grown (grownBy_putObj' (w8.setCell ⟨w.heap.size, 0, none⟩ (.int .i64 0)) D (.deferred none)) (fun k e => by cases e; have := HD.out; have := HX4.out.size; exact .inl (by omega))
            exact h8.chg c10 fun k hk _ hge => by have := hk.2; omega
          · have c8 := (Chg.of_below F HIB.out).grown hg8.out fun k e => by cases e; exact .inl HFB.out.1
            have c9 := c8.set (g := w.heap.size) (.inr (Nat.le_refl _)) 0 (.int .i64 0)
            exact c9.grown (grownBy_putObj' (w8.setCell ⟨w.heap.size, 0, none⟩ (.int .i64 0)) D (.deferred none)) (fun k e => by cases e; have := HD.out; have := HX4.out.size; exact .inr (by omega))
        case stop =>
          rintro D cd pre W hD hSp ⟨⟨rfl, hne, hkb⟩, hib⟩ hK
          have HIB := Lib.hid hib
          have HKB := Lib.hid hkb
          have HD := Lib.hid hD
          obtain rfl : r = (t, 103) := by rw [HRR.out, if_pos (show tKids q t ≠ [] from fun h => by rw [h] at hSp; exact hne (List.map_eq_nil_iff.1 (List.prefix_nil.1 hSp)))]
          clear hib hkb hD s1 s4 hSp hne
          gi_wp2
          have s2 := HK2.out.lt
          refine ⟨by simp, .inl ⟨_, _, rfl, run_takeDeferred hK, ?_⟩⟩
          have hc5 := Go.cell_kept (HKB.out.at_ (i := 0) rfl) (grownBy_putObj' _ D (.deferred none)) (fun r e => by cases e; exact ⟨_, hK, rfl⟩)
          refine ⟨.int .i64 103, ?_, tdid_same _ HT.out (HIB.out.trans (belowK_b (w := w) (Nat.le_refl _) W D _ _ (by have := HD.out; have := HX4.out.size; omega) hK rfl rfl))⟩
          simp [results, Tryz.f17, go_sem, hc5]
    · rw [tDrop_err h0 e]
      replace HC := Lib.hid (show Calls _ _ _ _ (FndP (Lw F w) (none, m) W1) by have := HC.out; rw [show (⟨q.toArray⟩ : ByteArray).data.toList = q from rfl, e] at this; exact this)
      have hb : (m != 0) = true := by rcases hm with rfl | rfl <;> rfl
      clear e hm h0
      gi_wp2_with fail
      rw [← HWE.out]
      refine ⟨trivial, (callsIn_wide.2 HC.out).mono ?_⟩
      rintro e w1 ⟨hb1, rfl⟩
      have HX := Lib.hid (HB1.out.trans (hb1.mono HB1.out.size))
      have HK := Lib.hid ((HK1.out.kept hb1).alloc (.cells #[.string ⟨#[]⟩, .slice none 0 0, .int .i64 0, .int .i64 0, .int .i64 0, .int .i64 0] 50))
      have HX2 := Lib.hid (HX.out.alloc HX.out.size (.cells #[.string ⟨#[]⟩, .slice none 0 0, .int .i64 0, .int .i64 0, .int .i64 0, .int .i64 0] 50))
      clear hb1
      have k0 : (w1.alloc (.cells #[.string ⟨#[]⟩, .slice none 0 0, .int .i64 0, .int .i64 0, .int .i64 0, .int .i64 0] 50)).cell? ⟨w.heap.size, 0, none⟩ = some (.int .i64 0) := HK.out.at_ rfl
      have k1 : (w1.alloc (.cells #[.string ⟨#[]⟩, .slice none 0 0, .int .i64 0, .int .i64 0, .int .i64 0, .int .i64 0] 50)).frozen? ⟨w.heap.size, 0, none⟩ = false := HK.out.frozen 0
      gi_wp2_with fail
      have hc5 : ((w1.alloc (.cells #[.string ⟨#[]⟩, .slice none 0 0, .int .i64 0, .int .i64 0, .int .i64 0, .int .i64 0] 50)).setCell ⟨w.heap.size, 0, none⟩ (.int .i64 m)).cell? ⟨w.heap.size, 0, none⟩ = some (.int .i64 m) := (HK.out.set 0 (.int .i64 m)).at_ rfl
      refine ⟨.int .i64 m, ?_, tdid_same _ HT.out (HX2.out.grown (grown_set (grown_refl (w1.alloc (.cells #[.string ⟨#[]⟩, .slice none 0 0, .int .i64 0, .int .i64 0, .int .i64 0, .int .i64 0] 50)) (some w.heap.size)) 0 (.int .i64 m)) HX2.out.size (fun g hg => by injection hg with hg; omega))⟩
      simp [results, Tryz.f17, go_sem, hc5]
end Go.Proofs.YtgppclmofphlfaaGreatDoor
