/-
  A node made. Walks; no statement.
-/
import Derived.Test.YtgppclmofphlfaaGreatDoorMTreeE
namespace Go.Proofs.YtgppclmofphlfaaGreatDoor
set_option maxRecDepth 100000
open Go.RowKit Go.Maps
set_option linter.unusedVariables false

theorem parent_parts {p up : List UInt8} (h : parentP p = some up) : (partsOf up).isSome = true := by
  rcases path_cases p with e | ⟨rfl, e⟩ | ⟨ps, q, e, h2, h3, h4, h5⟩
  · rw [(belowP_none e).2.1] at h; cases h
  · cases h
  · rw [(parentP_eq e).1] at h
    obtain rfl := Option.some.inj h
    rw [parts_whole h3]
    · rfl
    · have : (wholeP ps).length ≤ p.length := by
        rw [h2, ← wholeP_front ps q]
        exact List.length_take_le' _ _
      omega
theorem tGet_at {p : List UInt8} {t : List Lf} (h : (partsOf p).isSome = true) : tGet p t = match tAt p t with | none => (none, 100) | some k => (some (t.getD k lfRoot), 0) := by
  unfold tGet
  rw [if_neg (by rintro e; rw [e] at h; cases h)]
  cases tAt p t <;> rfl
/-- Make, by what holds the node -/
theorem tMake_hold {p up data : List UInt8} {own born : Int} {numbered : Bool} {t : List Lf} (h : parentP p = some up) : tMake p data own born numbered t =
    if data.length > 128 then (t, [], 104) else match tHold up t with
      | (none, n) => (t, [], n)
      | (some a, _) => match (if numbered then numberedP p a.next else some p) with
        | none => (t, [], 90)
        | some q => if (tAt q t).isSome then (t, [], 101) else if t.length ≥ 32 then (t, [], 104) else
          (tWith ⟨q, data, 0, max own (-1), 0, max born 0⟩ (tWith (if numbered then { a with next := a.next + 1 } else a) t), q, 0) := by
  unfold tMake
  rw [h]
  dsimp only
  unfold tHold
  rw [tGet_at (parent_parts h)]
  cases ha : tAt up t with
  | none => rfl
  | some k =>
    dsimp only
    by_cases ho : (t.getD k lfRoot).own = -1
    · rw [if_pos ho, if_neg (show ¬ (t.getD k lfRoot).own ≠ -1 from fun e => e ho)]
      rfl
    · rw [if_neg ho, if_pos ho]
theorem tHold_cases (q : List UInt8) (t : List Lf) : (∃ l, tHold q t = (some l, 0) ∧ l.path = q ∧ l ∈ t ∧ l.own = -1) ∨ ∃ n : Int, tHold q t = (none, n) ∧ (n = 90 ∨ n = 100 ∨ n = 105) := by
  unfold tHold
  rcases tGet_cases q t with ⟨l, e, h1, h2, _⟩ | ⟨n, e, hn⟩
  · rw [e]
    dsimp only
    by_cases ho : l.own = -1
    · exact .inl ⟨l, if_pos ho, h1, h2, ho⟩
    · exact .inr ⟨105, if_neg ho, .inr (.inr rfl)⟩
  · rw [e]
    exact .inr ⟨n, rfl, hn.elim .inl fun h => .inr (.inl h)⟩
theorem numbered_some {p q : List UInt8} {n : Int} (h : numberedP p n = some q) : (partsOf q).isSome = true ∧ 0 ≤ n ∧ n ≤ 99999 := by
  unfold numberedP at h
  split at h
  · rename_i hc
    obtain rfl := Option.some.inj h
    exact ⟨hc.2.2.2, hc.2.1, hc.2.2.1⟩
  · cases h
theorem parts_le {q : List UInt8} (h : (partsOf q).isSome = true) : q.length ≤ 64 := by
  cases e : partsOf q with
  | none => rw [e] at h; cases h
  | some u => exact path_le e
theorem wpList_len_tree {F : Nat → Prop} {w : World} {ops : Array Oper} {rest : List Oper} {o : Oper} {a : Act} {Q : Exit → Act → World → Prop} (hg : o.guard = none) (m : Operand)
    (hop : o.op = Op.call { callee := Callee.builtin Builtin.len, args := #[m], argTypes := #[74] }) (b : Nat) (t : List Lf) (hm : a.eval m = .map (some b)) (h : MpAt F w b t)
    (hK : wpList Tryz.prog ops Q rest (a.put o.dst (.int .i64 (t.length : Int))) w) : wpList Tryz.prog ops Q (o :: rest) a w := by
  refine wpList_plain hg fun K' hK' => ?_
  unfold Oper.wp
  simp [execOp, hop, resolve, invoke, builtin, hm, h.len_ o.type, Result.andThen]
  exact hK' _ _ hK
set_option maxHeartbeats 8000000 in
theorem make_any (g : Nat) (t : List Lf) (F : Nat → Prop) (p : ByteArray) (DA : Option Addr) (dc : Nat) (data : List UInt8) (FD : Nat → Prop) (own born : Int) (numbered : Bool) (w : World) (hE : Env w) (hT : TreeAt F w g t) (hB : BF FD w DA dc data)
    (hDF : ∀ k, FD k → k < w.heap.size → ¬ F k) (hn : t.length ≤ 800) (hp : ∀ l ∈ t, l.path.length ≤ 64) (hd : ∀ l ∈ t, l.data.length ≤ 1000) (hx : ∀ l ∈ t, (Lit.int .i64 l.next).wf = true) :
    Calls Tryz.prog 15 #[.pointer (some ⟨g, 0, none⟩), .string p, .slice DA data.length dc, .int .i64 own, .int .i64 born, .bool numbered] w
      (TDid F g (tMake p.data.toList data own born numbered t).1 (.tuple #[.string ⟨(tMake p.data.toList data own born numbered t).2.1.toArray⟩, .int .i64 (tMake p.data.toList data own born numbered t).2.2]) w) := by
  obtain ⟨q, rfl⟩ : ∃ l : List UInt8, p = ⟨l.toArray⟩ := ⟨p.data.toList, (sv_of p).symm⟩
  show Calls _ _ _ _ (TDid F g (tMake q data own born numbered t).1 (.tuple #[.string ⟨(tMake q data own born numbered t).2.1.toArray⟩, .int .i64 (tMake q data own born numbered t).2.2]) w)
  have HPA := Lib.hid (show Calls _ _ _ _ (Ans (optV (parentP q)) w) from parent_any ⟨q.toArray⟩ w hE)
  have HE := Lib.hid hE
  have HT := Lib.hid hT
  have HDT := Lib.hid hB
  have HDF := Lib.hid hDF
  clear hE hT hB hDF
  cases hup : parentP q with
  | none =>
    rw [hup] at HPA
    rw [show tMake q data own born numbered t = (t, [], 90) by unfold tMake; rw [hup]]
    clear hup
    go_enter Tryz.func15, Tryz.ntmps15
    go_wp2_with fail
    refine HPA.out.mono ?_
    rintro e w1 ⟨rfl, hb1⟩
    have HX := Lib.hid hb1
    clear hb1
    unfold optV
    go_wp2_with fail
    go_ret2
    exact tdid_same _ HT.out HX.out
  | some up =>
    rw [hup] at HPA
    replace HPA := Lib.hid (show Calls _ _ _ _ (Ans (.tuple #[.string ⟨up.toArray⟩, .int .i64 0]) w) from HPA.out)
    rw [tMake_hold hup]
    have hq64 := parent_le hup
    clear hup
    by_cases hlen : data.length > 128
    · rw [if_pos hlen]
      have hd2 : (128 : Int) < (data.length : Int) := by omega
      go_enter Tryz.func15, Tryz.ntmps15
      go_wp2_with fail
      refine HPA.out.mono ?_
      rintro e w1 ⟨rfl, hb1⟩
      have HX := Lib.hid hb1
      clear hb1
      go_wp2_with fail
      go_ret2
      exact tdid_same _ HT.out HX.out
    · rw [if_neg hlen]
      have hd2 : ¬ (128 : Int) < (data.length : Int) := by omega
      have HH := Lib.hid (fun X (hX : Below w.heap.size w X) => show Calls _ _ _ _ (FndP (Lw F w) (tHold up t) X) from findHolder_any g t (Lw F w) ⟨up.toArray⟩ X (HE.out.below hX) (HT.out.low.below hX))
      rcases tHold_cases up t with ⟨a, e, hap, ham, hao⟩ | ⟨n, e, hn2⟩
      · rw [e] at HH ⊢
        have ha64 := hp a ham
        have had := hd a ham
        have hax := hx a ham
        dsimp only
        replace HH := Lib.hid (fun X hX => show Calls _ _ _ _ (FndP (Lw F w) (some a, 0) X) from HH.out X hX)
        clear e hap ham hao hp hd hx
        cases numbered with
        | false =>
          have HQ64 := Lib.hid hq64
          have HQL := Lib.hid (show q.length ≤ maxLen by simp only [maxLen]; omega)
          simp only [Bool.false_eq_true, if_false]
          cases hat : tAt q t with
          | some k =>
            obtain ⟨tl, htl, -⟩ := tAt_mem hat
            have HAT := Lib.hid hat
            have HTL := Lib.hid htl
            simp only [Option.isSome_some, if_true]
            clear hat htl
            go_enter Tryz.func15, Tryz.ntmps15
            go_wp2_with fail
            refine HPA.out.mono ?_
            rintro e w1 ⟨rfl, hb1⟩
            have HX := Lib.hid hb1
            clear hb1
            go_wp2_with fail
            refine (HH.out _ HX.out).mono ?_
            rintro e w2 ⟨hb2, A, c, rfl, hbf⟩
            have HX2 := Lib.hid (HX.out.trans (hb2.mono HX.out.size))
            have HBF := Lib.hid hbf
            have HS := Lib.hid HX2.out.size
            clear hb2 hbf
            have HXX := Lib.hid (show Below w.heap.size w (w2.alloc (.cells #[.string ⟨a.path.toArray⟩, .slice A a.data.length c, .int .i64 a.ver, .int .i64 a.own, .int .i64 a.next, .int .i64 a.born] 50)) from HX2.out.alloc HX2.out.size _)
            have HKB := Lib.hid (Bk.new w2 50 [.string ⟨a.path.toArray⟩, .slice A a.data.length c, .int .i64 a.ver, .int .i64 a.own, .int .i64 a.next, .int .i64 a.born])
            obtain ⟨b, hkg, hFg, hFb, hm⟩ := HT.out.low.below HXX.out
            have g0 : (w2.alloc (.cells #[.string ⟨a.path.toArray⟩, .slice A a.data.length c, .int .i64 a.ver, .int .i64 a.own, .int .i64 a.next, .int .i64 a.born] 50)).cell? ⟨g, 0, none⟩ = some (.map (some b)) := hkg.at_ rfl
            obtain ⟨TA, tc, -, hrun⟩ := hm.look_yes true HAT.out HTL.out HQL.out
            have hlk : (Instr.lookup 74 (.map (some b)) (.string ⟨q.toArray⟩) true).run Tryz.prog (w2.alloc (.cells #[.string ⟨a.path.toArray⟩, .slice A a.data.length c, .int .i64 a.ver, .int .i64 a.own, .int .i64 a.next, .int .i64 a.born] 50)) = .ok (.tuple #[.agg #[.string ⟨tl.path.toArray⟩, .slice TA tl.data.length tc, .int .i64 tl.ver, .int .i64 tl.own, .int .i64 tl.next, .int .i64 tl.born], .bool true]) (w2.alloc (.cells #[.string ⟨a.path.toArray⟩, .slice A a.data.length c, .int .i64 a.ver, .int .i64 a.own, .int .i64 a.next, .int .i64 a.born] 50)) := hrun
            clear hrun
            have HMM := Lib.hid (show MpAt (Lw F w) ((w2.alloc (.cells #[.string ⟨a.path.toArray⟩, .slice A a.data.length c, .int .i64 a.ver, .int .i64 a.own, .int .i64 a.next, .int .i64 a.born] 50)).alloc (.cells #[.string ⟨tl.path.toArray⟩, .slice TA tl.data.length tc, .int .i64 tl.ver, .int .i64 tl.own, .int .i64 tl.next, .int .i64 tl.born] 50)) b t from hm.below ((Below.refl _ _).alloc (Nat.le_refl _) _))
            have HXB := Lib.hid (show Below w.heap.size w ((w2.alloc (.cells #[.string ⟨a.path.toArray⟩, .slice A a.data.length c, .int .i64 a.ver, .int .i64 a.own, .int .i64 a.next, .int .i64 a.born] 50)).alloc (.cells #[.string ⟨tl.path.toArray⟩, .slice TA tl.data.length tc, .int .i64 tl.ver, .int .i64 tl.own, .int .i64 tl.next, .int .i64 tl.born] 50)) from HXX.out.alloc HXX.out.size _)
            have HKC := Lib.hid (show Bk ((w2.alloc (.cells #[.string ⟨a.path.toArray⟩, .slice A a.data.length c, .int .i64 a.ver, .int .i64 a.own, .int .i64 a.next, .int .i64 a.born] 50)).alloc (.cells #[.string ⟨tl.path.toArray⟩, .slice TA tl.data.length tc, .int .i64 tl.ver, .int .i64 tl.own, .int .i64 tl.next, .int .i64 tl.born] 50)) w2.heap.size 50 [.string ⟨a.path.toArray⟩, .slice A a.data.length c, .int .i64 a.ver, .int .i64 a.own, .int .i64 a.next, .int .i64 a.born] from HKB.out.alloc _)
            have j0 : ((w2.alloc (.cells #[.string ⟨a.path.toArray⟩, .slice A a.data.length c, .int .i64 a.ver, .int .i64 a.own, .int .i64 a.next, .int .i64 a.born] 50)).alloc (.cells #[.string ⟨tl.path.toArray⟩, .slice TA tl.data.length tc, .int .i64 tl.ver, .int .i64 tl.own, .int .i64 tl.next, .int .i64 tl.born] 50)).cell? ⟨g, 0, none⟩ = some (.map (some b)) := (hkg.alloc _).at_ rfl
            clear hkg hFg hFb hm
            go_wp2_with fail
            go_ret2
            exact tdid_same _ HT.out HXB.out
          | none =>
            have HAT := Lib.hid hat
            simp only [Option.isSome_none, Bool.false_eq_true, if_false]
            clear hat
            by_cases hfull : t.length ≥ 32
            · rw [if_pos hfull]
              have hf2 : (32 : Int) ≤ (t.length : Int) := by omega
              go_enter Tryz.func15, Tryz.ntmps15
              go_wp2_with fail
              refine HPA.out.mono ?_
              rintro e w1 ⟨rfl, hb1⟩
              have HX := Lib.hid hb1
              clear hb1
              go_wp2_with fail
              refine (HH.out _ HX.out).mono ?_
              rintro e w2 ⟨hb2, A, c, rfl, hbf⟩
              have HX2 := Lib.hid (HX.out.trans (hb2.mono HX.out.size))
              have HBF := Lib.hid hbf
              have HS := Lib.hid HX2.out.size
              clear hb2 hbf
              have HXX := Lib.hid (show Below w.heap.size w (w2.alloc (.cells #[.string ⟨a.path.toArray⟩, .slice A a.data.length c, .int .i64 a.ver, .int .i64 a.own, .int .i64 a.next, .int .i64 a.born] 50)) from HX2.out.alloc HX2.out.size _)
              have HKB := Lib.hid (Bk.new w2 50 [.string ⟨a.path.toArray⟩, .slice A a.data.length c, .int .i64 a.ver, .int .i64 a.own, .int .i64 a.next, .int .i64 a.born])
              obtain ⟨b, hkg, hFg, hFb, hm⟩ := HT.out.low.below HXX.out
              have g0 : (w2.alloc (.cells #[.string ⟨a.path.toArray⟩, .slice A a.data.length c, .int .i64 a.ver, .int .i64 a.own, .int .i64 a.next, .int .i64 a.born] 50)).cell? ⟨g, 0, none⟩ = some (.map (some b)) := hkg.at_ rfl
              have hlk : (Instr.lookup 74 (.map (some b)) (.string ⟨q.toArray⟩) true).run Tryz.prog (w2.alloc (.cells #[.string ⟨a.path.toArray⟩, .slice A a.data.length c, .int .i64 a.ver, .int .i64 a.own, .int .i64 a.next, .int .i64 a.born] 50)) = .ok (.tuple #[.agg #[.string ⟨#[]⟩, .slice none 0 0, .int .i64 0, .int .i64 0, .int .i64 0, .int .i64 0], .bool false]) (w2.alloc (.cells #[.string ⟨a.path.toArray⟩, .slice A a.data.length c, .int .i64 a.ver, .int .i64 a.own, .int .i64 a.next, .int .i64 a.born] 50)) := hm.look_no true HAT.out HQL.out
              have HMM := Lib.hid (show MpAt (Lw F w) ((w2.alloc (.cells #[.string ⟨a.path.toArray⟩, .slice A a.data.length c, .int .i64 a.ver, .int .i64 a.own, .int .i64 a.next, .int .i64 a.born] 50)).alloc (.cells #[.string ⟨#[]⟩, .slice none 0 0, .int .i64 0, .int .i64 0, .int .i64 0, .int .i64 0] 50)) b t from hm.below ((Below.refl _ _).alloc (Nat.le_refl _) _))
              have HXB := Lib.hid (show Below w.heap.size w ((w2.alloc (.cells #[.string ⟨a.path.toArray⟩, .slice A a.data.length c, .int .i64 a.ver, .int .i64 a.own, .int .i64 a.next, .int .i64 a.born] 50)).alloc (.cells #[.string ⟨#[]⟩, .slice none 0 0, .int .i64 0, .int .i64 0, .int .i64 0, .int .i64 0] 50)) from HXX.out.alloc HXX.out.size _)
              have HKC := Lib.hid (show Bk ((w2.alloc (.cells #[.string ⟨a.path.toArray⟩, .slice A a.data.length c, .int .i64 a.ver, .int .i64 a.own, .int .i64 a.next, .int .i64 a.born] 50)).alloc (.cells #[.string ⟨#[]⟩, .slice none 0 0, .int .i64 0, .int .i64 0, .int .i64 0, .int .i64 0] 50)) w2.heap.size 50 [.string ⟨a.path.toArray⟩, .slice A a.data.length c, .int .i64 a.ver, .int .i64 a.own, .int .i64 a.next, .int .i64 a.born] from HKB.out.alloc _)
              have j0 : ((w2.alloc (.cells #[.string ⟨a.path.toArray⟩, .slice A a.data.length c, .int .i64 a.ver, .int .i64 a.own, .int .i64 a.next, .int .i64 a.born] 50)).alloc (.cells #[.string ⟨#[]⟩, .slice none 0 0, .int .i64 0, .int .i64 0, .int .i64 0, .int .i64 0] 50)).cell? ⟨g, 0, none⟩ = some (.map (some b)) := (hkg.alloc _).at_ rfl
              clear hkg hFg hFb hm
              go_wp2_with (first
                | (at_len; refine wpList_len_tree rfl _ rfl b t rfl HMM.out ?_)
                | fail)
              go_ret2
              exact tdid_same _ HT.out HXB.out
            · rw [if_neg hfull]
              have hf2 : ¬ (32 : Int) ≤ (t.length : Int) := by omega
              have HPUT := Lib.hid (fun A c X (hX : Below w.heap.size w X) (hbx : BF (Lw F w) X A c a.data) => show Calls Tryz.prog _ #[_, .agg #[.string ⟨a.path.toArray⟩, .slice A a.data.length c, .int .i64 a.ver, .int .i64 a.own, .int .i64 a.next, .int .i64 a.born]] X (TDid (Lw F w) g (tWith a t) (.tuple #[]) X) from put_any g t (Lw F w) a A c (Lw F w) X (HT.out.low.below hX) hbx ha64 had (by omega))
              go_enter Tryz.func15, Tryz.ntmps15
              go_wp2_with fail
              refine HPA.out.mono ?_
              rintro e w1 ⟨rfl, hb1⟩
              have HX := Lib.hid hb1
              clear hb1
              go_wp2_with fail
              refine (HH.out _ HX.out).mono ?_
              rintro e w2 ⟨hb2, A, c, rfl, hbf⟩
              have HX2 := Lib.hid (HX.out.trans (hb2.mono HX.out.size))
              have HBF := Lib.hid hbf
              have HS := Lib.hid HX2.out.size
              clear hb2 hbf
              have HXX := Lib.hid (show Below w.heap.size w (w2.alloc (.cells #[.string ⟨a.path.toArray⟩, .slice A a.data.length c, .int .i64 a.ver, .int .i64 a.own, .int .i64 a.next, .int .i64 a.born] 50)) from HX2.out.alloc HX2.out.size _)
              have HKB := Lib.hid (Bk.new w2 50 [.string ⟨a.path.toArray⟩, .slice A a.data.length c, .int .i64 a.ver, .int .i64 a.own, .int .i64 a.next, .int .i64 a.born])
              obtain ⟨b, hkg, hFg, hFb, hm⟩ := HT.out.low.below HXX.out
              have g0 : (w2.alloc (.cells #[.string ⟨a.path.toArray⟩, .slice A a.data.length c, .int .i64 a.ver, .int .i64 a.own, .int .i64 a.next, .int .i64 a.born] 50)).cell? ⟨g, 0, none⟩ = some (.map (some b)) := hkg.at_ rfl
              have hlk : (Instr.lookup 74 (.map (some b)) (.string ⟨q.toArray⟩) true).run Tryz.prog (w2.alloc (.cells #[.string ⟨a.path.toArray⟩, .slice A a.data.length c, .int .i64 a.ver, .int .i64 a.own, .int .i64 a.next, .int .i64 a.born] 50)) = .ok (.tuple #[.agg #[.string ⟨#[]⟩, .slice none 0 0, .int .i64 0, .int .i64 0, .int .i64 0, .int .i64 0], .bool false]) (w2.alloc (.cells #[.string ⟨a.path.toArray⟩, .slice A a.data.length c, .int .i64 a.ver, .int .i64 a.own, .int .i64 a.next, .int .i64 a.born] 50)) := hm.look_no true HAT.out HQL.out
              have HMM := Lib.hid (show MpAt (Lw F w) ((w2.alloc (.cells #[.string ⟨a.path.toArray⟩, .slice A a.data.length c, .int .i64 a.ver, .int .i64 a.own, .int .i64 a.next, .int .i64 a.born] 50)).alloc (.cells #[.string ⟨#[]⟩, .slice none 0 0, .int .i64 0, .int .i64 0, .int .i64 0, .int .i64 0] 50)) b t from hm.below ((Below.refl _ _).alloc (Nat.le_refl _) _))
              have HXB := Lib.hid (show Below w.heap.size w ((w2.alloc (.cells #[.string ⟨a.path.toArray⟩, .slice A a.data.length c, .int .i64 a.ver, .int .i64 a.own, .int .i64 a.next, .int .i64 a.born] 50)).alloc (.cells #[.string ⟨#[]⟩, .slice none 0 0, .int .i64 0, .int .i64 0, .int .i64 0, .int .i64 0] 50)) from HXX.out.alloc HXX.out.size _)
              have HKC := Lib.hid (show Bk ((w2.alloc (.cells #[.string ⟨a.path.toArray⟩, .slice A a.data.length c, .int .i64 a.ver, .int .i64 a.own, .int .i64 a.next, .int .i64 a.born] 50)).alloc (.cells #[.string ⟨#[]⟩, .slice none 0 0, .int .i64 0, .int .i64 0, .int .i64 0, .int .i64 0] 50)) w2.heap.size 50 [.string ⟨a.path.toArray⟩, .slice A a.data.length c, .int .i64 a.ver, .int .i64 a.own, .int .i64 a.next, .int .i64 a.born] from HKB.out.alloc _)
              have j0 : ((w2.alloc (.cells #[.string ⟨a.path.toArray⟩, .slice A a.data.length c, .int .i64 a.ver, .int .i64 a.own, .int .i64 a.next, .int .i64 a.born] 50)).alloc (.cells #[.string ⟨#[]⟩, .slice none 0 0, .int .i64 0, .int .i64 0, .int .i64 0, .int .i64 0] 50)).cell? ⟨g, 0, none⟩ = some (.map (some b)) := (hkg.alloc _).at_ rfl
              clear hkg hFg hFb hm
              go_wp2_with (first
                | (at_len; refine wpList_len_tree rfl _ rfl b t rfl HMM.out ?_)
                | (refine wpList_load_row rfl 50 _ rfl w2.heap.size rfl 50 #[.string ⟨a.path.toArray⟩, .slice A a.data.length c, .int .i64 a.ver, .int .i64 a.own, .int .i64 a.next, .int .i64 a.born] (0, 0) _ HKC.out Tryz.underlying50 rfl info_leaf1 ?_))
              refine (HPUT.out A c _ HXB.out (HBF.out.below (((Below.refl _ w2).alloc (Nat.le_refl _) _).alloc (by simp) _))).mono ?_
              rintro e w5 ⟨rfl, F1, ht1, hF1, hc1⟩
              have HT1 := Lib.hid ht1.low
              have HC1 := Lib.hid ((Chg.of_below F HXB.out).trans hc1 fun k hk => .inl hk.1)
              have HF1 := Lib.hid (fun k (hk : Lw F1 w5 k) => show F k ∨ w.heap.size ≤ k from (hF1 k hk.1).elim (fun h => .inl h.1) fun h => .inr (Nat.le_trans HXB.out.size h))
              have HD5 := Lib.hid (show BF (fun k => FD k ∧ k < w.heap.size) w5 DA dc data from (HDT.out.keep ⟨Nat.le_refl _, fun _ _ _ => rfl⟩ fun k hk hl => ⟨hk, hl⟩).keep ⟨HC1.out.size, fun k hk hl => HC1.out.block k hl (HDF.out k hk.1 hk.2)⟩ fun k hk _ => hk)
              have HL1 := Lib.hid (show (tWith a t).length ≤ 900 by rw [tWith_put]; have := len_kPut_le Lf.path (a) t; omega)
              have HP2 := Lib.hid (show Calls Tryz.prog _ #[_, .agg #[.string ⟨q.toArray⟩, .slice DA data.length dc, .int .i64 0, .int .i64 (max own (-1)), .int .i64 0, .int .i64 (max born 0)]] w5 (TDid (Lw F1 w5) g (tWith ⟨q, data, 0, max own (-1), 0, max born 0⟩ (tWith a t)) (.tuple #[]) w5) from put_any g _ _ ⟨q, data, 0, max own (-1), 0, max born 0⟩ DA dc _ w5 HT1.out HD5.out HQ64.out (by show data.length ≤ 1000; omega) HL1.out)
              clear ht1 hF1 hc1
              go_wp2_with fail
              refine HP2.out.mono ?_
              rintro e w6 ⟨rfl, F2, ht2, hF2, hc2⟩
              have HCL := Lib.hid (cloneS_any ⟨q.toArray⟩ w6 HQ64.out)
              have HT2 := Lib.hid ht2
              have HC2 := Lib.hid (HC1.out.trans hc2 HF1.out)
              have HF2 := Lib.hid (fun k (hk : F2 k) => show F k ∨ w.heap.size ≤ k from (hF2 k hk).elim (fun h => HF1.out k h) fun h => .inr (Nat.le_trans HC1.out.size h))
              clear ht2 hF2 hc2
              go_wp2_with fail
              refine HCL.out.mono ?_
              rintro e w7 ⟨rfl, hb7⟩
              have HR := Lib.hid (show TreeAt F2 w7 g _ ∧ Chg F w w7 from ⟨HT2.out.below hb7, HC2.out.then hb7⟩)
              clear hb7
              go_wp2_with fail
              go_ret2
              exact ⟨rfl, F2, HR.out.1, HF2.out, HR.out.2⟩
        | true =>
          simp only [if_true]
          cases hnum : numberedP q a.next with
          | none =>
            dsimp only
            go_enter Tryz.func15, Tryz.ntmps15
            go_wp2_with fail
            refine HPA.out.mono ?_
            rintro e w1 ⟨rfl, hb1⟩
            have HX := Lib.hid hb1
            clear hb1
            go_wp2_with fail
            refine (HH.out _ HX.out).mono ?_
            rintro e w2 ⟨hb2, A, c, rfl, hbf⟩
            have HX2 := Lib.hid (HX.out.trans (hb2.mono HX.out.size))
            have HBF := Lib.hid hbf
            have HS := Lib.hid HX2.out.size
            clear hb2 hbf
            have HX3 := Lib.hid (show Below w.heap.size w (w2.alloc (.cells #[.string ⟨a.path.toArray⟩, .slice A a.data.length c, .int .i64 a.ver, .int .i64 a.own, .int .i64 a.next, .int .i64 a.born] 50)) from HX2.out.alloc HX2.out.size _)
            have HNU := Lib.hid (show Calls _ _ _ _ (Ans (optV (numberedP q a.next)) (w2.alloc (.cells #[.string ⟨a.path.toArray⟩, .slice A a.data.length c, .int .i64 a.ver, .int .i64 a.own, .int .i64 a.next, .int .i64 a.born] 50))) from numbered_any ⟨q.toArray⟩ a.next (w2.alloc (.cells #[.string ⟨a.path.toArray⟩, .slice A a.data.length c, .int .i64 a.ver, .int .i64 a.own, .int .i64 a.next, .int .i64 a.born] 50)) (HE.out.below HX3.out) hax)
            rw [hnum] at HNU
            go_wp2_with fail
            refine HNU.out.mono ?_
            rintro e w3 ⟨rfl, hb3⟩
            have HX4 := Lib.hid (HX3.out.trans (hb3.mono HX3.out.size))
            have hk3 := (Bk.new w2 50 [.string ⟨a.path.toArray⟩, .slice A a.data.length c, .int .i64 a.ver, .int .i64 a.own, .int .i64 a.next, .int .i64 a.born]).kept hb3
            have HBF3 := Lib.hid ((HBF.out.below ((Below.refl _ w2).alloc (Nat.le_refl _) (.cells #[.string ⟨a.path.toArray⟩, .slice A a.data.length c, .int .i64 a.ver, .int .i64 a.own, .int .i64 a.next, .int .i64 a.born] 50))).below hb3)
            clear hb3
            unfold optV
            go_wp2_with fail
            go_ret2
            exact tdid_same _ HT.out HX4.out
          | some qq =>
            dsimp only
            obtain ⟨hqp, hn0, hn9⟩ := numbered_some hnum
            have HQ64 := Lib.hid (parts_le hqp)
            have HQL := Lib.hid (show qq.length ≤ maxLen by have := HQ64.out; simp only [maxLen]; omega)
            have y1 : IntKind.i64.wrap (a.next + 1) = a.next + 1 := by simp only [IntKind.wrap, IntKind.bits, IntKind.signed]; simp; omega
            have y2 : wrap64 (a.next + 1) = a.next + 1 := by unfold wrap64; omega
            clear hqp
            cases hat : tAt qq t with
            | some k =>
              obtain ⟨tl, htl, -⟩ := tAt_mem hat
              have HAT := Lib.hid hat
              have HTL := Lib.hid htl
              simp only [Option.isSome_some, if_true]
              clear hat htl
              go_enter Tryz.func15, Tryz.ntmps15
              go_wp2_with fail
              refine HPA.out.mono ?_
              rintro e w1 ⟨rfl, hb1⟩
              have HX := Lib.hid hb1
              clear hb1
              go_wp2_with fail
              refine (HH.out _ HX.out).mono ?_
              rintro e w2 ⟨hb2, A, c, rfl, hbf⟩
              have HX2 := Lib.hid (HX.out.trans (hb2.mono HX.out.size))
              have HBF := Lib.hid hbf
              have HS := Lib.hid HX2.out.size
              clear hb2 hbf
              have HX3 := Lib.hid (show Below w.heap.size w (w2.alloc (.cells #[.string ⟨a.path.toArray⟩, .slice A a.data.length c, .int .i64 a.ver, .int .i64 a.own, .int .i64 a.next, .int .i64 a.born] 50)) from HX2.out.alloc HX2.out.size _)
              have HNU := Lib.hid (show Calls _ _ _ _ (Ans (optV (numberedP q a.next)) (w2.alloc (.cells #[.string ⟨a.path.toArray⟩, .slice A a.data.length c, .int .i64 a.ver, .int .i64 a.own, .int .i64 a.next, .int .i64 a.born] 50))) from numbered_any ⟨q.toArray⟩ a.next (w2.alloc (.cells #[.string ⟨a.path.toArray⟩, .slice A a.data.length c, .int .i64 a.ver, .int .i64 a.own, .int .i64 a.next, .int .i64 a.born] 50)) (HE.out.below HX3.out) hax)
              rw [hnum] at HNU
              go_wp2_with fail
              refine HNU.out.mono ?_
              rintro e w3 ⟨rfl, hb3⟩
              have HX4 := Lib.hid (HX3.out.trans (hb3.mono HX3.out.size))
              have hk3 := (Bk.new w2 50 [.string ⟨a.path.toArray⟩, .slice A a.data.length c, .int .i64 a.ver, .int .i64 a.own, .int .i64 a.next, .int .i64 a.born]).kept hb3
              have HBF3 := Lib.hid ((HBF.out.below ((Below.refl _ w2).alloc (Nat.le_refl _) (.cells #[.string ⟨a.path.toArray⟩, .slice A a.data.length c, .int .i64 a.ver, .int .i64 a.own, .int .i64 a.next, .int .i64 a.born] 50))).below hb3)
              clear hb3
              unfold optV
              have q3 : w3.cell? ⟨w2.heap.size, 4, none⟩ = some (.int .i64 a.next) := hk3.at_ rfl
              go_wp2_with (first
                | (refine wpList_store_cell rfl 3 _ _ rfl w2.heap.size 4 (.int .i64 (a.next + 1)) rfl rfl rfl rfl info_int1 50 _ hk3 (by simp) ?_; intro w4 hk4 hg4; have HKB := Lib.hid (show Bk w4 w2.heap.size 50 [.string ⟨a.path.toArray⟩, .slice A a.data.length c, .int .i64 a.ver, .int .i64 a.own, .int .i64 (a.next + 1), .int .i64 a.born] from hk4.out); have HBF4 := Lib.hid (bf_set HBF3.out hg4.out (fun k hk e => by have := hk.2; have := HS.out; omega)); have HXX := Lib.hid (show Below w.heap.size w w4 from HX4.out.grown hg4.out HX4.out.size (fun g hg => by injection hg with hg; have := HS.out; omega)); obtain ⟨b, hkg, hFg, hFb, hm⟩ := HT.out.low.below HXX.out; have g0 : w4.cell? ⟨g, 0, none⟩ = some (.map (some b)) := hkg.at_ rfl; obtain ⟨TA, tc, -, hrun⟩ := hm.look_yes true HAT.out HTL.out HQL.out; have hlk : (Instr.lookup 74 (.map (some b)) (.string ⟨qq.toArray⟩) true).run Tryz.prog w4 = .ok (.tuple #[.agg #[.string ⟨tl.path.toArray⟩, .slice TA tl.data.length tc, .int .i64 tl.ver, .int .i64 tl.own, .int .i64 tl.next, .int .i64 tl.born], .bool true]) w4 := hrun; clear hrun; have HMM := Lib.hid (show MpAt (Lw F w) (w4.alloc (.cells #[.string ⟨tl.path.toArray⟩, .slice TA tl.data.length tc, .int .i64 tl.ver, .int .i64 tl.own, .int .i64 tl.next, .int .i64 tl.born] 50)) b t from hm.below ((Below.refl _ _).alloc (Nat.le_refl _) _)); have HXB := Lib.hid (show Below w.heap.size w (w4.alloc (.cells #[.string ⟨tl.path.toArray⟩, .slice TA tl.data.length tc, .int .i64 tl.ver, .int .i64 tl.own, .int .i64 tl.next, .int .i64 tl.born] 50)) from HXX.out.alloc HXX.out.size _); have HKC := Lib.hid (show Bk (w4.alloc (.cells #[.string ⟨tl.path.toArray⟩, .slice TA tl.data.length tc, .int .i64 tl.ver, .int .i64 tl.own, .int .i64 tl.next, .int .i64 tl.born] 50)) w2.heap.size 50 [.string ⟨a.path.toArray⟩, .slice A a.data.length c, .int .i64 a.ver, .int .i64 a.own, .int .i64 (a.next + 1), .int .i64 a.born] from HKB.out.alloc _); have j0 : (w4.alloc (.cells #[.string ⟨tl.path.toArray⟩, .slice TA tl.data.length tc, .int .i64 tl.ver, .int .i64 tl.own, .int .i64 tl.next, .int .i64 tl.born] 50)).cell? ⟨g, 0, none⟩ = some (.map (some b)) := (hkg.alloc _).at_ rfl; clear hkg hFg hFb hm)
                | fail)
              go_ret2
              exact tdid_same _ HT.out HXB.out
            | none =>
              have HAT := Lib.hid hat
              simp only [Option.isSome_none, Bool.false_eq_true, if_false]
              clear hat
              by_cases hfull : t.length ≥ 32
              · rw [if_pos hfull]
                have hf2 : (32 : Int) ≤ (t.length : Int) := by omega
                go_enter Tryz.func15, Tryz.ntmps15
                go_wp2_with fail
                refine HPA.out.mono ?_
                rintro e w1 ⟨rfl, hb1⟩
                have HX := Lib.hid hb1
                clear hb1
                go_wp2_with fail
                refine (HH.out _ HX.out).mono ?_
                rintro e w2 ⟨hb2, A, c, rfl, hbf⟩
                have HX2 := Lib.hid (HX.out.trans (hb2.mono HX.out.size))
                have HBF := Lib.hid hbf
                have HS := Lib.hid HX2.out.size
                clear hb2 hbf
                have HX3 := Lib.hid (show Below w.heap.size w (w2.alloc (.cells #[.string ⟨a.path.toArray⟩, .slice A a.data.length c, .int .i64 a.ver, .int .i64 a.own, .int .i64 a.next, .int .i64 a.born] 50)) from HX2.out.alloc HX2.out.size _)
                have HNU := Lib.hid (show Calls _ _ _ _ (Ans (optV (numberedP q a.next)) (w2.alloc (.cells #[.string ⟨a.path.toArray⟩, .slice A a.data.length c, .int .i64 a.ver, .int .i64 a.own, .int .i64 a.next, .int .i64 a.born] 50))) from numbered_any ⟨q.toArray⟩ a.next (w2.alloc (.cells #[.string ⟨a.path.toArray⟩, .slice A a.data.length c, .int .i64 a.ver, .int .i64 a.own, .int .i64 a.next, .int .i64 a.born] 50)) (HE.out.below HX3.out) hax)
                rw [hnum] at HNU
                go_wp2_with fail
                refine HNU.out.mono ?_
                rintro e w3 ⟨rfl, hb3⟩
                have HX4 := Lib.hid (HX3.out.trans (hb3.mono HX3.out.size))
                have hk3 := (Bk.new w2 50 [.string ⟨a.path.toArray⟩, .slice A a.data.length c, .int .i64 a.ver, .int .i64 a.own, .int .i64 a.next, .int .i64 a.born]).kept hb3
                have HBF3 := Lib.hid ((HBF.out.below ((Below.refl _ w2).alloc (Nat.le_refl _) (.cells #[.string ⟨a.path.toArray⟩, .slice A a.data.length c, .int .i64 a.ver, .int .i64 a.own, .int .i64 a.next, .int .i64 a.born] 50))).below hb3)
                clear hb3
                unfold optV
                have q3 : w3.cell? ⟨w2.heap.size, 4, none⟩ = some (.int .i64 a.next) := hk3.at_ rfl
                go_wp2_with (first
                  | (refine wpList_store_cell rfl 3 _ _ rfl w2.heap.size 4 (.int .i64 (a.next + 1)) rfl rfl rfl rfl info_int1 50 _ hk3 (by simp) ?_; intro w4 hk4 hg4; have HKB := Lib.hid (show Bk w4 w2.heap.size 50 [.string ⟨a.path.toArray⟩, .slice A a.data.length c, .int .i64 a.ver, .int .i64 a.own, .int .i64 (a.next + 1), .int .i64 a.born] from hk4.out); have HBF4 := Lib.hid (bf_set HBF3.out hg4.out (fun k hk e => by have := hk.2; have := HS.out; omega)); have HXX := Lib.hid (show Below w.heap.size w w4 from HX4.out.grown hg4.out HX4.out.size (fun g hg => by injection hg with hg; have := HS.out; omega)); obtain ⟨b, hkg, hFg, hFb, hm⟩ := HT.out.low.below HXX.out; have g0 : w4.cell? ⟨g, 0, none⟩ = some (.map (some b)) := hkg.at_ rfl; have hlk : (Instr.lookup 74 (.map (some b)) (.string ⟨qq.toArray⟩) true).run Tryz.prog w4 = .ok (.tuple #[.agg #[.string ⟨#[]⟩, .slice none 0 0, .int .i64 0, .int .i64 0, .int .i64 0, .int .i64 0], .bool false]) w4 := hm.look_no true HAT.out HQL.out; have HMM := Lib.hid (show MpAt (Lw F w) (w4.alloc (.cells #[.string ⟨#[]⟩, .slice none 0 0, .int .i64 0, .int .i64 0, .int .i64 0, .int .i64 0] 50)) b t from hm.below ((Below.refl _ _).alloc (Nat.le_refl _) _)); have HXB := Lib.hid (show Below w.heap.size w (w4.alloc (.cells #[.string ⟨#[]⟩, .slice none 0 0, .int .i64 0, .int .i64 0, .int .i64 0, .int .i64 0] 50)) from HXX.out.alloc HXX.out.size _); have HKC := Lib.hid (show Bk (w4.alloc (.cells #[.string ⟨#[]⟩, .slice none 0 0, .int .i64 0, .int .i64 0, .int .i64 0, .int .i64 0] 50)) w2.heap.size 50 [.string ⟨a.path.toArray⟩, .slice A a.data.length c, .int .i64 a.ver, .int .i64 a.own, .int .i64 (a.next + 1), .int .i64 a.born] from HKB.out.alloc _); have j0 : (w4.alloc (.cells #[.string ⟨#[]⟩, .slice none 0 0, .int .i64 0, .int .i64 0, .int .i64 0, .int .i64 0] 50)).cell? ⟨g, 0, none⟩ = some (.map (some b)) := (hkg.alloc _).at_ rfl; clear hkg hFg hFb hm)
                  | (at_len; refine wpList_len_tree rfl _ rfl b t rfl HMM.out ?_))
                go_ret2
                exact tdid_same _ HT.out HXB.out
              · rw [if_neg hfull]
                have hf2 : ¬ (32 : Int) ≤ (t.length : Int) := by omega
                have HPUT := Lib.hid (fun A c X (hX : Below w.heap.size w X) (hbx : BF (Lw F w) X A c a.data) => show Calls Tryz.prog _ #[_, .agg #[.string ⟨a.path.toArray⟩, .slice A a.data.length c, .int .i64 a.ver, .int .i64 a.own, .int .i64 (a.next + 1), .int .i64 a.born]] X (TDid (Lw F w) g (tWith ({ a with next := a.next + 1 } : Lf) t) (.tuple #[]) X) from put_any g t (Lw F w) ({ a with next := a.next + 1 } : Lf) A c (Lw F w) X (HT.out.low.below hX) hbx ha64 had (by omega))
                go_enter Tryz.func15, Tryz.ntmps15
                go_wp2_with fail
                refine HPA.out.mono ?_
                rintro e w1 ⟨rfl, hb1⟩
                have HX := Lib.hid hb1
                clear hb1
                go_wp2_with fail
                refine (HH.out _ HX.out).mono ?_
                rintro e w2 ⟨hb2, A, c, rfl, hbf⟩
                have HX2 := Lib.hid (HX.out.trans (hb2.mono HX.out.size))
                have HBF := Lib.hid hbf
                have HS := Lib.hid HX2.out.size
                clear hb2 hbf
                have HX3 := Lib.hid (show Below w.heap.size w (w2.alloc (.cells #[.string ⟨a.path.toArray⟩, .slice A a.data.length c, .int .i64 a.ver, .int .i64 a.own, .int .i64 a.next, .int .i64 a.born] 50)) from HX2.out.alloc HX2.out.size _)
                have HNU := Lib.hid (show Calls _ _ _ _ (Ans (optV (numberedP q a.next)) (w2.alloc (.cells #[.string ⟨a.path.toArray⟩, .slice A a.data.length c, .int .i64 a.ver, .int .i64 a.own, .int .i64 a.next, .int .i64 a.born] 50))) from numbered_any ⟨q.toArray⟩ a.next (w2.alloc (.cells #[.string ⟨a.path.toArray⟩, .slice A a.data.length c, .int .i64 a.ver, .int .i64 a.own, .int .i64 a.next, .int .i64 a.born] 50)) (HE.out.below HX3.out) hax)
                rw [hnum] at HNU
                go_wp2_with fail
                refine HNU.out.mono ?_
                rintro e w3 ⟨rfl, hb3⟩
                have HX4 := Lib.hid (HX3.out.trans (hb3.mono HX3.out.size))
                have hk3 := (Bk.new w2 50 [.string ⟨a.path.toArray⟩, .slice A a.data.length c, .int .i64 a.ver, .int .i64 a.own, .int .i64 a.next, .int .i64 a.born]).kept hb3
                have HBF3 := Lib.hid ((HBF.out.below ((Below.refl _ w2).alloc (Nat.le_refl _) (.cells #[.string ⟨a.path.toArray⟩, .slice A a.data.length c, .int .i64 a.ver, .int .i64 a.own, .int .i64 a.next, .int .i64 a.born] 50))).below hb3)
                clear hb3
                unfold optV
                have q3 : w3.cell? ⟨w2.heap.size, 4, none⟩ = some (.int .i64 a.next) := hk3.at_ rfl
                go_wp2_with (first
                  | (refine wpList_store_cell rfl 3 _ _ rfl w2.heap.size 4 (.int .i64 (a.next + 1)) rfl rfl rfl rfl info_int1 50 _ hk3 (by simp) ?_; intro w4 hk4 hg4; have HKB := Lib.hid (show Bk w4 w2.heap.size 50 [.string ⟨a.path.toArray⟩, .slice A a.data.length c, .int .i64 a.ver, .int .i64 a.own, .int .i64 (a.next + 1), .int .i64 a.born] from hk4.out); have HBF4 := Lib.hid (bf_set HBF3.out hg4.out (fun k hk e => by have := hk.2; have := HS.out; omega)); have HXX := Lib.hid (show Below w.heap.size w w4 from HX4.out.grown hg4.out HX4.out.size (fun g hg => by injection hg with hg; have := HS.out; omega)); obtain ⟨b, hkg, hFg, hFb, hm⟩ := HT.out.low.below HXX.out; have g0 : w4.cell? ⟨g, 0, none⟩ = some (.map (some b)) := hkg.at_ rfl; have hlk : (Instr.lookup 74 (.map (some b)) (.string ⟨qq.toArray⟩) true).run Tryz.prog w4 = .ok (.tuple #[.agg #[.string ⟨#[]⟩, .slice none 0 0, .int .i64 0, .int .i64 0, .int .i64 0, .int .i64 0], .bool false]) w4 := hm.look_no true HAT.out HQL.out; have HMM := Lib.hid (show MpAt (Lw F w) (w4.alloc (.cells #[.string ⟨#[]⟩, .slice none 0 0, .int .i64 0, .int .i64 0, .int .i64 0, .int .i64 0] 50)) b t from hm.below ((Below.refl _ _).alloc (Nat.le_refl _) _)); have HXB := Lib.hid (show Below w.heap.size w (w4.alloc (.cells #[.string ⟨#[]⟩, .slice none 0 0, .int .i64 0, .int .i64 0, .int .i64 0, .int .i64 0] 50)) from HXX.out.alloc HXX.out.size _); have HKC := Lib.hid (show Bk (w4.alloc (.cells #[.string ⟨#[]⟩, .slice none 0 0, .int .i64 0, .int .i64 0, .int .i64 0, .int .i64 0] 50)) w2.heap.size 50 [.string ⟨a.path.toArray⟩, .slice A a.data.length c, .int .i64 a.ver, .int .i64 a.own, .int .i64 (a.next + 1), .int .i64 a.born] from HKB.out.alloc _); have j0 : (w4.alloc (.cells #[.string ⟨#[]⟩, .slice none 0 0, .int .i64 0, .int .i64 0, .int .i64 0, .int .i64 0] 50)).cell? ⟨g, 0, none⟩ = some (.map (some b)) := (hkg.alloc _).at_ rfl; clear hkg hFg hFb hm)
                  | (at_len; refine wpList_len_tree rfl _ rfl b t rfl HMM.out ?_)
                  | (refine wpList_load_row rfl 50 _ rfl w2.heap.size rfl 50 #[.string ⟨a.path.toArray⟩, .slice A a.data.length c, .int .i64 a.ver, .int .i64 a.own, .int .i64 (a.next + 1), .int .i64 a.born] (0, 0) _ HKC.out Tryz.underlying50 rfl info_leaf1 ?_))
                refine (HPUT.out A c _ HXB.out (HBF4.out.below ((Below.refl _ _).alloc (Nat.le_refl _) _))).mono ?_
                rintro e w5 ⟨rfl, F1, ht1, hF1, hc1⟩
                have HT1 := Lib.hid ht1.low
                have HC1 := Lib.hid ((Chg.of_below F HXB.out).trans hc1 fun k hk => .inl hk.1)
                have HF1 := Lib.hid (fun k (hk : Lw F1 w5 k) => show F k ∨ w.heap.size ≤ k from (hF1 k hk.1).elim (fun h => .inl h.1) fun h => .inr (Nat.le_trans HXB.out.size h))
                have HD5 := Lib.hid (show BF (fun k => FD k ∧ k < w.heap.size) w5 DA dc data from (HDT.out.keep ⟨Nat.le_refl _, fun _ _ _ => rfl⟩ fun k hk hl => ⟨hk, hl⟩).keep ⟨HC1.out.size, fun k hk hl => HC1.out.block k hl (HDF.out k hk.1 hk.2)⟩ fun k hk _ => hk)
                have HL1 := Lib.hid (show (tWith ({ a with next := a.next + 1 } : Lf) t).length ≤ 900 by rw [tWith_put]; have := len_kPut_le Lf.path (({ a with next := a.next + 1 } : Lf)) t; omega)
                have HP2 := Lib.hid (show Calls Tryz.prog _ #[_, .agg #[.string ⟨qq.toArray⟩, .slice DA data.length dc, .int .i64 0, .int .i64 (max own (-1)), .int .i64 0, .int .i64 (max born 0)]] w5 (TDid (Lw F1 w5) g (tWith ⟨qq, data, 0, max own (-1), 0, max born 0⟩ (tWith ({ a with next := a.next + 1 } : Lf) t)) (.tuple #[]) w5) from put_any g _ _ ⟨qq, data, 0, max own (-1), 0, max born 0⟩ DA dc _ w5 HT1.out HD5.out HQ64.out (by show data.length ≤ 1000; omega) HL1.out)
                clear ht1 hF1 hc1
                go_wp2_with fail
                refine HP2.out.mono ?_
                rintro e w6 ⟨rfl, F2, ht2, hF2, hc2⟩
                have HCL := Lib.hid (cloneS_any ⟨qq.toArray⟩ w6 HQ64.out)
                have HT2 := Lib.hid ht2
                have HC2 := Lib.hid (HC1.out.trans hc2 HF1.out)
                have HF2 := Lib.hid (fun k (hk : F2 k) => show F k ∨ w.heap.size ≤ k from (hF2 k hk).elim (fun h => HF1.out k h) fun h => .inr (Nat.le_trans HC1.out.size h))
                clear ht2 hF2 hc2
                go_wp2_with fail
                refine HCL.out.mono ?_
                rintro e w7 ⟨rfl, hb7⟩
                have HR := Lib.hid (show TreeAt F2 w7 g _ ∧ Chg F w w7 from ⟨HT2.out.below hb7, HC2.out.then hb7⟩)
                clear hb7
                go_wp2_with fail
                go_ret2
                exact ⟨rfl, F2, HR.out.1, HF2.out, HR.out.2⟩
      · rw [e] at HH ⊢
        have hb : (n != 0) = true := by rcases hn2 with rfl | rfl | rfl <;> rfl
        replace HH := Lib.hid (fun X hX => show Calls _ _ _ _ (FndP (Lw F w) (none, n) X) from HH.out X hX)
        dsimp only
        clear e hn2 hp hd hx
        go_enter Tryz.func15, Tryz.ntmps15
        go_wp2_with fail
        refine HPA.out.mono ?_
        rintro e w1 ⟨rfl, hb1⟩
        have HX := Lib.hid hb1
        clear hb1
        go_wp2_with fail
        refine (HH.out _ HX.out).mono ?_
        rintro e w2 ⟨hb2, rfl⟩
        have HX2 := Lib.hid ((HX.out.trans (hb2.mono HX.out.size)).alloc (Nat.le_trans HX.out.size hb2.size) (.cells #[.string ⟨#[]⟩, .slice none 0 0, .int .i64 0, .int .i64 0, .int .i64 0, .int .i64 0] 50))
        clear hb2
        go_wp2_with fail
        go_ret2
        exact tdid_same _ HT.out HX2.out
end Go.Proofs.YtgppclmofphlfaaGreatDoor
