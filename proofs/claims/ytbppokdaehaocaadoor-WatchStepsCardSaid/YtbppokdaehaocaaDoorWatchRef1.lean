/-
  The reference's watches: right, ahead, how many; a copy of a row. Walks; no statement.
-/
import Derived.Test.YtbppokdaehaocaaDoorWatchAll
import Derived.Test.YtbppokdaehaocaaDoorMPathR
import Derived.BigQuiet
namespace Go.Proofs.YtbppokdaehaocaaDoor
set_option maxRecDepth 100000
open Go.RowKit
set_option linter.unusedVariables false

set_option maxHeartbeats 3200000 in
theorem refRightW_any (x : Wt) (w : World) (hp : x.path.length ≤ maxLen) : Calls Tryd.prog 14 #[.agg (wtC x).toArray] w (Ans (.bool (wRight x)) w) := by
  show Calls _ _ #[.agg #[.int .i64 x.client, .int .i64 x.kind, .string ⟨x.path.toArray⟩]] _ _
  have HP := Lib.hid (refCheck_any ⟨x.path.toArray⟩ (w.alloc (.cells #[.int .i64 x.client, .int .i64 x.kind, .string ⟨x.path.toArray⟩] 31)) (by rw [Lib.size_eq]; exact hp))
  have HB := Lib.hid ((Below.refl w.heap.size w).alloc (Nat.le_refl _) (.cells #[.int .i64 x.client, .int .i64 x.kind, .string ⟨x.path.toArray⟩] 31))
  have HR := Lib.hid (show wRight x = (decide (0 ≤ x.client ∧ x.client < 8 ∧ (x.kind = 1 ∨ x.kind = 2)) && (partsOf x.path).isSome) from rfl)
  clear hp
  by_cases h1 : 0 ≤ x.client
  · have d1 : decide (x.client ≥ 0) = true := decide_eq_true h1
    by_cases h2 : x.client < 8
    · have d2 : decide (x.client < 8) = true := decide_eq_true h2
      by_cases h3 : x.kind = 1 ∨ x.kind = 2
      · have HV := Lib.hid (show wRight x = (partsOf x.path).isSome by rw [HR.out, decide_eq_true ⟨h1, h2, h3⟩]; rfl)
        rw [HV.out]
        clear h1 h2
        cases h4 : (partsOf x.path).isSome with
        | false =>
          have HP := Lib.hid (show Calls _ _ _ _ (Ans (.int .i64 90) _) by have := HP.out; rwa [show errB (partsOf (⟨x.path.toArray⟩ : ByteArray).data.toList).isSome = 90 by show errB (partsOf x.path).isSome = 90; rw [h4]; rfl] at this)
          clear h4
          rcases h3 with h3 | h3
          · have d3 : (x.kind == 1) = true := by simpa using h3
            clear h3
            go_enter Tryd.func14, Tryd.ntmps14
            go_wp2_with (go_at_call 37; refine HP.out.mono ?_; rintro e w' ⟨rfl, hb⟩)
            go_ret
            exact ⟨rfl, below_next HB.out hb HB.out.size⟩
          · have d3 : (x.kind == 1) = false := by rw [h3]; rfl
            have d4 : (x.kind == 2) = true := by simpa using h3
            clear h3
            go_enter Tryd.func14, Tryd.ntmps14
            go_wp2_with (go_at_call 37; refine HP.out.mono ?_; rintro e w' ⟨rfl, hb⟩)
            go_ret
            exact ⟨rfl, below_next HB.out hb HB.out.size⟩
        | true =>
          have HP := Lib.hid (show Calls _ _ _ _ (Ans (.int .i64 0) _) by have := HP.out; rwa [show errB (partsOf (⟨x.path.toArray⟩ : ByteArray).data.toList).isSome = 0 by show errB (partsOf x.path).isSome = 0; rw [h4]; rfl] at this)
          clear h4
          rcases h3 with h3 | h3
          · have d3 : (x.kind == 1) = true := by simpa using h3
            clear h3
            go_enter Tryd.func14, Tryd.ntmps14
            go_wp2_with (go_at_call 37; refine HP.out.mono ?_; rintro e w' ⟨rfl, hb⟩)
            go_ret
            exact ⟨rfl, below_next HB.out hb HB.out.size⟩
          · have d3 : (x.kind == 1) = false := by rw [h3]; rfl
            have d4 : (x.kind == 2) = true := by simpa using h3
            clear h3
            go_enter Tryd.func14, Tryd.ntmps14
            go_wp2_with (go_at_call 37; refine HP.out.mono ?_; rintro e w' ⟨rfl, hb⟩)
            go_ret
            exact ⟨rfl, below_next HB.out hb HB.out.size⟩
      · have HV := Lib.hid (show wRight x = false by rw [HR.out, decide_eq_false (fun h => h3 h.2.2)]; rfl)
        have d3 : (x.kind == 1) = false := by rw [beq_eq_false_iff_ne]; exact fun e => h3 (.inl e)
        have d4 : (x.kind == 2) = false := by rw [beq_eq_false_iff_ne]; exact fun e => h3 (.inr e)
        rw [HV.out]
        clear h1 h2 h3
        go_enter Tryd.func14, Tryd.ntmps14
        go_wp2_with fail
        go_ret
        exact ⟨rfl, HB.out⟩
    · have HV := Lib.hid (show wRight x = false by rw [HR.out, decide_eq_false (fun h => h2 h.2.1)]; rfl)
      have d2 : decide (x.client < 8) = false := decide_eq_false h2
      rw [HV.out]
      clear h1 h2
      go_enter Tryd.func14, Tryd.ntmps14
      go_wp2_with fail
      go_ret
      exact ⟨rfl, HB.out⟩
  · have HV := Lib.hid (show wRight x = false by rw [HR.out, decide_eq_false (fun h => h1 h.1)]; rfl)
    have d1 : decide (x.client ≥ 0) = false := decide_eq_false h1
    rw [HV.out]
    clear h1
    go_enter Tryd.func14, Tryd.ntmps14
    go_wp2_with fail
    go_ret
    exact ⟨rfl, HB.out⟩
set_option maxHeartbeats 1600000 in
theorem refLess_any (x y : Wt) (w : World) : Calls Tryd.prog 27 #[.agg #[.int .i64 x.client, .int .i64 x.kind, .string ⟨x.path.toArray⟩], .agg #[.int .i64 y.client, .int .i64 y.kind, .string ⟨y.path.toArray⟩]] w (Ans (.bool (decide (wLt x y))) w) := by
  have hL : wLt x y ↔ lb x.path y.path ∨ (x.path = y.path ∧ (x.kind < y.kind ∨ (x.kind = y.kind ∧ x.client < y.client))) := Iff.rfl
  have HB := Lib.hid (((Below.refl w.heap.size w).alloc (Nat.le_refl _) (.cells #[.int .i64 x.client, .int .i64 x.kind, .string ⟨x.path.toArray⟩] 31)).alloc (by simp) (.cells #[.int .i64 y.client, .int .i64 y.kind, .string ⟨y.path.toArray⟩] 31))
  by_cases hp : x.path = y.path
  · have d1 : (x.path == y.path) = true := by simp [hp]
    have h0 : ¬ lb x.path y.path := by rw [hp]; exact lb_irr _
    by_cases hk : x.kind = y.kind
    · have d2 : (x.kind != y.kind) = false := by simp [hk]
      have HV := Lib.hid (show decide (wLt x y) = decide (x.client < y.client) from decide_eq_decide.2 (by rw [hL]; exact ⟨fun h => h.elim (fun h => absurd h h0) fun h => h.2.elim (fun h => by omega) (·.2), fun h => .inr ⟨hp, .inr ⟨hk, h⟩⟩⟩))
      rw [HV.out]
      clear hp hk h0 hL
      go_enter Tryd.func27, Tryd.ntmps27
      go_wp2_with fail
      go_ret
      exact ⟨rfl, HB.out⟩
    · have d2 : (x.kind != y.kind) = true := by simp [hk]
      have HV := Lib.hid (show decide (wLt x y) = decide (x.kind < y.kind) from decide_eq_decide.2 (by rw [hL]; exact ⟨fun h => h.elim (fun h => absurd h h0) fun h => h.2.elim id fun h => absurd h.1 hk, fun h => .inr ⟨hp, .inl h⟩⟩))
      rw [HV.out]
      clear hp hk h0 hL
      go_enter Tryd.func27, Tryd.ntmps27
      go_wp2_with fail
      go_ret
      exact ⟨rfl, HB.out⟩
  · have d1 : (x.path == y.path) = false := by simp [hp]
    have HV := Lib.hid (show decide (wLt x y) = Op.bytesLess x.path y.path by
      rw [Bool.eq_iff_iff, decide_eq_true_eq, hL]
      exact ⟨fun h => h.elim id fun h => absurd h.1 hp, .inl⟩)
    rw [HV.out]
    clear hp hL
    go_enter Tryd.func27, Tryd.ntmps27
    go_wp2_with fail
    go_ret
    exact ⟨rfl, HB.out⟩
set_option maxHeartbeats 1600000 in
theorem refOf_any (A : Option Addr) (c : Nat) (t : List Wt) (F : Nat → Prop) (cl : Int) (w : World) (h : RdS RWt F w A c t) (hn : t.length ≤ 100000) :
    Calls Tryd.prog 28 #[.slice A t.length c, .int .i64 cl] w (Ans (.int .i64 (wOf cl t : Nat)) w) := by
  have HX := Lib.hid h
  obtain ⟨n, hl⟩ : ∃ n, n = t.length := ⟨_, rfl⟩
  rw [← hl] at hn ⊢
  have HL := Lib.hid hl.symm
  clear h hl
  go_enter Tryd.func28, Tryd.ntmps28
  go_wp2_with fail
  go_loopw [5, 6] (fun s i wr => ∃ k : Nat, k ≤ n ∧ s = .int .i64 (wOf cl (t.take k) : Nat) ∧ i = .int .i64 k ∧ Below w.heap.size w wr) (fun _ i _ => n - (intOf i).toNat)
  case atStart => exact ⟨0, by omega, rfl, rfl, Below.refl _ _⟩
  case round =>
    obtain ⟨k, hk, rfl, rfl, hb⟩ := hrel
    by_cases hlt : k < n
    · have hkx : k < t.length := by have := HL.out; omega
      have hx : t[k]? = some t[k] := List.getElem?_eq_getElem hkx
      have HNX := Lib.hid (wOf_next cl t k _ hx)
      obtain ⟨a, rfl, hg', c0, c1, c2⟩ := (HX.out.below hb).wt3 hx
      obtain ⟨m, hm⟩ : ∃ m : Nat, m = wOf cl (t.take k) := ⟨_, rfl⟩
      have hml : m ≤ 100000 := by have := wOf_le cl (t.take k); rw [List.length_take] at this; omega
      rw [← hm]
      rw [← hm] at HNX
      generalize t[k] = x at *
      have HB := Lib.hid hb
      have HLT := Lib.hid hlt
      have y1 : (0 : Int) ≤ (k : Int) := by omega
      have y2 : (k : Int) < (n : Int) := by omega
      clear hb hx hkx hlt hm
      by_cases hp : x.client = cl
      · rw [if_pos hp] at HNX
        have d1 : (x.client == cl) = true := by simp [hp]
        clear hp
        go_wp2_with fail
        go_roundw
        case rel => exact ⟨k + 1, HLT.out, by rw [HNX.out]; go_num, by go_num, HB.out⟩
        case measure => have := HLT.out; simp [intOf]; omega
      · rw [if_neg hp] at HNX
        have d1 : (x.client == cl) = false := by simp [hp]
        clear hp
        go_wp2_with fail
        go_roundw
        case rel => exact ⟨k + 1, HLT.out, by rw [HNX.out]; rfl, by go_num, HB.out⟩
        case measure => have := HLT.out; simp [intOf]; omega
    · have HE := Lib.hid (show t.take k = t from List.take_of_length_le (by have := HL.out; omega))
      have HB := Lib.hid hb
      rw [HE.out]
      clear hb
      go_wp2_with fail
      go_ret
      exact ⟨rfl, HB.out⟩
theorem rds_cells {F : Nat → Prop} {w : World} {A : Option Addr} {c : Nat} {t : List Wt} (h : RdS RWt F w A c t) (a : Addr) (ha : A = some a) : ∀ j u, (wtc t)[j]? = some u → w.cell? (a.add j) = some u := by
  intro j u hu
  have hj : j < t.length * 3 := by rw [← wtc_len]; exact (List.getElem?_eq_some_iff.1 hu).1
  have hk : j / 3 < t.length := by omega
  obtain ⟨a', cs, e, hb, hc, rfl⟩ := h.at_ (List.getElem?_eq_getElem hk)
  obtain rfl : a = a' := by rw [ha] at e; exact Option.some.inj e
  obtain ⟨h0, h1, h2⟩ := wtc_at t (j / 3) _ (List.getElem?_eq_getElem hk)
  have hj3 : j = j / 3 * 3 + j % 3 := by omega
  rw [hj3] at hu ⊢
  rcases (show j % 3 = 0 ∨ j % 3 = 1 ∨ j % 3 = 2 by omega) with r | r | r <;> rw [r] at hu ⊢
  · rw [Nat.add_zero, h0] at hu
    obtain rfl := Option.some.inj hu
    exact hc 0 _ rfl
  · rw [h1] at hu
    obtain rfl := Option.some.inj hu
    exact hc 1 _ rfl
  · rw [h2] at hu
    obtain rfl := Option.some.inj hu
    exact hc 2 _ rfl
/-- many watches behind a row of the call's own -/
theorem wpList_app_wts {w : World} {ops : Array Oper} {rest : List Oper} {o : Oper} {a : Act} {Q : Exit → Act → World → Prop} (hgd : o.guard = none) (s x : Operand)
    (ho : o.op = .call { callee := .builtin .append, args := #[s, x], argTypes := #[27, 27] }) (base : Nat) (A : Option Addr) (n c : Nat) (l : List Wt) (hs : a.eval s = .slice A n c) (hown : OwnW w base A n c l)
    (ad : Addr) (m mc : Nat) (ys : List Wt) (hx : a.eval x = .slice (some ad) m mc) (hl : ys.length = m) (hnews : ∀ j u, (wtc ys)[j]? = some u → w.cell? (ad.add j) = some u) (hm0 : 0 < m) (hn : n + m ≤ 100000) (hbase : base ≤ w.heap.size)
    (h : ∀ A' c' w', Hid (OwnW w' base A' (n + m) c' (l ++ ys)) → Hid (w.grownBy w' (Value.slice A n c).ownBlock) → wpList Tryd.prog ops Q rest (a.put o.dst (.slice A' (n + m) c')) w') : wpList Tryd.prog ops Q (o :: rest) a w := by
  obtain ⟨i0, hi, hz0, hz1, hz2⟩ := info_parts info_watch
  refine wpList_append_own_at _ hgd _ _ 27 ho base 31 i0 _ 3 32 Tryd.underlying27 hi hz0 hz1 hz2 rfl (by omega) (.slice A n c) n (wtc l) hs hown ad m mc (wtc ys) hx (by rw [wtc_len, hl]) hnews (one_wtc ys) (by simp only [maxLen]; omega) (by omega) hbase ?_
  intro v' w' h1 h2 _ h4
  obtain ⟨A', c', rfl⟩ : ∃ A' c', v' = .slice A' (n + m) c' := by
    rcases h1.2 with ⟨_, e⟩ | ⟨g, cap, cur, e, _⟩
    · omega
    · exact ⟨_, _, e⟩
  exact h A' c' w' (Lib.hid (by unfold OwnW; rw [wtc_append]; exact h1)) (Lib.hid h2)
set_option maxHeartbeats 1600000 in
theorem copyW_any (A : Option Addr) (c : Nat) (t : List Wt) (F : Nat → Prop) (w : World) (h : RdS RWt F w A c t) (hn : t.length ≤ 1000) : Calls Tryd.prog 24 #[.slice A t.length c] w (FreshW t w) := by
  have HO := Lib.hid (ownW_empty w)
  have HB := Lib.hid ((Below.refl w.heap.size w).alloc (Nat.le_refl _) (.cells #[] 31))
  have hsz : w.heap.size ≤ (w.alloc (.cells #[] 31)).heap.size := by simp
  have HSZ := Lib.hid hsz
  by_cases h0 : t = []
  · subst h0
    rcases A with _ | a
    · clear h hn
      go_enter Tryd.func24, Tryd.ntmps24
      go_wp2_with fail
      go_ret
      exact ⟨_, 0, rfl, HO.out, HB.out⟩
    · clear h hn
      go_enter Tryd.func24, Tryd.ntmps24
      go_wp2_with fail
      go_ret
      exact ⟨_, 0, rfl, HO.out, HB.out⟩
  · have hl : 0 < t.length := List.length_pos_iff.2 h0
    obtain ⟨a, _, rfl, _⟩ := h.at_ (List.getElem?_eq_getElem hl)
    have HC := Lib.hid (rds_cells (h.below HB.out) a rfl)
    obtain ⟨n, hnl⟩ : ∃ n, n = t.length := ⟨_, rfl⟩
    have HL := Lib.hid hnl.symm
    rw [← hnl] at hl hn
    rw [← hnl]
    clear h h0 hnl
    go_enter Tryd.func24, Tryd.ntmps24
    go_wp2_with (at_builtin; refine wpList_app_wts rfl _ _ rfl w.heap.size (some ⟨w.heap.size, 0, none⟩) 0 0 [] rfl HO.out a n c t rfl HL.out HC.out hl (by omega) HSZ.out ?_; intro A4 c4 w4 HO4 HG4)
    go_ret
    have ho := HO4.out
    rw [Nat.zero_add, List.nil_append] at ho
    exact ⟨A4, c4, by rw [HL.out]; rfl, by rw [HL.out]; exact ho, HB.out.grown HG4.out HSZ.out (fun b hb => Nat.le_of_eq (Option.some.inj hb))⟩
end Go.Proofs.YtbppokdaehaocaaDoor
