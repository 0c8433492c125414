/-
  The reference's sessions: Expire, Close. Walks; no statement.
-/
import Derived.Test.YtfbdmemjojjgnaaSessRef1
import Derived.Test.YtfbdmemjojjgnaaMRows
import Derived.BigQuiet
import Derived.Deep.CutRange
namespace Go.Proofs.Ytfbdmemjojjgnaa
set_option maxRecDepth 100000
open Go.RowKit
set_option linter.unusedVariables false

theorem int_nextE {z : Int} {cs : List Int} {k : Nat} (hk : k < cs.length) : decide (z ∈ cs.take (k + 1)) = (decide (z ∈ cs.take k) || decide (cs.getD k 0 = z)) := by
  rw [take_snocD cs 0 k hk, Bool.eq_iff_iff]
  simp
  constructor
  · rintro (h | h)
    · exact .inl h
    · exact .inr h.symm
  · rintro (h | h)
    · exact .inl h
    · exact .inr h.symm
theorem OwnI.moreE {w : World} {base base' : Nat} {A : Option Addr} {n c : Nat} {l : List Int} (h : OwnI w base A n c l) (hb : base' ≤ base) : OwnI w base' A n c l := by
  refine ⟨h.1, ?_⟩
  rcases h.2 with hn | ⟨g, cap, cur, e, hg, rest⟩
  · exact .inl hn
  · exact .inr ⟨g, cap, cur, e, Nat.le_trans hb hg, rest⟩
/-- a number behind a row of the call's own -/
theorem wpList_app_iv {w : World} {ops : Array Oper} {rest : List Oper} {o : Oper} {a : Act} {Q : Exit → Act → World → Prop} (hgd : o.guard = none) (s x : Operand)
    (ho : o.op = .call { callee := .builtin .append, args := #[s, x], argTypes := #[37, 37] }) (base : Nat) (A : Option Addr) (n c : Nat) (l : List Int) (hs : a.eval s = .slice A n c) (hown : OwnI w base A n c l)
    (ad : Addr) (z : Int) (hx : a.eval x = .slice (some ad) 1 1) (hnews : w.cell? ad = some (.int .i64 z)) (hn : n ≤ 100000) (hbase : base ≤ w.heap.size)
    (h : ∀ A' c' w', Hid (OwnI w' base A' (n + 1) c' (l ++ [z])) → Hid (w.grownBy w' (Value.slice A n c).ownBlock) → wpList Try.prog ops Q rest (a.put o.dst (.slice A' (n + 1) c')) w') : wpList Try.prog ops Q (o :: rest) a w := by
  obtain ⟨i0, hi, hz0, hz1, hz2⟩ := info_parts info_int
  refine wpList_append_own_at _ hgd _ _ 37 ho base 3 i0 _ 1 8 Try.underlying37 hi hz0 hz1 hz2 rfl (by omega) (.slice A n c) n (l.map iv) hs hown ad 1 1 [iv z] hx rfl (fun j u hj => ?_) (by simp [Value.oneCell', iv]) (by simp only [maxLen]; omega) (by omega) hbase ?_
  · match j, hj with
    | 0, hj => obtain rfl := Option.some.inj hj; simpa [Addr.add, iv] using hnews
  intro v' w' h1 h2 _ h4
  obtain ⟨A', c', rfl⟩ : ∃ A' c', v' = .slice A' (n + 1) c' := by
    rcases h1.2 with ⟨_, e⟩ | ⟨g, cap, cur, e, _⟩
    · omega
    · exact ⟨_, _, e⟩
  exact h A' c' w' (Lib.hid (by unfold OwnI; rw [List.map_append]; exact h1)) (Lib.hid h2)
theorem new_iv (w : World) (z : Int) : (w.alloc (.cells #[.int .i64 z] 3)).cell? ⟨w.heap.size, 0, none⟩ = some (.int .i64 z) := (Bk.new w 3 [.int .i64 z]).at_ rfl
theorem info_rbook1 : (Try.prog.info? 29).map (·.size) = some 1 := by kernel_rfl
/-- what is gone and what is left of the first i: two rows of the call's own -/
def Gone (p : Se → Bool) (t : List Se) (w : World) (base i : Nat) (A1 : Option Addr) (n1 c1 : Nat) (A2 : Option Addr) (n2 c2 : Nat) (wr : World) : Prop :=
  OwnI wr base A1 n1 c1 (seGone p (t.take i)) ∧ OwnE wr base A2 n2 c2 (seLeft p (t.take i)) ∧ Below base w wr
theorem Gone.below {p : Se → Bool} {t : List Se} {w wr wy : World} {base i n1 c1 n2 c2 : Nat} {A1 A2 : Option Addr} (h : Gone p t w base i A1 n1 c1 A2 n2 c2 wr) (hs : base ≤ wr.heap.size) (hb : Below wr.heap.size wr wy) : Gone p t w base i A1 n1 c1 A2 n2 c2 wy :=
  ⟨h.1.below hb, h.2.1.below hb, h.2.2.trans (hb.mono hs)⟩
theorem Gone.lens {p : Se → Bool} {t : List Se} {w wr : World} {base i n1 c1 n2 c2 : Nat} {A1 A2 : Option Addr} (h : Gone p t w base i A1 n1 c1 A2 n2 c2 wr) : n1 ≤ t.length ∧ n2 ≤ t.length := by
  have h1 := h.1.len
  have h2 := h.2.1.len
  have h3 := List.length_filter_le p (t.take i)
  have h4 := List.length_filter_le (fun x => !p x) (t.take i)
  rw [List.length_take] at h3 h4
  unfold seGone at h1
  unfold seLeft at h2
  rw [List.length_map] at h1
  omega
theorem filter_nextE {p : Se → Bool} {t : List Se} {i : Nat} {x : Se} (h : t[i]? = some x) : (t.take (i + 1)).filter p = (t.take i).filter p ++ if p x = true then [x] else [] := by
  obtain ⟨hk, e⟩ := List.getElem?_eq_some_iff.1 h
  rw [take_snoc t i hk, e, List.filter_append]
  by_cases q : p x = true <;> simp [q]
theorem Gone.one {p : Se → Bool} {t : List Se} {w wr w' : World} {base i n1 c1 n2 c2 c' : Nat} {A1 A2 A' : Option Addr} {x : Se} {o : Obj} (h : Gone p t w base i A1 n1 c1 A2 n2 c2 wr) (hs : base ≤ wr.heap.size) (hx : t[i]? = some x) (hp : p x = true)
    (ho : OwnI w' base A' (n1 + 1) c' (seGone p (t.take i) ++ [x.client])) (hg : (wr.alloc o).grownBy w' (Value.slice A1 n1 c1).ownBlock) : Gone p t w base (i + 1) A' (n1 + 1) c' A2 n2 c2 w' := by
  refine ⟨?_, ?_, ?_⟩
  · unfold seGone at ho ⊢
    rw [filter_nextE hx, if_pos hp, List.map_append]
    exact ho
  · have e : seLeft p (t.take (i + 1)) = seLeft p (t.take i) := by
      unfold seLeft
      rw [filter_nextE hx, if_neg (by simp [hp]), List.append_nil]
    rw [e]
    exact World.ownsRow.kept (h.2.1.alloc o) hg (rows_apart (h.2.1.alloc o) (World.ownsRow.alloc h.1 o) (by decide))
  · exact (h.2.2.alloc hs o).grown hg (by simp; omega) (fun b hb => h.1.block b hb)
theorem Gone.two {p : Se → Bool} {t : List Se} {w wr w' : World} {base i n1 c1 n2 c2 c' : Nat} {A1 A2 A' : Option Addr} {x : Se} {o : Obj} (h : Gone p t w base i A1 n1 c1 A2 n2 c2 wr) (hs : base ≤ wr.heap.size) (hx : t[i]? = some x) (hp : p x = false)
    (ho : OwnE w' base A' (n2 + 1) c' (seLeft p (t.take i) ++ [x])) (hg : (wr.alloc o).grownBy w' (Value.slice A2 n2 c2).ownBlock) : Gone p t w base (i + 1) A1 n1 c1 A' (n2 + 1) c' w' := by
  refine ⟨?_, ?_, ?_⟩
  · have e : seGone p (t.take (i + 1)) = seGone p (t.take i) := by
      unfold seGone
      rw [filter_nextE hx, if_neg (by simp [hp]), List.append_nil]
    rw [e]
    exact World.ownsRow.kept (World.ownsRow.alloc h.1 o) hg (rows_apart (World.ownsRow.alloc h.1 o) (h.2.1.alloc o) (by decide))
  · unfold seLeft at ho ⊢
    rw [filter_nextE hx, if_pos (by simp [hp])]
    exact ho
  · exact (h.2.2.alloc hs o).grown hg (by simp; omega) (fun b hb => h.2.1.block b hb)
/-- the reference's book as a value, and clients -/
def RefG (t' : List Se) (cs : List Int) (w : World) (e : Ending) (w' : World) : Prop :=
  Below w.heap.size w w' ∧ ∃ A c A2 c2, e = .returned (.tuple #[.agg #[.slice A t'.length c], .slice A2 cs.length c2]) ∧ RdS RSe (From w.heap.size) w' A c t' ∧ OwnI w' w.heap.size A2 cs.length c2 cs
set_option maxHeartbeats 6400000 in
theorem refExpire_any (A : Option Addr) (c : Nat) (t : List Se) (F : Nat → Prop) (now : Int) (w : World) (h : RdS RSe F w A c t) (hn : t.length ≤ 1000) (hsm : ∀ x ∈ t, 0 ≤ x.span ∧ x.span ≤ 1000000 ∧ 0 ≤ x.seen ∧ x.seen < 1099511627776) :
    Calls Try.prog 19 #[.agg #[.slice A t.length c], .int .i64 now] w (RefG (seLeft (seEnds now) t) (seGone (seEnds now) t) w) := by
  obtain ⟨W2, hW2⟩ : ∃ W2, W2 = (w.alloc (.cells #[.slice A t.length c] 29)).alloc (.cells #[.slice none 0 0] 29) := ⟨_, rfl⟩
  have hb2 : Below w.heap.size w W2 := by rw [hW2]; exact ((Below.refl w.heap.size w).alloc (Nat.le_refl _) _).alloc (by simp) _
  have hs2 : W2.heap.size = w.heap.size + 2 := by rw [hW2]; simp
  have K0 : Bk W2 w.heap.size 29 [.slice A t.length c] := by rw [hW2]; exact (Bk.new w 29 [.slice A t.length c]).alloc _
  have K1 : Bk W2 (w.heap.size + 1) 29 [.slice none 0 0] := by rw [hW2]; exact bk_new2 w _ [.slice none 0 0] _
  have HKW := Lib.hid (fun X (hX : Below (w.heap.size + 2) W2 X) => (⟨(K0.below hX (by omega)).at_ rfl, (K1.below hX (by omega)).frozen 0, (K0.below hX (by omega)).frozen 0, K1.below hX (by omega), K0.below hX (by omega), hb2.trans (hX.mono (by omega)), by have := hX.size; omega⟩ :
    X.cell? ⟨w.heap.size, 0, none⟩ = some (.slice A t.length c) ∧ X.frozen? ⟨w.heap.size + 1, 0, none⟩ = false ∧ X.frozen? ⟨w.heap.size, 0, none⟩ = false ∧ Bk X (w.heap.size + 1) 29 [.slice none 0 0] ∧ Bk X w.heap.size 29 [.slice A t.length c] ∧ Below w.heap.size w X ∧ w.heap.size + 2 ≤ X.heap.size))
  have HX := Lib.hid h
  have HSM := Lib.hid hsm
  have HWE := Lib.hid hW2
  have HS2 := Lib.hid hs2
  obtain ⟨n, hnl⟩ : ∃ n, n = t.length := ⟨_, rfl⟩
  have HL := Lib.hid hnl.symm
  have hn1 : n ≤ 1000 := by omega
  rw [← hnl] at HKW HWE
  rw [← hnl]
  have hP0 : Gone (seEnds now) t W2 (w.heap.size + 2) 0 (some ⟨W2.heap.size, 0, none⟩) 0 0 (some ⟨W2.heap.size + 1, 0, none⟩) 0 0 ((W2.alloc (.cells #[] 3)).alloc (.cells #[] 36)) := by
    refine ⟨?_, ?_, ?_⟩
    · have q : OwnI ((W2.alloc (.cells #[] 3)).alloc (.cells #[] 36)) W2.heap.size (some ⟨W2.heap.size, 0, none⟩) 0 0 [] := World.ownsRow.alloc (OwnI.empty W2) _
      rw [hs2] at q ⊢
      exact q
    · have q := (ownE_empty (W2.alloc (.cells #[] 3))).more (base' := w.heap.size + 2) (by simp; omega)
      rw [show (W2.alloc (.cells #[] 3)).heap.size = W2.heap.size + 1 by simp] at q
      exact q
    · exact ((Below.refl (w.heap.size + 2) W2).alloc (by omega) _).alloc (by simp; omega) _
  rw [hs2] at hP0
  have HP0 := Lib.hid hP0
  clear h hW2 hb2 K0 K1 hnl hn hP0 hsm
  go_enter Try.func19, Try.ntmps19
  go_wp2_with fail
  rw [← HWE.out]
  go_wp2_with fail
  go_loopw [6, 7, 8] (fun so sl si wr => ∃ (A1 : Option Addr) (n1 c1 : Nat) (A2 : Option Addr) (n2 c2 i : Nat), i ≤ n ∧ so = .slice A1 n1 c1 ∧ sl = .slice A2 n2 c2 ∧ si = .int .i64 i ∧ Gone (seEnds now) t W2 (w.heap.size + 2) i A1 n1 c1 A2 n2 c2 wr) (fun _ _ si _ => n - (intOf si).toNat)
  case atStart => exact ⟨_, 0, 0, _, 0, 0, 0, by omega, rfl, rfl, rfl, HP0.out⟩
  case round =>
    obtain ⟨A1, n1, c1, A2, n2, c2, i, hi, rfl, rfl, rfl, hpt⟩ := hrel
    obtain ⟨j0, z1, z0, -, -, hbw, hsw⟩ := HKW.out wr hpt.2.2
    have hls := hpt.lens
    by_cases hlt : i < n
    · have hix : i < t.length := by have := HL.out; omega
      have hy : t[i]? = some t[i] := List.getElem?_eq_getElem hix
      have HY := Lib.hid hy
      have HSX := Lib.hid (HSM.out _ (List.getElem_mem hix))
      have HRX := Lib.hid (fun W (hW : Below (w.heap.size + 2) W2 W) => (HX.out.below (HKW.out W hW).2.2.2.2.2.1).se3 hy)
      generalize t[i] = x at *
      have HPT := Lib.hid hpt
      have HLT := Lib.hid hlt
      have HSW := Lib.hid hsw
      have y1 : (0 : Int) ≤ (i : Int) := by omega
      have y2 : (i : Int) < (n : Int) := by omega
      have y3 : n1 ≤ 1000 := by have := HL.out; omega
      have y4 : n2 ≤ 1000 := by have := HL.out; omega
      clear hpt hlt hy hix hls hi hbw hsw z0 z1
      obtain ⟨a, rfl, _, d0, d1, d2⟩ := HRX.out wr HPT.out.2.2
      obtain ⟨s1, s2, s3, s4⟩ := HSX.out
      have w1 : IntKind.i64.wrap (x.seen + x.span) = x.seen + x.span := by simp only [IntKind.wrap, IntKind.bits, IntKind.signed]; simp; omega
      by_cases hp : x.seen + x.span ≤ now
      · have HH := Lib.hid (show seEnds now x = true from decide_eq_true hp)
        have q1 : decide (x.seen + x.span ≤ now) = true := decide_eq_true hp
        clear hp
        go_upto_region 6 with fail
        go_quiet (fail)
        have HPY := Lib.hid (HPT.out.below HSW.out (below_drewN (Below.refl _ _) nq))
        have HSY := Lib.hid (show w.heap.size + 2 ≤ (wr.drewN nq).heap.size from HSW.out)
        go_wp2_with (at_builtin; refine wpList_app_iv rfl _ _ rfl (w.heap.size + 2) A1 n1 c1 _ rfl (World.ownsRow.alloc HPY.out.1 _) ⟨wr.heap.size, 0, none⟩ x.client rfl (new_iv (wr.drewN nq) x.client) (by omega) (by have := HSW.out; simp [World.drewN]; omega) ?_; intro A4 c4 w4 HO4 HG4)
        go_roundw
        case rel => exact ⟨A4, n1 + 1, c4, A2, n2, c2, i + 1, HLT.out, rfl, rfl, by go_num, HPY.out.one HSY.out HY.out HH.out HO4.out HG4.out⟩
        case measure => have := HLT.out; simp [intOf]; omega
      · have HH := Lib.hid (show seEnds now x = false from decide_eq_false hp)
        have q1 : decide (x.seen + x.span ≤ now) = false := decide_eq_false hp
        clear hp
        go_upto_region 6 with fail
        go_quiet (fail)
        have HPY := Lib.hid (HPT.out.below HSW.out (below_drewN (Below.refl _ _) nq))
        have HSY := Lib.hid (show w.heap.size + 2 ≤ (wr.drewN nq).heap.size from HSW.out)
        go_wp2_with (at_builtin; refine wpList_app_se rfl _ _ rfl (w.heap.size + 2) A2 n2 c2 _ rfl (HPY.out.2.1.alloc _) ⟨wr.heap.size, 0, none⟩ x rfl (news_se (wr.drewN nq) x) (by omega) (by have := HSW.out; simp [World.drewN]; omega) ?_; intro A4 c4 w4 HO4 HG4 HR4)
        go_roundw
        case rel => exact ⟨A1, n1, c1, A4, n2 + 1, c4, i + 1, HLT.out, rfl, rfl, by go_num, HPY.out.two HSY.out HY.out HH.out HO4.out HG4.out⟩
        case measure => have := HLT.out; simp [intOf]; omega
    · have HE := Lib.hid (show t.take i = t from List.take_of_length_le (by have := HL.out; omega))
      obtain ⟨-, -, -, kr, ks, -⟩ := HKW.out wr hpt.2.2
      have HKR := Lib.hid kr
      have HBW := Lib.hid hbw
      have HPT := Lib.hid hpt
      have m2 := kr.at_ (i := 0) rfl
      clear hpt hls kr ks hbw hi
      go_wp2_with fail
      have kk := (HKR.out.far (p := ⟨w.heap.size, 0, none⟩) (by show w.heap.size + 1 ≠ w.heap.size; omega) (.slice A2 n2 c2)).set 0 (.slice A2 n2 c2)
      refine bodyPost_ret_by (results_row_tmp rfl _ _ (w.heap.size + 1) 29 _ _ rfl kk Try.underlying29 rfl info_rbook1) rfl ?_
      have hp2 := HPT.out
      rw [Gone, HE.out] at hp2
      obtain ⟨o1, o2, hb⟩ := hp2
      have l1 := o1.len
      have l2 := o2.len
      have g0 := grown_set (grown_refl wr (some w.heap.size)) 0 (.slice A2 n2 c2)
      have g1 := grown_set (grown_refl (wr.setCell ⟨w.heap.size, 0, none⟩ (.slice A2 n2 c2)) (some (w.heap.size + 1))) 0 (.slice A2 n2 c2)
      have hb3 := (HBW.out.grown g0 HBW.out.size (fun b hb => Nat.le_of_eq (Option.some.inj hb))).grown g1 (by have := HBW.out.size; have := g0.size; omega) (fun b hb => by have := Option.some.inj hb; omega)
      refine ⟨hb3, A2, c2, A1, c1, by rw [l1, l2]; rfl, ?_, ?_⟩
      · have q := World.ownsRow.kept (World.ownsRow.kept o2 g0 (.inr fun e => by have := o2.block _ e; omega)) g1 (.inr fun e => by have := o2.block _ e; omega)
        exact OwnE.rds (show OwnE _ (w.heap.size + 2) A2 n2 c2 _ from q) fun b hb => (by unfold From; omega)
      · rw [l1]
        have q := World.ownsRow.kept (World.ownsRow.kept o1 g0 (.inr fun e => by have := o1.block _ e; omega)) g1 (.inr fun e => by have := o1.block _ e; omega)
        exact (show OwnI _ (w.heap.size + 2) A1 n1 c1 _ from q).moreE (by omega)
set_option maxHeartbeats 6400000 in
theorem refClose_any (A : Option Addr) (c : Nat) (t : List Se) (F : Nat → Prop) (CA : Option Addr) (cn cc : Nat) (cs : List Int) (w : World) (h : RdS RSe F w A c t) (hn : t.length ≤ 1000) (hcs : Rd w CA cn (cs.map (.int .i64 ·))) (hcn : cn ≤ 140737488355328) :
    Calls Try.prog 22 #[.agg #[.slice A t.length c], .slice CA cn cc] w (RefG (seLeft (seIn cs) t) (seGone (seIn cs) t) w) := by
  obtain ⟨W2, hW2⟩ : ∃ W2, W2 = (w.alloc (.cells #[.slice A t.length c] 29)).alloc (.cells #[.slice none 0 0] 29) := ⟨_, rfl⟩
  have hb2 : Below w.heap.size w W2 := by rw [hW2]; exact ((Below.refl w.heap.size w).alloc (Nat.le_refl _) _).alloc (by simp) _
  have hs2 : W2.heap.size = w.heap.size + 2 := by rw [hW2]; simp
  have K0 : Bk W2 w.heap.size 29 [.slice A t.length c] := by rw [hW2]; exact (Bk.new w 29 [.slice A t.length c]).alloc _
  have K1 : Bk W2 (w.heap.size + 1) 29 [.slice none 0 0] := by rw [hW2]; exact bk_new2 w _ [.slice none 0 0] _
  have HKW := Lib.hid (fun X (hX : Below (w.heap.size + 2) W2 X) => (⟨(K0.below hX (by omega)).at_ rfl, (K1.below hX (by omega)).frozen 0, (K0.below hX (by omega)).frozen 0, K1.below hX (by omega), K0.below hX (by omega), hb2.trans (hX.mono (by omega)), by have := hX.size; omega⟩ :
    X.cell? ⟨w.heap.size, 0, none⟩ = some (.slice A t.length c) ∧ X.frozen? ⟨w.heap.size + 1, 0, none⟩ = false ∧ X.frozen? ⟨w.heap.size, 0, none⟩ = false ∧ Bk X (w.heap.size + 1) 29 [.slice none 0 0] ∧ Bk X w.heap.size 29 [.slice A t.length c] ∧ Below w.heap.size w X ∧ w.heap.size + 2 ≤ X.heap.size))
  have HX := Lib.hid h
  have HCS := Lib.hid hcs
  have HCL := Lib.hid (show cs.length = cn by simpa using hcs.1)
  have HWE := Lib.hid hW2
  have HS2 := Lib.hid hs2
  obtain ⟨n, hnl⟩ : ∃ n, n = t.length := ⟨_, rfl⟩
  have HL := Lib.hid hnl.symm
  have hn1 : n ≤ 1000 := by omega
  rw [← hnl] at HKW HWE
  rw [← hnl]
  have hP0 : Gone (seIn cs) t W2 (w.heap.size + 2) 0 (some ⟨W2.heap.size, 0, none⟩) 0 0 (some ⟨W2.heap.size + 1, 0, none⟩) 0 0 ((W2.alloc (.cells #[] 3)).alloc (.cells #[] 36)) := by
    refine ⟨?_, ?_, ?_⟩
    · have q : OwnI ((W2.alloc (.cells #[] 3)).alloc (.cells #[] 36)) W2.heap.size (some ⟨W2.heap.size, 0, none⟩) 0 0 [] := World.ownsRow.alloc (OwnI.empty W2) _
      rw [hs2] at q ⊢
      exact q
    · have q := (ownE_empty (W2.alloc (.cells #[] 3))).more (base' := w.heap.size + 2) (by simp; omega)
      rw [show (W2.alloc (.cells #[] 3)).heap.size = W2.heap.size + 1 by simp] at q
      exact q
    · exact ((Below.refl (w.heap.size + 2) W2).alloc (by omega) _).alloc (by simp; omega) _
  rw [hs2] at hP0
  have HP0 := Lib.hid hP0
  clear h hW2 hb2 K0 K1 hnl hn hP0 hcs
  go_enter Try.func22, Try.ntmps22
  go_wp2_with fail
  rw [← HWE.out]
  go_wp2_with fail
  go_loopw [6, 7, 8] (fun so sl si wr => ∃ (A1 : Option Addr) (n1 c1 : Nat) (A2 : Option Addr) (n2 c2 i : Nat), i ≤ n ∧ so = .slice A1 n1 c1 ∧ sl = .slice A2 n2 c2 ∧ si = .int .i64 i ∧ Gone (seIn cs) t W2 (w.heap.size + 2) i A1 n1 c1 A2 n2 c2 wr) (fun _ _ si _ => n - (intOf si).toNat)
  case atStart => exact ⟨_, 0, 0, _, 0, 0, 0, by omega, rfl, rfl, rfl, HP0.out⟩
  case round =>
    obtain ⟨A1, n1, c1, A2, n2, c2, i, hi, rfl, rfl, rfl, hpt⟩ := hrel
    obtain ⟨j0, z1, z0, -, -, hbw, hsw⟩ := HKW.out wr hpt.2.2
    have hls := hpt.lens
    by_cases hlt : i < n
    · have hix : i < t.length := by have := HL.out; omega
      have hy : t[i]? = some t[i] := List.getElem?_eq_getElem hix
      have HY := Lib.hid hy
      have HRX := Lib.hid (fun W (hW : Below (w.heap.size + 2) W2 W) => (HX.out.below (HKW.out W hW).2.2.2.2.2.1).se3 hy)
      generalize t[i] = x at *
      have HPT := Lib.hid hpt
      have HLT := Lib.hid hlt
      have HSW := Lib.hid hsw
      have y1 : (0 : Int) ≤ (i : Int) := by omega
      have y2 : (i : Int) < (n : Int) := by omega
      have y3 : n1 ≤ 1000 := by have := HL.out; omega
      have y4 : n2 ≤ 1000 := by have := HL.out; omega
      clear hpt hlt hy hix hls hi hbw hsw z0 z1
      go_wp2_with fail
      go_loopw [9, 10] (fun sb sk wy => ∃ (k : Nat) (bt : Bool), k ≤ cn ∧ sk = .int .i64 k ∧ sb = .bool bt ∧ bt = decide (x.client ∈ cs.take k) ∧ Below wr.heap.size wr wy) (fun _ sk _ => cn - (intOf sk).toNat)
      case atStart => exact ⟨0, false, by omega, rfl, rfl, by simp, Below.refl _ _⟩
      case round =>
        rename World => wy
        obtain ⟨k, bt, hk, rfl, rfl, hbt, hby⟩ := hrel
        have hpy := HPT.out.below HSW.out hby
        obtain ⟨j1, z1, z0, -, -, hbw, hsy⟩ := HKW.out wy hpy.2.2
        obtain ⟨a1, rfl, _, d0, d1, d2⟩ := HRX.out wy hpy.2.2
        by_cases hlt3 : k < cn
        · obtain ⟨a3, rfl, _, g9⟩ := Rd.at_ (HCS.out.below hbw) hlt3
          have HTK := Lib.hid (int_nextE (z := x.client) (cs := cs) (k := k) (by have := HCL.out; omega))
          have g0 : wy.cell? (a3.add k) = some (.int .i64 (cs.getD k 0)) := by
            rw [g9]
            have := HCL.out
            simp [List.getD, show k < cs.length by omega]
          clear g9
          generalize cs.getD k 0 = p at *
          have y5 : (0 : Int) ≤ (k : Int) := by omega
          have y6 : (k : Int) < (cn : Int) := by omega
          have HBY := Lib.hid hby
          have HLT3 := Lib.hid hlt3
          have HBT := Lib.hid hbt
          clear hby hlt3 hbt j0 hpy hbw hsy z0 z1
          cases bt with
          | true =>
            have HBT2 := Lib.hid (show true = decide (x.client ∈ cs.take (k + 1)) by rw [HTK.out, ← HBT.out]; rfl)
            go_upto_region 10 with fail
            go_quiet (fail)
            go_wp2_with fail
            go_roundw
            case rel => exact ⟨k + 1, true, HLT3.out, by go_num, rfl, HBT2.out, below_drewN HBY.out nq⟩
            case measure => have := HLT3.out; simp [intOf]; omega
          | false =>
            by_cases hxp : p = x.client
            · have HBT2 := Lib.hid (show true = decide (x.client ∈ cs.take (k + 1)) by rw [HTK.out, ← HBT.out, decide_eq_true hxp]; rfl)
              have q1 : (p == x.client) = true := by simpa using hxp
              clear hxp
              go_upto_region 10 with fail
              go_quiet (fail)
              go_wp2_with fail
              go_roundw
              case rel => exact ⟨k + 1, true, HLT3.out, by go_num, rfl, HBT2.out, below_drewN HBY.out nq⟩
              case measure => have := HLT3.out; simp [intOf]; omega
            · have HBT2 := Lib.hid (show false = decide (x.client ∈ cs.take (k + 1)) by rw [HTK.out, ← HBT.out, decide_eq_false hxp]; rfl)
              have q1 : (p == x.client) = false := by simpa using hxp
              clear hxp
              go_upto_region 10 with fail
              go_quiet (fail)
              go_wp2_with fail
              go_roundw
              case rel => exact ⟨k + 1, false, HLT3.out, by go_num, rfl, HBT2.out, below_drewN HBY.out nq⟩
              case measure => have := HLT3.out; simp [intOf]; omega
        · rw [List.take_of_length_le (by have := HCL.out; omega)] at hbt
          have HPY := Lib.hid hpy
          have HSY := Lib.hid hsy
          have HBT := Lib.hid hbt
          clear hby hbt hpy hbw hsy j0 z0 z1
          cases bt with
          | true =>
            have HH := Lib.hid (show seIn cs x = true from HBT.out.symm)
            go_wp2_with (at_builtin; refine wpList_app_iv rfl _ _ rfl (w.heap.size + 2) A1 n1 c1 _ rfl (World.ownsRow.alloc HPY.out.1 _) ⟨wy.heap.size, 0, none⟩ x.client rfl (new_iv wy x.client) (by omega) (by have := HSY.out; simp; omega) ?_; intro A4 c4 w4 HO4 HG4)
            go_roundw
            case rel => exact ⟨A4, n1 + 1, c4, A2, n2, c2, i + 1, HLT.out, rfl, rfl, by go_num, HPY.out.one HSY.out HY.out HH.out HO4.out HG4.out⟩
            case measure => have := HLT.out; simp [intOf]; omega
          | false =>
            have HH := Lib.hid (show seIn cs x = false from HBT.out.symm)
            go_wp2_with (at_builtin; refine wpList_app_se rfl _ _ rfl (w.heap.size + 2) A2 n2 c2 _ rfl (HPY.out.2.1.alloc _) ⟨wy.heap.size, 0, none⟩ x rfl (news_se wy x) (by omega) (by have := HSY.out; simp; omega) ?_; intro A4 c4 w4 HO4 HG4 HR4)
            go_roundw
            case rel => exact ⟨A1, n1, c1, A4, n2 + 1, c4, i + 1, HLT.out, rfl, rfl, by go_num, HPY.out.two HSY.out HY.out HH.out HO4.out HG4.out⟩
            case measure => have := HLT.out; simp [intOf]; omega
    · have HE := Lib.hid (show t.take i = t from List.take_of_length_le (by have := HL.out; omega))
      obtain ⟨-, -, -, kr, ks, -⟩ := HKW.out wr hpt.2.2
      have HKR := Lib.hid kr
      have HBW := Lib.hid hbw
      have HPT := Lib.hid hpt
      have m2 := kr.at_ (i := 0) rfl
      clear hpt hls kr ks hbw hi
      go_wp2_with fail
      have kk := (HKR.out.far (p := ⟨w.heap.size, 0, none⟩) (by show w.heap.size + 1 ≠ w.heap.size; omega) (.slice A2 n2 c2)).set 0 (.slice A2 n2 c2)
      refine bodyPost_ret_by (results_row_tmp rfl _ _ (w.heap.size + 1) 29 _ _ rfl kk Try.underlying29 rfl info_rbook1) rfl ?_
      have hp2 := HPT.out
      rw [Gone, HE.out] at hp2
      obtain ⟨o1, o2, hb⟩ := hp2
      have l1 := o1.len
      have l2 := o2.len
      have g0 := grown_set (grown_refl wr (some w.heap.size)) 0 (.slice A2 n2 c2)
      have g1 := grown_set (grown_refl (wr.setCell ⟨w.heap.size, 0, none⟩ (.slice A2 n2 c2)) (some (w.heap.size + 1))) 0 (.slice A2 n2 c2)
      have hb3 := (HBW.out.grown g0 HBW.out.size (fun b hb => Nat.le_of_eq (Option.some.inj hb))).grown g1 (by have := HBW.out.size; have := g0.size; omega) (fun b hb => by have := Option.some.inj hb; omega)
      refine ⟨hb3, A2, c2, A1, c1, by rw [l1, l2]; rfl, ?_, ?_⟩
      · have q := World.ownsRow.kept (World.ownsRow.kept o2 g0 (.inr fun e => by have := o2.block _ e; omega)) g1 (.inr fun e => by have := o2.block _ e; omega)
        exact OwnE.rds (show OwnE _ (w.heap.size + 2) A2 n2 c2 _ from q) fun b hb => (by unfold From; omega)
      · rw [l1]
        have q := World.ownsRow.kept (World.ownsRow.kept o1 g0 (.inr fun e => by have := o1.block _ e; omega)) g1 (.inr fun e => by have := o1.block _ e; omega)
        exact (show OwnI _ (w.heap.size + 2) A1 n1 c1 _ from q).moreE (by omega)
end Go.Proofs.Ytfbdmemjojjgnaa
