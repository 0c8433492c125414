/-
  Sessions that end; Expire, Close. Walks; no statement.
-/
import Derived.Test.YtfbdmemjojjgnaaSessDev3
import Derived.Test.YtfbdmemjojjgnaaSessRef2
import Derived.Test.YtfbdmemjojjgnaaShelf
namespace Go.Proofs.Ytfbdmemjojjgnaa
set_option maxRecDepth 100000
open Go.RowKit
set_option linter.unusedVariables false
set_option maxRecDepth 100000

/-- where the cells of a row of one-cell elements lie -/
theorem rd_formE {w : World} {A : Option Addr} {n : Nat} {xs : List Value} (h : Rd w A n xs) (hn : 0 < n) : ∃ b off, A = some ⟨b, off, none⟩ ∧ ∀ j u, xs[j]? = some u → w.cell? ⟨b, off + j, none⟩ = some u := by
  obtain ⟨a, rfl, _, hc0⟩ := h.at_ hn
  have hsp : a.spot = none := by
    unfold World.cell? at hc0
    unfold Addr.add at hc0
    simp only [if_true] at hc0
    split at hc0
    · cases hs : a.spot with
      | none => rfl
      | some s => rw [hs] at hc0; simp at hc0
    · cases hc0
  obtain ⟨b, off, sp⟩ := a
  obtain rfl : sp = none := hsp
  refine ⟨b, off, rfl, fun j u hu => ?_⟩
  obtain ⟨a', e, _, hc'⟩ := h.2 j u hu
  obtain rfl := Option.some.inj e
  have e1 : (⟨b, off, none⟩ : Addr).add j = ⟨b, off + j, none⟩ := by unfold Addr.add; split <;> simp_all
  rw [← e1]
  exact hc'
theorem hasIntE_any (A : Option Addr) (n c : Nat) (os : List Int) (v : Int) (w : World) (h : Rd w A n (os.map (.int .i64 ·))) (hn : n ≤ maxLen) :
    Calls Try.prog 33 #[.slice A n c, .int .i64 v] w fun e w' => e = .returned (.bool (decide (v ∈ os))) ∧ w' = w := by
  have hl : os.length = n := by simpa using h.1
  rcases Nat.eq_zero_or_pos n with h0 | h0
  · subst h0
    obtain rfl := List.eq_nil_of_length_eq_zero hl
    refine (Try.slices_Contains_int_empty A c v w).mono ?_
    rintro e w' ⟨rfl, rfl⟩
    exact ⟨rfl, rfl⟩
  · obtain ⟨b, off, rfl, hc⟩ := rd_formE h h0
    refine (Try.slices_Contains_int b off n c os v w (by omega) (by simpa [maxLen] using hn) (fun j hj => hc j _ (by rw [List.getElem?_map, List.getElem?_eq_getElem hj]; simp [List.getD, hj]))).mono ?_
    rintro e w' ⟨rfl, rfl⟩
    refine ⟨?_, rfl⟩
    rw [← hl, List.take_length]
    simp
/-- a number behind a row of the call's own, and where it lies -/
theorem wpList_app_iv2 {w : World} {ops : Array Oper} {rest : List Oper} {o : Oper} {a : Act} {Q : Exit → Act → World → Prop} (hgd : o.guard = none) (s x : Operand)
    (ho : o.op = .call { callee := .builtin .append, args := #[s, x], argTypes := #[37, 37] }) (base : Nat) (A : Option Addr) (n c : Nat) (l : List Int) (hs : a.eval s = .slice A n c) (hown : OwnI w base A n c l)
    (ad : Addr) (z : Int) (hx : a.eval x = .slice (some ad) 1 1) (hnews : w.cell? ad = some (.int .i64 z)) (hn : n ≤ 100000) (hbase : base ≤ w.heap.size)
    (h : ∀ A' c' w', Hid (OwnI w' base A' (n + 1) c' (l ++ [z])) → Hid (w.grownBy w' (Value.slice A n c).ownBlock) → Hid ((Value.slice A' (n + 1) c').ownBlock = (Value.slice A n c).ownBlock ∨ (Value.slice A' (n + 1) c').ownBlock = some w.heap.size) → wpList Try.prog ops Q rest (a.put o.dst (.slice A' (n + 1) c')) w') : wpList Try.prog ops Q (o :: rest) a w := by
  obtain ⟨i0, hi, hz0, hz1, hz2⟩ := info_parts info_int
  refine wpList_append_own_at _ hgd _ _ 37 ho base 3 i0 _ 1 8 Try.underlying37 hi hz0 hz1 hz2 rfl (by omega) (.slice A n c) n (l.map iv) hs hown ad 1 1 [iv z] hx rfl (fun j u hj => ?_) (by simp [Value.oneCell', iv]) (by simp only [maxLen]; omega) (by omega) hbase ?_
  · match j, hj with
    | 0, hj => obtain rfl := Option.some.inj hj; simpa [Addr.add, iv] using hnews
  intro v' w' h1 h2 _ h4
  obtain ⟨A', c', rfl⟩ : ∃ A' c', v' = .slice A' (n + 1) c' := by
    rcases h1.2 with ⟨_, e⟩ | ⟨g, cap, cur, e, _⟩
    · omega
    · exact ⟨_, _, e⟩
  exact h A' c' w' (Lib.hid (by unfold OwnI; rw [List.map_append]; exact h1)) (Lib.hid h2) (Lib.hid h4)
/-- 'delete' on a book's map -/
theorem wpList_drop_se {w : World} {ops : Array Oper} {rest : List Oper} {o : Oper} {a : Act} {Q : Exit → Act → World → Prop} (hg : o.guard = none) (m x : Operand)
    (hop : o.op = Op.call { callee := Callee.builtin Builtin.delete, args := #[m, x], argTypes := #[59, 3] }) (b : Nat) (t : List Se) (k : Int) (hm : a.eval m = .map (some b)) (hx : a.eval x = .int .i64 k) (h : MpS w b t) (hl : (Lit.int .i64 k).wf = true)
    (hK : ∀ w', Hid (MpS w' b (t.filter fun y => decide (y.client ≠ k))) → Hid (w.grownBy w' (some b)) → wpList Try.prog ops Q rest (a.put o.dst (.tuple #[])) w') : wpList Try.prog ops Q (o :: rest) a w := by
  refine wpList_plain hg fun K' hK' => ?_
  obtain ⟨w', hrun, r1, r2⟩ := h.drop k hl o.type
  unfold Oper.wp
  simp [execOp, hop, resolve, invoke, builtin, hm, hx, hrun, Result.andThen]
  exact hK' _ _ (hK w' (Lib.hid r1) (Lib.hid r2))
/-- what is left when the first k have been asked -/
def seCur (p : Se → Bool) (t : List Se) (k : Nat) : List Se := (t.take k).filter (fun x => !p x) ++ t.drop k
section
variable {p : Se → Bool} {t : List Se} {k : Nat} {x : Se}
theorem seCur_end (h : t.length ≤ k) : seCur p t k = seLeft p t := by
  unfold seCur seLeft
  rw [List.take_of_length_le h, List.drop_eq_nil_of_le h, List.append_nil]
theorem seCur_sub : (seCur p t k).Sublist t := by
  unfold seCur
  have h := List.Sublist.append (List.filter_sublist (p := fun x => !p x) (l := t.take k)) (List.Sublist.refl (t.drop k))
  rwa [List.take_append_drop] at h
theorem seCur_at (h : t[k]? = some x) : seCur p t k = (t.take k).filter (fun x => !p x) ++ x :: t.drop (k + 1) := by
  obtain ⟨hk, rfl⟩ := List.getElem?_eq_some_iff.1 h
  unfold seCur
  rw [List.getElem_cons_drop]
theorem seCur_keep (h : t[k]? = some x) (hp : p x = false) : seCur p t (k + 1) = seCur p t k := by
  rw [seCur_at h]
  unfold seCur
  rw [se_take_next h, List.filter_append]
  simp [hp]
theorem seCur_drop (hs : t.Pairwise seLt) (h : t[k]? = some x) (hp : p x = true) : (seCur p t k).filter (fun y => decide (y.client ≠ x.client)) = seCur p t (k + 1) := by
  have hc : (seCur p t k).Pairwise seLt := hs.sublist seCur_sub
  rw [seCur_at h] at hc ⊢
  obtain ⟨h1, h2, h3⟩ := List.pairwise_append.1 hc
  obtain ⟨h4, h5⟩ := List.pairwise_cons.1 h2
  rw [List.filter_append, List.filter_cons_of_neg (by simp), filter_none (c := x.client) fun y hy => by
    have : y.client < x.client := h3 y hy x (List.mem_cons_self ..)
    omega, filter_none (c := x.client) fun y hy => by
    have : x.client < y.client := h4 y hy
    omega]
  unfold seCur
  rw [se_take_next h, List.filter_append]
  simp [hp]
theorem seGone_next (h : t[k]? = some x) : seGone p (t.take (k + 1)) = seGone p (t.take k) ++ if p x = true then [x.client] else [] := by
  unfold seGone
  rw [se_take_next h, List.filter_append, List.map_append]
  by_cases q : p x = true <;> simp [q]
theorem seGone_le : (seGone p (t.take k)).length ≤ t.length := by
  unfold seGone
  rw [List.length_map]
  have := List.length_filter_le p (t.take k)
  rw [List.length_take] at this
  omega
end
/-- how the loop stands: the first k have been asked -/
structure Ending1 (p : Se → Bool) (t : List Se) (g b : Nat) (PA : Option Addr) (pc : Nat) (w wr : World) (k : Nat) (A : Option Addr) (m c : Nat) : Prop where
  bk : Bk wr g 61 [.map (some b)]
  mp : MpS wr b (seCur p t k)
  out : OwnI wr w.heap.size A m c (seGone p (t.take k))
  cls : OwnI wr w.heap.size PA t.length pc (t.map (·.client))
  apart : ∀ i, (Value.slice A m c).ownBlock = some i → (Value.slice PA t.length pc).ownBlock ≠ some i
  chg : Chg (fun i => i = b) w wr
  old : b < w.heap.size ∧ g < w.heap.size ∧ g ≠ b
section
variable {p : Se → Bool} {t : List Se} {g b : Nat} {PA : Option Addr} {pc : Nat} {w wr w2 : World} {k : Nat} {A : Option Addr} {m c : Nat} {x : Se}
theorem Ending1.below (h : Ending1 p t g b PA pc w wr k A m c) (hb : Below wr.heap.size wr w2) : Ending1 p t g b PA pc w w2 k A m c :=
  ⟨h.bk.kept hb, h.mp.below hb, h.out.below hb, h.cls.below hb, h.apart, h.chg.then hb, h.old⟩
theorem Ending1.keep (h : Ending1 p t g b PA pc w wr k A m c) (hx : t[k]? = some x) (hp : p x = false) : Ending1 p t g b PA pc w wr (k + 1) A m c :=
  ⟨h.bk, by rw [seCur_keep hx hp]; exact h.mp, by rw [seGone_next hx, if_neg (by simp [hp]), List.append_nil]; exact h.out, h.cls, h.apart, h.chg, h.old⟩
/-- one is gone: the map is written, then the row -/
theorem Ending1.gone {w3 w5 w4 : World} {A4 : Option Addr} {c4 : Nat} (h : Ending1 p t g b PA pc w w2 k A m c) (hs : t.Pairwise seLt) (hx : t[k]? = some x) (hp : p x = true) (hm : MpS w3 b ((seCur p t k).filter fun y => decide (y.client ≠ x.client))) (hg3 : w2.grownBy w3 (some b)) (h5 : Below w3.heap.size w3 w5)
    (ho : OwnI w4 w.heap.size A4 (m + 1) c4 (seGone p (t.take k) ++ [x.client])) (hg : w5.grownBy w4 (Value.slice A m c).ownBlock) (hr : (Value.slice A4 (m + 1) c4).ownBlock = (Value.slice A m c).ownBlock ∨ (Value.slice A4 (m + 1) c4).ownBlock = some w5.heap.size) :
    Ending1 p t g b PA pc w w4 (k + 1) A4 (m + 1) c4 := by
  have hsz := h.chg.size
  have nb : ∀ i, (Value.slice A m c).ownBlock = some i → i ≠ b ∧ i ≠ g := fun i hi => by have := h.out.block i hi; have := h.old; omega
  have c3 : Chg (fun i => i = b) w w3 := h.chg.grown hg3 fun i e => by injection e with e; exact .inl e.symm
  have c4' : Chg (fun i => (Value.slice A m c).ownBlock = some i) w5 w4 := (Chg.refl _ _).grown hg fun i e => .inl e
  have hcl3 : OwnI w3 w.heap.size PA t.length pc (t.map (·.client)) := World.ownsRow.kept h.cls hg3 (by
    cases hq : (Value.slice PA t.length pc).ownBlock with
    | none => exact .inl rfl
    | some i => exact .inr fun e => by injection e with e; have := (World.ownsRow.lt h.cls i hq).1; have := h.old; omega)
  refine ⟨?_, ?_, ?_, ?_, ?_, ?_, h.old⟩
  · exact c4'.bk ((h.bk.grown hg3 fun e => h.old.2.2 (Option.some.inj e)).kept h5) fun e => (nb g e).2 rfl
  · rw [← seCur_drop hs hx hp]
    exact (hm.below h5).chg c4' fun e => (nb b e).1 rfl
  · rw [seGone_next hx, if_pos hp]
    exact ho
  · exact World.ownsRow.kept (hcl3.below h5) hg (by
      cases hq : (Value.slice PA t.length pc).ownBlock with
      | none => exact .inl rfl
      | some i => exact .inr fun e => h.apart i e.symm hq)
  · intro i hi e
    have hlt := (World.ownsRow.lt hcl3 i e).2
    have := h5.size
    rcases hr with q | q
    · exact h.apart i (by rw [← q]; exact hi) e
    · rw [q] at hi; injection hi with hi; omega
  · exact (c3.then h5).grown hg fun i e => .inr (h.out.block i e)
end
/-- a block of a map: what lies in cells isn't there -/
def MapB (w : World) (k : Nat) : Prop := ∃ es clock, w.heap[k]? = some (.map es clock)
theorem mapB_no {w : World} {p : Addr} {v : Value} (h : w.cell? p = some v) : ¬ MapB w p.block := by
  rintro ⟨es, cl, hb⟩
  simp [World.cell?, hb] at h
theorem Chg.cellM {w W : World} {p : Addr} {v : Value} (h : Chg (MapB w) w W) (hc : w.cell? p = some v) : W.cell? p = some v := by
  rw [World.cell?_of_block (w := w) (h.block _ (World.block_lt_of_cell? _ _ hc) (mapB_no hc))]
  exact hc
theorem Chg.rdM {w W : World} {A : Option Addr} {n : Nat} {xs : List Value} (h : Chg (MapB w) w W) (hr : Rd w A n xs) : Rd W A n xs :=
  h.rd hr fun a ha h0 => by
    obtain ⟨a', e, _, hc⟩ := hr.at_ h0
    rw [ha] at e
    obtain rfl := Option.some.inj e
    have := mapB_no hc
    rwa [add_block] at this
set_option maxHeartbeats 3200000 in
theorem end_any (f : Nat) (lb : Array Value) (p : Se → Bool) (eg : ∀ args w, (callFunc f args).run Try.prog w = .ok (.enter f args) w) (F : Nat → Prop) (g : Nat) (t : List Se) (w : World) (hT : SeAt F w g t) (hk : SOk t)
    (hp : ∀ x ∈ t, ∀ W : World, Chg (MapB w) w W → Calls Try.prog f (#[.agg #[.int .i64 x.client, .int .i64 x.span, .int .i64 x.seen]] ++ lb) W fun e w' => e = .returned (.bool (p x)) ∧ Below W.heap.size W w') :
    Calls Try.prog 30 #[.pointer (some ⟨g, 0, none⟩), .func (.func f) #[] lb] w (SGone F g (seLeft p t) (seGone p t) w) := by
  have HCL := Lib.hid (clientsE_any g t F w hT hk)
  have HKK := Lib.hid hk
  have hn := hk.len
  obtain ⟨b, hkg, hFg, hFb, hm⟩ := hT
  have hne : g ≠ b := by
    rintro rfl
    obtain ⟨es, cl, hx⟩ := hm.isMap
    rw [show w.heap[g]? = _ from hkg] at hx
    cases hx
  have HKG := Lib.hid hkg
  have HMM := Lib.hid hm
  have HFF := Lib.hid (show F g ∧ F b from ⟨hFg, hFb⟩)
  have HOLD := Lib.hid (show b < w.heap.size ∧ g < w.heap.size ∧ g ≠ b from ⟨hm.lt, hkg.lt, hne⟩)
  have HP := Lib.hid (fun x (hx : x ∈ t) (W : World) (hW : Chg (fun i => i = b) w W) => hp x hx W (hW.more fun i e => .inl (e ▸ hm.isMap)))
  obtain ⟨n, hnn⟩ : ∃ n, n = t.length := ⟨_, rfl⟩
  have HNX := Lib.hid hnn
  have hn8 : n ≤ 8 := by omega
  clear hk hn hkg hFg hFb hm hne hp
  go_enter Try.func30, Try.ntmps30
  go_wp2_with fail
  refine HCL.out.mono ?_
  rintro e w2 ⟨PA, pc, rfl, hop, hb2⟩
  have HST := Lib.hid (show Ending1 p t g b PA pc w w2 0 none 0 0 from ⟨HKG.out.kept hb2, by have := HMM.out.below hb2; simpa [seCur] using this, OwnI.nil_ _ _, hop, (fun _ h => nomatch h), Chg.of_below _ hb2, HOLD.out⟩)
  rw [← hnn]
  clear hop hb2 hnn HCL
  go_wp2_with fail
  go_loopw [5, 11] (fun s i wr => ∃ (A : Option Addr) (m c k : Nat), k ≤ n ∧ s = .slice A m c ∧ i = .int .i64 k ∧ Ending1 p t g b PA pc w wr k A m c) (fun _ i _ => n - (intOf i).toNat)
  case atStart => exact ⟨none, 0, 0, 0, Nat.zero_le _, rfl, rfl, HST.out⟩
  case round =>
    obtain ⟨A, m, c, k, hkn, rfl, rfl, hst⟩ := hrel
    by_cases hlt : k < n
    · have hkx : k < t.length := by have := HNX.out; omega
      have hx : t[k]? = some t[k] := List.getElem?_eq_getElem hkx
      have hmem : t[k] ∈ t := List.getElem_mem hkx
      have hcur : t[k] ∈ seCur p t k := by rw [seCur_at hx]; exact List.mem_append_right _ (List.mem_cons_self ..)
      have hwf := seRight_wf (HKK.out.2 _ hmem)
      have hlk := hst.mp.look_yes (HKK.out.1.sublist seCur_sub) false hcur hwf
      obtain ⟨a, hPA, hab, hac⟩ := hst.cls.rd.at_ hkx
      subst hPA
      have hac2 : wr.cell? (a.add k) = some (.int .i64 t[k].client) := by rw [hac]; simp [List.getD, hkx, iv]
      have HC := Lib.hid (HP.out _ hmem wr hst.chg)
      have HX := Lib.hid hx
      generalize t[k] = x at *
      have hlk : (Instr.lookup 59 (.map (some b)) (.int .i64 x.client) false).run Try.prog wr = .ok (.agg #[.int .i64 x.client, .int .i64 x.span, .int .i64 x.seen]) wr := hlk
      have g0 : wr.cell? ⟨g, 0, none⟩ = some (.map (some b)) := hst.bk.at_ rfl
      have hm8 : m ≤ 8 := by have := hst.out.len; have := seGone_le (p := p) (t := t) (k := k); have := HNX.out; omega
      have HT := Lib.hid hst
      have HLT := Lib.hid hlt
      have HWF := Lib.hid hwf
      have y1 : (0 : Int) ≤ (k : Int) := by omega
      have y2 : (k : Int) < (n : Int) := by omega
      clear hst hlt hwf hab hac hmem hcur hx hkx
      cases hpx : p x with
      | true =>
        have HPX := Lib.hid hpx
        rw [hpx] at HC
        clear hpx
        go_wp2_with (first
          | (go_at_fn f; refine HC.out.mono ?_; rintro e w3 ⟨rfl, hb3⟩; have HT3 := Lib.hid (HT.out.below hb3); have g3 : w3.cell? ⟨g, 0, none⟩ = some (.map (some b)) := HT3.out.bk.at_ rfl; have hz3 := HT3.out.chg.size; clear hb3)
          | (at_delete; refine wpList_drop_se rfl _ _ rfl b _ x.client rfl rfl HT3.out.mp HWF.out ?_; intro w4 HM4 HG4; have hz4 := HG4.out.size)
          | (at_builtin; refine wpList_app_iv2 rfl _ _ rfl w.heap.size A m c _ rfl (World.ownsRow.alloc (World.ownsRow.kept HT3.out.out HG4.out (by
                cases hq : (Value.slice A m c).ownBlock with
                | none => exact .inl rfl
                | some i => exact .inr fun e => by injection e with e; have := HT3.out.out.block i hq; have := HOLD.out; omega)) _) ⟨w4.heap.size, 0, none⟩ x.client rfl ((Bk.new w4 3 [.int .i64 x.client]).at_ rfl) (by omega) (by simp; omega) ?_; intro A5 c5 w5 HO5 HG5 HR5))
        go_roundw
        case rel => exact ⟨A5, m + 1, c5, k + 1, HLT.out, rfl, by go_num, HT3.out.gone HKK.out.1 HX.out HPX.out HM4.out HG4.out ((Below.refl _ _).alloc (Nat.le_refl _) _) HO5.out HG5.out HR5.out⟩
        case measure => have := HLT.out; simp [intOf]; omega
      | false =>
        have HPX := Lib.hid hpx
        rw [hpx] at HC
        clear hpx
        go_wp2_with (first
          | (go_at_fn f; refine HC.out.mono ?_; rintro e w3 ⟨rfl, hb3⟩; have HT3 := Lib.hid (HT.out.below hb3); clear hb3))
        go_roundw
        case rel => exact ⟨A, m, c, k + 1, HLT.out, rfl, by go_num, HT3.out.keep HX.out HPX.out⟩
        case measure => have := HLT.out; simp [intOf]; omega
    · have HT := Lib.hid hst
      have hE := HNX.out
      clear hst
      go_wp2_with fail
      go_ret
      have hst := HT.out
      have ho := hst.out
      have hcur := hst.mp
      rw [seCur_end (by omega)] at hcur
      rw [List.take_of_length_le (by omega)] at ho
      have hlm := ho.len
      subst hlm
      refine ⟨A, c, fun i => i = g ∨ i = b, rfl, ho, fun i hi hf => ?_, ⟨b, hst.bk, .inl rfl, .inr rfl, hcur⟩, fun i hi => .inl (hi.elim (fun e => e ▸ HFF.out.1) fun e => e ▸ HFF.out.2), hst.chg.more fun i e => .inl (e ▸ HFF.out.2)⟩
      have h1 := ho.block i hi
      have h2 := HOLD.out
      rcases hf with e | e <;> omega
theorem sgone_back {F : Nat → Prop} {g : Nat} {t' : List Se} {cs : List Int} {w W : World} {e : Ending} {w' : World} (hb : Below w.heap.size w W) (h : SGone F g t' cs W e w') : SGone F g t' cs w e w' := by
  obtain ⟨A, c, F', he, ho, hn, h1, h2, h3⟩ := h
  have hs := hb.size
  refine ⟨A, c, F', he, ⟨ho.1, ?_⟩, hn, h1, fun k hk => (h2 k hk).imp id fun q => by omega, h3.behind hb⟩
  rcases ho.2 with q | ⟨g', cap, cur, e1, hg, rest⟩
  · exact .inl q
  · exact .inr ⟨g', cap, cur, e1, by omega, rest⟩
set_option maxHeartbeats 1600000 in
theorem endsE_any (x : Se) (now : Int) (B : Nat) (w : World) (hx : seRight x = true) (hB : w.cell? ⟨B, 0, none⟩ = some (.int .i64 now)) (hl : B < w.heap.size) :
    Calls Try.prog 31 #[.agg #[.int .i64 x.client, .int .i64 x.span, .int .i64 x.seen], .pointer (some ⟨B, 0, none⟩)] w fun e w' => e = .returned (.bool (seEnds now x)) ∧ Below w.heap.size w w' := by
  have hb := of_decide_eq_true (show decide _ = true from hx)
  have b1 : 1 ≤ x.span := by omega
  have b2 : x.span ≤ 1000000 := by omega
  have b3 : 0 ≤ x.seen := by omega
  have b4 : x.seen < 1099511627776 := by omega
  clear hb hx
  go_enter Try.func31, Try.ntmps31
  go_wp2_with fail
  go_ret
  exact ⟨rfl, (Below.refl w.heap.size w).alloc (Nat.le_refl _) _⟩
set_option maxHeartbeats 1600000 in
theorem insE_any (x : Se) (CA : Option Addr) (cn cc : Nat) (cs : List Int) (B : Nat) (w : World) (hr : Rd w CA cn (cs.map (.int .i64 ·))) (hn : cn ≤ maxLen) (hB : w.cell? ⟨B, 0, none⟩ = some (.slice CA cn cc)) (hl : B < w.heap.size) :
    Calls Try.prog 32 #[.agg #[.int .i64 x.client, .int .i64 x.span, .int .i64 x.seen], .pointer (some ⟨B, 0, none⟩)] w fun e w' => e = .returned (.bool (seIn cs x)) ∧ Below w.heap.size w w' := by
  have HB := Lib.hid ((Below.refl w.heap.size w).alloc (Nat.le_refl _) (.cells #[.int .i64 x.client, .int .i64 x.span, .int .i64 x.seen] 36))
  have HC := Lib.hid (hasIntE_any CA cn cc cs x.client _ (hr.below HB.out) hn)
  clear hr hn
  go_enter Try.func32, Try.ntmps32
  go_wp2_with fail
  refine HC.out.mono ?_
  rintro e w2 ⟨rfl, rfl⟩
  go_wp2_with fail
  go_ret
  exact ⟨rfl, HB.out⟩
set_option maxHeartbeats 1600000 in
theorem expireE_any (F : Nat → Prop) (g : Nat) (t : List Se) (now : Int) (w : World) (hT : SeAt F w g t) (hk : SOk t) :
    Calls Try.prog 18 #[.pointer (some ⟨g, 0, none⟩), .int .i64 now] w (SGone F g (seLeft (seEnds now) t) (seGone (seEnds now) t) w) := by
  have hb := (Below.refl w.heap.size w).alloc (Nat.le_refl _) (.cells #[.int .i64 now] 3)
  have hkb := Bk.new w 3 [.int .i64 now]
  have HE := Lib.hid (end_any 31 #[.pointer (some ⟨w.heap.size, 0, none⟩)] (seEnds now) (enters_of Try.func31 (by kernel_rfl) rfl) F g t (w.alloc (.cells #[.int .i64 now] 3)) (hT.below hb) hk fun x hx W hW =>
    endsE_any x now w.heap.size W (hk.2 x hx) (hW.cellM (hkb.at_ rfl)) (Nat.lt_of_lt_of_le (by simp) hW.size))
  have HB := Lib.hid hb
  clear hT hk hb hkb
  go_enter Try.func18, Try.ntmps18
  go_wp2_with fail
  refine HE.out.mono ?_
  intro e w2 h2
  have H2 := Lib.hid (sgone_back HB.out h2)
  obtain ⟨A, c, F', rfl, -⟩ := h2
  go_wp2_with fail
  go_ret
  exact H2.out
set_option maxHeartbeats 1600000 in
theorem closeE_any (F : Nat → Prop) (g : Nat) (t : List Se) (CA : Option Addr) (cn cc : Nat) (cs : List Int) (w : World) (hT : SeAt F w g t) (hk : SOk t) (hr : Rd w CA cn (cs.map (.int .i64 ·))) (hn : cn ≤ maxLen) :
    Calls Try.prog 21 #[.pointer (some ⟨g, 0, none⟩), .slice CA cn cc] w (SGone F g (seLeft (seIn cs) t) (seGone (seIn cs) t) w) := by
  have hb := (Below.refl w.heap.size w).alloc (Nat.le_refl _) (.cells #[.slice CA cn cc] 37)
  have hkb := Bk.new w 37 [.slice CA cn cc]
  have HE := Lib.hid (end_any 32 #[.pointer (some ⟨w.heap.size, 0, none⟩)] (seIn cs) (enters_of Try.func32 (by kernel_rfl) rfl) F g t (w.alloc (.cells #[.slice CA cn cc] 37)) (hT.below hb) hk fun x hx W hW =>
    insE_any x CA cn cc cs w.heap.size W (hW.rdM (hr.below hb)) hn (hW.cellM (hkb.at_ rfl)) (Nat.lt_of_lt_of_le (by simp) hW.size))
  have HB := Lib.hid hb
  clear hT hk hb hkb hr
  go_enter Try.func21, Try.ntmps21
  go_wp2_with fail
  refine HE.out.mono ?_
  intro e w2 h2
  have H2 := Lib.hid (sgone_back HB.out h2)
  obtain ⟨A, c, F', rfl, -⟩ := h2
  go_wp2_with fail
  go_ret
  exact H2.out
end Go.Proofs.Ytfbdmemjojjgnaa
