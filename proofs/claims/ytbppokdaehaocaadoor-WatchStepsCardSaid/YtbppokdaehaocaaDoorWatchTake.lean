/-
  Watches: those that are wanted are taken out; Fire, Drop. Walks; no statement.
-/
import Derived.Test.YtbppokdaehaocaaDoorWatchAdd
import Derived.Test.YtbppokdaehaocaaDoorWatchHas
namespace Go.Proofs.YtbppokdaehaocaaDoor
set_option maxRecDepth 100000
open Go.RowKit
set_option linter.unusedVariables false

/-- watches that were taken out, and the table without them -/
def TakeP (F : Nat → Prop) (g : Nat) (t' xs : List Wt) (w : World) (e : Ending) (w' : World) : Prop :=
  ∃ A c F', e = .returned (.slice A xs.length c) ∧ OwnW w' w.heap.size A xs.length c xs ∧ TbAt F' w' g t' ∧ (∀ k, F' k → F k ∨ w.heap.size ≤ k) ∧ (∀ b, (Value.slice A xs.length c).ownBlock = some b → ¬ F' b) ∧ Chg F w w'
theorem filter_next {p : Wt → Bool} {t : List Wt} {k : Nat} {x : Wt} (h : t[k]? = some x) : (t.take (k + 1)).filter p = (t.take k).filter p ++ if p x = true then [x] else [] := by
  obtain ⟨hk, e⟩ := List.getElem?_eq_some_iff.1 h
  rw [take_snoc t k hk, e, List.filter_append]
  by_cases q : p x = true <;> simp [q]
/-- how the loop stands: the first k are parted in two rows of the call's own -/
def Parted (p : Wt → Bool) (t : List Wt) (w wr : World) (k : Nat) (A1 : Option Addr) (n1 c1 : Nat) (A2 : Option Addr) (n2 c2 : Nat) : Prop :=
  OwnW wr w.heap.size A1 n1 c1 ((t.take k).filter p) ∧ OwnW wr w.heap.size A2 n2 c2 ((t.take k).filter fun x => !p x) ∧ (∀ b, (Value.slice A1 n1 c1).ownBlock = some b → (Value.slice A2 n2 c2).ownBlock ≠ some b) ∧ Below w.heap.size w wr
theorem Parted.lens {p : Wt → Bool} {t : List Wt} {w wr : World} {k n1 c1 n2 c2 : Nat} {A1 A2 : Option Addr} (h : Parted p t w wr k A1 n1 c1 A2 n2 c2) : n1 ≤ t.length ∧ n2 ≤ t.length := by
  have h1 := h.1.len
  have h2 := h.2.1.len
  have e1 := List.length_filter_le p (t.take k)
  have e2 := List.length_filter_le (fun x => !p x) (t.take k)
  rw [List.length_take] at e1 e2
  omega
/-- one more is taken -/
theorem Parted.one {p : Wt → Bool} {t : List Wt} {w wr w2 w4 : World} {k n1 c1 n2 c2 c4 : Nat} {A1 A2 A4 : Option Addr} {x : Wt} (h : Parted p t w wr k A1 n1 c1 A2 n2 c2) (hx : t[k]? = some x) (hp : p x = true) (hb : Below wr.heap.size wr w2)
    (ho : OwnW w4 w.heap.size A4 (n1 + 1) c4 ((t.take k).filter p ++ [x])) (hg : w2.grownBy w4 (Value.slice A1 n1 c1).ownBlock) (hr : (Value.slice A4 (n1 + 1) c4).ownBlock = (Value.slice A1 n1 c1).ownBlock ∨ (Value.slice A4 (n1 + 1) c4).ownBlock = some w2.heap.size) :
    Parted p t w w4 (k + 1) A4 (n1 + 1) c4 A2 n2 c2 := by
  refine ⟨by rw [filter_next hx, if_pos hp]; exact ho, ?_, fun b hb4 e => ?_, (h.2.2.2.trans (hb.mono h.2.2.2.size)).grown hg (Nat.le_trans h.2.2.2.size hb.size) (fun b e => h.1.block b e)⟩
  · rw [filter_next hx, if_neg (by simp [hp]), List.append_nil]
    refine World.ownsRow.kept (h.2.1.below hb) hg ?_
    cases hq : (Value.slice A2 n2 c2).ownBlock with
    | none => exact .inl rfl
    | some b => exact .inr fun e => h.2.2.1 b e.symm hq
  · have hlt := h.2.1.lt b e
    have := hb.size
    rcases hr with q | q
    · exact h.2.2.1 b (by rw [← q]; exact hb4) e
    · rw [q] at hb4; injection hb4 with hb4; omega
/-- one more is left -/
theorem Parted.two {p : Wt → Bool} {t : List Wt} {w wr w2 w4 : World} {k n1 c1 n2 c2 c4 : Nat} {A1 A2 A4 : Option Addr} {x : Wt} (h : Parted p t w wr k A1 n1 c1 A2 n2 c2) (hx : t[k]? = some x) (hp : p x = false) (hb : Below wr.heap.size wr w2)
    (ho : OwnW w4 w.heap.size A4 (n2 + 1) c4 ((t.take k).filter (fun x => !p x) ++ [x])) (hg : w2.grownBy w4 (Value.slice A2 n2 c2).ownBlock) (hr : (Value.slice A4 (n2 + 1) c4).ownBlock = (Value.slice A2 n2 c2).ownBlock ∨ (Value.slice A4 (n2 + 1) c4).ownBlock = some w2.heap.size) :
    Parted p t w w4 (k + 1) A1 n1 c1 A4 (n2 + 1) c4 := by
  refine ⟨?_, by rw [filter_next hx, if_pos (by simp [hp])]; exact ho, fun b hb1 e => ?_, (h.2.2.2.trans (hb.mono h.2.2.2.size)).grown hg (Nat.le_trans h.2.2.2.size hb.size) (fun b e => h.2.1.block b e)⟩
  · rw [filter_next hx, if_neg (by simp [hp]), List.append_nil]
    refine World.ownsRow.kept (h.1.below hb) hg ?_
    cases hq : (Value.slice A1 n1 c1).ownBlock with
    | none => exact .inl rfl
    | some b => exact .inr fun e => h.2.2.1 b hq e.symm
  · have hlt := h.1.lt b hb1
    have := hb.size
    rcases hr with q | q
    · exact h.2.2.1 b hb1 (by rw [← q]; exact e)
    · rw [q] at e; injection e with e; omega
set_option maxHeartbeats 3200000 in
theorem take_any (f : Nat) (lb : Array Value) (p : Wt → Bool) (eg : ∀ args w, (callFunc f args).run Tryd.prog w = .ok (.enter f args) w) (F : Nat → Prop) (g : Nat) (t : List Wt) (w : World) (hT : TbAt F w g t) (hn : t.length ≤ 1000)
    (hp : ∀ (x : Wt) (W : World), Below w.heap.size w W → Calls Tryd.prog f (#[.agg #[.int .i64 x.client, .int .i64 x.kind, .string ⟨x.path.toArray⟩]] ++ lb) W fun e w' => e = .returned (.bool (p x)) ∧ Below W.heap.size W w') :
    Calls Tryd.prog 38 #[.pointer (some ⟨g, 0, none⟩), .func (.func f) #[] lb] w (TakeP F g (t.filter fun x => !p x) (t.filter p) w) := by
  obtain ⟨A, n, c, hq, hFg, ho, hrow⟩ := hT
  have hl := ho.len
  have q0 := hq.at_ (i := 0) rfl
  have HO := Lib.hid ho
  have HL := Lib.hid hl
  have HQ := Lib.hid hq
  have HF := Lib.hid hFg
  have HP := Lib.hid hp
  have hn1 : n ≤ 1000 := by omega
  have HN := Lib.hid hn
  clear ho hl hq hFg hrow hp hn
  go_enter Tryd.func38, Tryd.ntmps38
  go_wp2_with fail
  go_loopw [5, 6, 14] (fun s u i wr => ∃ (A1 : Option Addr) (n1 c1 : Nat) (A2 : Option Addr) (n2 c2 k : Nat), k ≤ n ∧ s = .slice A1 n1 c1 ∧ u = .slice A2 n2 c2 ∧ i = .int .i64 k ∧ Parted p t w wr k A1 n1 c1 A2 n2 c2) (fun _ _ i _ => n - (intOf i).toNat)
  case atStart => exact ⟨none, 0, 0, none, 0, 0, 0, by omega, rfl, rfl, rfl, OwnW.nil_ _ _, OwnW.nil_ _ _, (fun _ hb => nomatch hb), Below.refl _ _⟩
  case round =>
    obtain ⟨A1, n1, c1, A2, n2, c2, k, hk, rfl, rfl, rfl, hpt⟩ := hrel
    have hls := hpt.lens
    by_cases hlt : k < n
    · have hkx : k < t.length := by have := HL.out; omega
      have hx : t[k]? = some t[k] := List.getElem?_eq_getElem hkx
      obtain ⟨g', rfl, hg', d0, d1, d2⟩ := (HO.out.below hpt.2.2.2).at_ hx
      have HX := Lib.hid hx
      generalize t[k] = x at *
      have HPT := Lib.hid hpt
      have HBA := Lib.hid ((Below.refl wr.heap.size wr).alloc (Nat.le_refl _) (.cells #[.int .i64 x.client, .int .i64 x.kind, .string ⟨x.path.toArray⟩] 31))
      have HKA := Lib.hid (show Bk (wr.alloc (.cells #[.int .i64 x.client, .int .i64 x.kind, .string ⟨x.path.toArray⟩] 31)) wr.heap.size 31 [.int .i64 x.client, .int .i64 x.kind, .string ⟨x.path.toArray⟩] from Bk.new wr 31 (wtC x))
      have HC := Lib.hid (HP.out x (wr.alloc (.cells #[.int .i64 x.client, .int .i64 x.kind, .string ⟨x.path.toArray⟩] 31)) (hpt.2.2.2.alloc hpt.2.2.2.size _))
      have HLT := Lib.hid hlt
      have HLS := Lib.hid hls
      have hm1 : n1 ≤ 1000 := by have := HN.out; omega
      have hm2 : n2 ≤ 1000 := by have := HN.out; omega
      have y1 : (0 : Int) ≤ (k : Int) := by omega
      have y2 : (k : Int) < (n : Int) := by omega
      have hsz := hpt.2.2.2.size
      clear hpt hls hx hkx hlt
      cases hpx : p x with
      | true =>
        have HPX := Lib.hid hpx
        rw [hpx] at HC
        clear hpx
        go_wp2_with (first
          | (go_at_fn f; refine HC.out.mono ?_; rintro e w2 ⟨rfl, hb2⟩; obtain ⟨e0, e1, e2⟩ := (HKA.out.kept hb2).three; have HB2 := Lib.hid (HBA.out.trans (hb2.mono HBA.out.size)); have hz2 := HB2.out.size; clear hb2)
          | (at_builtin; refine wpList_app_wt rfl _ _ rfl w.heap.size A1 n1 c1 _ rfl ((HPT.out.1.below HB2.out).alloc _) ⟨w2.heap.size, 0, none⟩ x rfl (news_wt w2 x) (by omega) (by simp; omega) ?_; intro A4 c4 w4 HO4 HG4 HR4))
        go_roundw
        case rel => exact ⟨A4, n1 + 1, c4, A2, n2, c2, k + 1, HLT.out, rfl, rfl, by go_num, HPT.out.one HX.out HPX.out (HB2.out.alloc HB2.out.size _) HO4.out HG4.out HR4.out⟩
        case measure => have := HLT.out; simp [intOf]; omega
      | false =>
        have HPX := Lib.hid hpx
        rw [hpx] at HC
        clear hpx
        go_wp2_with (first
          | (go_at_fn f; refine HC.out.mono ?_; rintro e w2 ⟨rfl, hb2⟩; obtain ⟨e0, e1, e2⟩ := (HKA.out.kept hb2).three; have HB2 := Lib.hid (HBA.out.trans (hb2.mono HBA.out.size)); have hz2 := HB2.out.size; clear hb2)
          | (at_builtin; refine wpList_app_wt rfl _ _ rfl w.heap.size A2 n2 c2 _ rfl ((HPT.out.2.1.below HB2.out).alloc _) ⟨w2.heap.size, 0, none⟩ x rfl (news_wt w2 x) (by omega) (by simp; omega) ?_; intro A4 c4 w4 HO4 HG4 HR4))
        go_roundw
        case rel => exact ⟨A1, n1, c1, A4, n2 + 1, c4, k + 1, HLT.out, rfl, rfl, by go_num, HPT.out.two HX.out HPX.out (HB2.out.alloc HB2.out.size _) HO4.out HG4.out HR4.out⟩
        case measure => have := HLT.out; simp [intOf]; omega
    · have HE := Lib.hid (show t.take k = t from List.take_of_length_le (by have := HL.out; omega))
      have hq2 := HQ.out.kept hpt.2.2.2
      have m0 := hq2.at_ (i := 0) rfl
      have z0 := hq2.frozen 0
      have HQ2 := Lib.hid hq2
      have HPT := Lib.hid hpt
      clear hpt hq2 hls q0
      go_wp2_with fail
      go_ret
      have hp2 := HPT.out
      rw [Parted, HE.out] at hp2
      obtain ⟨o1, o2, hap, hbw⟩ := hp2
      have hgl := HQ.out.lt
      have l1 := o1.len
      subst l1
      have g1 := grown_set (grown_refl wr (some g)) 0 (.slice A2 n2 c2)
      refine ⟨A1, c1, fun k => k = g ∨ (Value.slice A2 n2 c2).ownBlock = some k, rfl, World.ownsRow.kept o1 g1 ?_, ⟨A2, n2, c2, HQ2.out.set 0 _, .inl rfl, World.ownsRow.kept (o2.more (Nat.zero_le _)) g1 ?_, fun b hb => ⟨.inr hb, ?_⟩⟩, ?_, ?_, (Chg.of_below F hbw).set (.inl HF.out) 0 _⟩
      · exact .inr fun e => by have := o1.block g e; omega
      · exact .inr fun e => by have := o2.block g e; omega
      · have := o2.block b hb; omega
      · rintro k (rfl | e)
        · exact .inl HF.out
        · exact .inr (o2.block k e)
      · rintro b hb (rfl | e)
        · have := o1.block b hb; omega
        · exact hap b hb e
end Go.Proofs.YtbppokdaehaocaaDoor
