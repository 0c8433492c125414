/-
  The reference's copies of rows, entries and letters. Walks; no statement.
-/
import Derived.Test.YtmgmmbgjmnklkaaMsgTop2
namespace Go.Proofs.Ytmgmmbgjmnklkaa
set_option maxRecDepth 100000
open Go.RowKit
open Pk
set_option linter.unusedVariables false

/-- rows, a letter, what is proven, a message that may be copied: no slice is beyond what a memory holds -/
def rowsBig (ls : List (List UInt8)) : Prop := ls.length * 24 ≤ 140737488355328 ∧ ∀ l ∈ ls, l.length ≤ 140737488355328
def Lt.big (l : Lt) : Prop := l.body.length ≤ 140737488355328 ∧ rowsBig l.tags
def ltsBig (ls : List Lt) : Prop := ls.length * 72 ≤ 140737488355328 ∧ ∀ l ∈ ls, l.big
def Pv.big (p : Pv) : Prop := p.e.dig.length ≤ 140737488355328 ∧ ltsBig p.votes
def pvsBig (ls : List Pv) : Prop := ls.length * 88 ≤ 140737488355328 ∧ ∀ l ∈ ls, l.big
structure Mg.big (m : Mg) : Prop where
  e : m.e.dig.length ≤ 140737488355328
  g : m.dig.length ≤ 140737488355328
  d : m.data.length ≤ 140737488355328
  p : ltsBig m.proof
  v : pvsBig m.proven
set_option maxHeartbeats 800000 in
theorem copyRows_big (A : Option Addr) (n c : Nat) (ls : List (List UInt8)) (w : World) (h : RdRows w A n ls) (ht : rowsBig ls) :
    Calls Try.prog 56 #[.slice A n c] w (FreshR ls w) := by
  obtain ⟨i0, hi, hz0, hz1, hz2⟩ := info_parts info_bytes
  have hx : ls.length = n := h.1
  have hn : n * 24 ≤ 140737488355328 := by rw [← hx]; exact ht.1
  have HE := Lib.hid (OwnRs.empty w)
  have HT := Lib.hid ht
  clear ht
  go_enter Try.func56, Try.ntmps56
  go_wp2
  go_loopw [3, 4] (fun s i wr => ∃ (A' : Option Addr) (n' c' k : Nat), k ≤ n ∧ s = .slice A' n' c' ∧ i = .int .i64 k ∧ OwnRs wr w.heap.size A' n' c' (ls.take k) ∧ Below w.heap.size w wr) (fun _ i _ => n - (intOf i).toNat)
  case atStart => exact ⟨_, 0, 0, 0, by omega, rfl, rfl, HE.out, (Below.refl _ _).alloc (Nat.le_refl _) _⟩
  case round =>
    obtain ⟨A', n', c', k, hk, rfl, rfl, ho, hb⟩ := hrel
    by_cases hlt : k < n
    · obtain ⟨a, B, d, rfl, hba, hc, hd1, hd2, hr, _⟩ := (h.below hb).at_ hlt
      have hsn := take_snocD ls [] k (by omega)
      have hmem := getD_mem (d := ([] : List UInt8)) (show k < ls.length by omega)
      have hbig := HT.out.2 _ hmem
      have hkn : n' = k := by have := ho.1; rw [List.length_take] at this; omega
      subst hkn
      generalize ls.getD n' [] = p at *
      have hpn : p.length ≤ 140737488355328 := hbig
      have HC := Lib.hid (copyBytes_big B p.length d p wr hr hpn)
      have HSN := Lib.hid hsn
      have HX := Lib.hid hx
      have hs := hb.size
      have e1 : (0 : Int) ≤ (n' : Int) := by omega
      have e2 : (n' : Int) < (n : Int) := by omega
      clear hba hd1 hd2 hr hsn hmem hpn hx hbig
      go_wp2_with fail
      refine HC.out.mono ?_
      rintro e w1 ⟨A1, n1, c1, rfl, ho1, hb1⟩
      have hn1 : p.length = n1 := OwnB.len ho1
      subst hn1
      have hs1 := hb1.size
      obtain ⟨hl0, us, hou, hin⟩ := ho.below hb1
      have hl : ((ls.take n').length = n') := hl0
      have HL := Lib.hid hl
      have HIN := Lib.hid hin
      clear hl hl0 hin
      go_wp2_with (at_builtin
                   refine wpList_append_rd _ rfl _ _ 44 rfl w.heap.size 22 i0 _ 24 Try.underlying44 hi hz0 hz1 hz2 rfl A' n' c' us rfl (World.ownsRow.alloc hou _) (some ⟨w1.heap.size, 0, none⟩) 1 1 [.slice A1 p.length c1] rfl
                     (Rd.new w1 [Value.slice A1 p.length c1] 22) (by simp [Value.oneCell']) (by simp only [maxLen]; omega) (by omega) (by simp; omega) ?_
                   intro A2 c2 w2 hown2 hg2 hrow2)
      go_roundw
      case rel =>
        refine ⟨A2, n' + 1, c2, n' + 1, by omega, rfl, by go_num, ?_, ?_⟩
        · rw [HSN.out]
          exact OwnRs.push (w := w1.alloc (.cells #[.slice A1 p.length c1] 22)) HL.out (World.ownsRow.alloc hou _) (fun k u l hu hl => by
            obtain ⟨A3, c3, e3, h3⟩ := HIN.out k u l hu hl
            exact ⟨A3, c3, e3, h3.alloc _⟩) ((own_base ho1 hs).alloc _) hg2 hown2
        · have b1 := hb.trans (hb1.mono hs)
          have b2 := b1.alloc b1.size (.cells #[.slice A1 p.length c1] 22)
          exact b2.grown hg2 b2.size (OwnRs.block ho)
      case measure => simp [intOf]; omega
    · have e : ls.take k = ls := List.take_of_length_le (by omega)
      rw [e] at ho
      clear e hx
      go_wp2
      go_ret
      exact ⟨A', n', c', rfl, ho, hb⟩

/-- an entry in new memory -/
def FreshEn (e : En) (w : World) (en : Ending) (w' : World) : Prop := Below w.heap.size w w' ∧ ∃ A c, en = .returned (.agg #[.int .i64 e.c, .int .i64 e.s, .int .i64 e.t, .slice A e.dig.length c]) ∧ BF (From w.heap.size) w' A c e.dig
theorem copyEntry_any (e : En) (A : Option Addr) (c : Nat) (F : Nat → Prop) (w : World) (h : BF F w A c e.dig) (hn : e.dig.length ≤ 140737488355328) :
    Calls Try.prog 25 #[.agg #[.int .i64 e.c, .int .i64 e.s, .int .i64 e.t, .slice A e.dig.length c]] w (FreshEn e w) := by
  have hB := ((Below.refl w.heap.size w).alloc (Nat.le_refl _) (.cells #[.int .i64 e.c, .int .i64 e.s, .int .i64 e.t, .slice A e.dig.length c] 24)).alloc (by simp) (.cells #[.int .i64 0, .int .i64 0, .int .i64 0, .slice none 0 0] 24)
  have HB := Lib.hid hB
  have HK := Lib.hid ((Bk.new w 24 [.int .i64 e.c, .int .i64 e.s, .int .i64 e.t, .slice A e.dig.length c]).alloc (.cells #[.int .i64 0, .int .i64 0, .int .i64 0, .slice none 0 0] 24))
  have hr := Bk.new (w.alloc (.cells #[.int .i64 e.c, .int .i64 e.s, .int .i64 e.t, .slice A e.dig.length c] 24)) 24 [.int .i64 0, .int .i64 0, .int .i64 0, .slice none 0 0]
  rw [show (w.alloc (.cells #[.int .i64 e.c, .int .i64 e.s, .int .i64 e.t, .slice A e.dig.length c] 24)).heap.size = w.heap.size + 1 by simp] at hr
  have HZ := Lib.hid hr
  have HC := Lib.hid (copyBytes_big A e.dig.length c e.dig _ (h.below hB).rd hn)
  clear h hB hn hr
  go_enter Try.func25, Try.ntmps25
  go_wp2_with fail
  refine HC.out.mono ?_
  rintro en w1 ⟨A1, n1, c1, rfl, ho1, hb1⟩
  obtain rfl : e.dig.length = n1 := ho1.len
  have HB1 := Lib.hid (below_next HB.out hb1 HB.out.size)
  have HO := Lib.hid (BF.own ho1)
  have HK1 := Lib.hid (HK.out.kept hb1)
  have HZ1 := Lib.hid (HZ.out.kept hb1)
  have k0 := HK1.out.at_ (i := 0) rfl
  have j0 := HZ1.out.at_ (i := 0) rfl
  have z0 := HZ1.out.frozen 0
  have k1 := HK1.out.at_ (i := 1) rfl
  have j1 := HZ1.out.at_ (i := 1) rfl
  have z1 := HZ1.out.frozen 1
  have k2 := HK1.out.at_ (i := 2) rfl
  have j2 := HZ1.out.at_ (i := 2) rfl
  have z2 := HZ1.out.frozen 2
  have k3 := HK1.out.at_ (i := 3) rfl
  have j3 := HZ1.out.at_ (i := 3) rfl
  have z3 := HZ1.out.frozen 3
  have f3 := HK1.out.frozen 3
  clear hb1 ho1
  go_wp2_with fail
  have kk := ((((HZ1.out.far (p := ⟨w.heap.size, 3, none⟩) (by show w.heap.size + 1 ≠ w.heap.size; omega) (.slice A1 e.dig.length c1)).set 0 (.int .i64 e.c)).set 1 (.int .i64 e.s)).set 2 (.int .i64 e.t)).set 3 (.slice A1 e.dig.length c1)
  have g1 := grown_set (grown_refl w1 (some w.heap.size)) 3 (.slice A1 e.dig.length c1)
  have g2 := grown_set (grown_set (grown_set (grown_set (grown_refl (w1.setCell ⟨w.heap.size, 3, none⟩ (.slice A1 e.dig.length c1)) (some (w.heap.size + 1))) 0 (.int .i64 e.c)) 1 (.int .i64 e.s)) 2 (.int .i64 e.t)) 3 (.slice A1 e.dig.length c1)
  have hb := (HB1.out.grown g1 HB1.out.size (fun g hg => by cases hg; omega)).grown g2 (by have := HB1.out.size; simpa using this) (fun g hg => by cases hg; omega)
  have ho := ((HO.out.keep (F' := From (w.heap.size + 2)) ⟨Nat.le_refl _, fun _ _ _ => rfl⟩ (fun b hb _ => by unfold From at *; simp at hb; omega)).set g1 (fun b hb => by unfold From at hb; omega)).set g2 (fun b hb => by unfold From at hb; omega)
  refine bodyPost_ret_by (results_row1 rfl _ _ (w.heap.size + 1) 24 _ _ rfl kk Try.underlying24 rfl info1_E) rfl ?_
  exact ⟨hb, A1, c1, rfl, BF.from_ ho (by omega)⟩
/-- a letter in new memory -/
def FreshLt (l : Lt) (w : World) (en : Ending) (w' : World) : Prop := Below w.heap.size w w' ∧ ∃ A c B d, en = .returned (.agg #[.int .i64 l.f1, .int .i64 l.f2, .int .i64 l.r, .slice A l.body.length c, .slice B l.tags.length d]) ∧ LtR (From w.heap.size) w' l A c B d
theorem copyLetterM_any (l : Lt) (A : Option Addr) (c : Nat) (B : Option Addr) (d : Nat) (F : Nat → Prop) (w : World) (h : LtR F w l A c B d) (hn : l.big) :
    Calls Try.prog 22 #[.agg #[.int .i64 l.f1, .int .i64 l.f2, .int .i64 l.r, .slice A l.body.length c, .slice B l.tags.length d]] w (FreshLt l w) := by
  have hB := ((Below.refl w.heap.size w).alloc (Nat.le_refl _) (.cells #[.int .i64 l.f1, .int .i64 l.f2, .int .i64 l.r, .slice A l.body.length c, .slice B l.tags.length d] 46)).alloc (by simp) (.cells #[.int .i64 0, .int .i64 0, .int .i64 0, .slice none 0 0, .slice none 0 0] 46)
  have HB := Lib.hid hB
  have HK := Lib.hid ((Bk.new w 46 [.int .i64 l.f1, .int .i64 l.f2, .int .i64 l.r, .slice A l.body.length c, .slice B l.tags.length d]).alloc (.cells #[.int .i64 0, .int .i64 0, .int .i64 0, .slice none 0 0, .slice none 0 0] 46))
  have hr := Bk.new (w.alloc (.cells #[.int .i64 l.f1, .int .i64 l.f2, .int .i64 l.r, .slice A l.body.length c, .slice B l.tags.length d] 46)) 46 [.int .i64 0, .int .i64 0, .int .i64 0, .slice none 0 0, .slice none 0 0]
  rw [show (w.alloc (.cells #[.int .i64 l.f1, .int .i64 l.f2, .int .i64 l.r, .slice A l.body.length c, .slice B l.tags.length d] 46)).heap.size = w.heap.size + 1 by simp] at hr
  have HZ := Lib.hid hr
  have HC := Lib.hid (copyBytes_big A l.body.length c l.body _ (h.below hB).1.rd hn.1)
  have HT := Lib.hid ((h.keep (F' := fun b => b < w.heap.size) ⟨Nat.le_refl _, fun _ _ _ => rfl⟩ fun b _ hb => hb).below hB).2
  have HN := Lib.hid hn.2
  clear h hB hn hr
  go_enter Try.func22, Try.ntmps22
  go_wp2_with fail
  refine HC.out.mono ?_
  rintro en w1 ⟨A1, n1, c1, rfl, ho1, hb1⟩
  obtain rfl : l.body.length = n1 := ho1.len
  have HB1 := Lib.hid (below_next HB.out hb1 HB.out.size)
  have hk1 := HK.out.kept hb1
  have hz1 := HZ.out.kept hb1
  have g1 := grown_set (grown_refl w1 (some w.heap.size)) 3 (.slice A1 l.body.length c1)
  have HO := Lib.hid (((BF.own ho1).keep (F' := From (w.heap.size + 2)) ⟨Nat.le_refl _, fun _ _ _ => rfl⟩ (fun b hb _ => by unfold From at *; simp at hb; omega)).set g1 (fun b hb => by unfold From at hb; omega))
  have HT1 := Lib.hid ((HT.out.below hb1).keep (F' := fun b => b < w.heap.size) (Kp.of_grown g1 fun b hb e => by injection e with e; omega) fun _ h _ => h)
  have HB2 := Lib.hid (HB1.out.grown g1 HB1.out.size (fun g hg => by cases hg; omega))
  have HK2 := Lib.hid (hk1.set 3 (.slice A1 l.body.length c1))
  have HZ2 := Lib.hid (hz1.far (p := ⟨w.heap.size, 3, none⟩) (by show w.heap.size + 1 ≠ w.heap.size; omega) (.slice A1 l.body.length c1))
  have f3 := hk1.frozen 3
  have c3 := hk1.at_ (i := 3) rfl
  have c4 := hk1.at_ (i := 4) rfl
  clear hb1 ho1 hk1 hz1 g1
  go_wp2_with fail
  refine (copyRows_big B l.tags.length d l.tags _ HT1.out.rows HN.out).mono ?_
  rintro en w2 ⟨B2, m2, d2, rfl, ho2, hb2⟩
  obtain rfl : l.tags.length = m2 := ho2.1
  have HB3 := Lib.hid (below_next HB2.out hb2 HB2.out.size)
  have HK3 := Lib.hid (HK2.out.kept hb2)
  have HZ3 := Lib.hid (HZ2.out.kept hb2)
  have HO3 := Lib.hid (HO.out.below hb2)
  have HR3 := Lib.hid ((RdS.of_own ho2).from_ (B' := w.heap.size + 2) (by have := HZ2.out.lt; simp at this; simp; omega))
  have k0 := HK3.out.at_ (i := 0) rfl
  have j0 := HZ3.out.at_ (i := 0) rfl
  have z0 := HZ3.out.frozen 0
  have k1 := HK3.out.at_ (i := 1) rfl
  have j1 := HZ3.out.at_ (i := 1) rfl
  have z1 := HZ3.out.frozen 1
  have k2 := HK3.out.at_ (i := 2) rfl
  have j2 := HZ3.out.at_ (i := 2) rfl
  have z2 := HZ3.out.frozen 2
  have k3 := HK3.out.at_ (i := 3) rfl
  have j3 := HZ3.out.at_ (i := 3) rfl
  have z3 := HZ3.out.frozen 3
  have k4 := HK3.out.at_ (i := 4) rfl
  have j4 := HZ3.out.at_ (i := 4) rfl
  have z4 := HZ3.out.frozen 4
  have f4 := HK3.out.frozen 4
  clear hb2 ho2 f3 c3 c4
  go_wp2_with fail
  have kk := (((((HZ3.out.far (p := ⟨w.heap.size, 4, none⟩) (by show w.heap.size + 1 ≠ w.heap.size; omega) (.slice B2 l.tags.length d2)).set 0 (.int .i64 l.f1)).set 1 (.int .i64 l.f2)).set 2 (.int .i64 l.r)).set 3 (.slice A1 l.body.length c1)).set 4 (.slice B2 l.tags.length d2)
  have g1 := grown_set (grown_refl w2 (some w.heap.size)) 4 (.slice B2 l.tags.length d2)
  have g2 := grown_set (grown_set (grown_set (grown_set (grown_set (grown_refl (w2.setCell ⟨w.heap.size, 4, none⟩ (.slice B2 l.tags.length d2)) (some (w.heap.size + 1))) 0 (.int .i64 l.f1)) 1 (.int .i64 l.f2)) 2 (.int .i64 l.r)) 3 (.slice A1 l.body.length c1)) 4 (.slice B2 l.tags.length d2)
  have hb := (HB3.out.grown g1 HB3.out.size (fun g hg => by cases hg; omega)).grown g2 (by have := HB3.out.size; simpa using this) (fun g hg => by cases hg; omega)
  have ho := (HO3.out.set g1 (fun b hb => by unfold From at hb; omega)).set g2 (fun b hb => by unfold From at hb; omega)
  have hr := (HR3.out.keep (F' := From (w.heap.size + 2)) (Kp.of_grown g1 fun b hb e => by injection e with e; unfold From at hb; omega) fun _ h _ => h).keep (F' := From (w.heap.size + 2)) (Kp.of_grown g2 fun b hb e => by injection e with e; unfold From at hb; omega) fun _ h _ => h
  refine bodyPost_ret_by (results_row1 rfl _ _ (w.heap.size + 1) 46 _ _ rfl kk Try.underlying46 rfl info1_L) rfl ?_
  exact ⟨hb, A1, c1, B2, d2, rfl, BF.from_ ho (by omega), hr.from_ (by omega)⟩

theorem copyLetters_any (A : Option Addr) (c : Nat) (ls : List Lt) (F : Nat → Prop) (w : World) (h : RdS RLt F w A c ls) (hn : ltsBig ls) :
    Calls Try.prog 34 #[.slice A ls.length c] w (FreshS RLt ls w) := by
  obtain ⟨i0, hi, hz0, hz1, hz2⟩ := info_parts info_letterA
  have HR := Lib.hid h
  have HN := Lib.hid hn
  have hlen : ls.length * 72 ≤ 140737488355328 := hn.1
  have HE := Lib.hid (OwnS.empty RLt 46 (From w.heap.size) w)
  clear h hn
  go_enter Try.func34, Try.ntmps34
  go_wp2_with fail
  go_loopw [3, 4] (fun s i wr => ∃ (A' : Option Addr) (n' c' : Nat), n' ≤ ls.length ∧ s = .slice A' n' c' ∧ i = .int .i64 n' ∧ OwnS RLt 46 (From w.heap.size) w.heap.size wr A' n' c' (ls.take n') ∧ Below w.heap.size w wr) (fun _ i _ => ls.length - (intOf i).toNat)
  case atStart => exact ⟨_, 0, 0, by omega, rfl, rfl, HE.out, (Below.refl _ _).alloc (Nat.le_refl _) _⟩
  case round =>
    obtain ⟨A', n', c', hk, rfl, rfl, ho, hb⟩ := hrel
    have HB := Lib.hid hb
    by_cases hlt : n' < ls.length
    · obtain ⟨l, hl⟩ : ∃ l, ls[n']? = some l := ⟨_, List.getElem?_eq_getElem hlt⟩
      obtain ⟨x, B, d, C, q, rfl, hxb, c0, c1, c2, c3, c4, hr⟩ := (HR.out.below hb).lt5 hl
      have hmem : l ∈ ls := by obtain ⟨hh, rfl⟩ := List.getElem?_eq_some_iff.1 hl; exact List.getElem_mem hh
      have HSN := Lib.hid (show ls.take (n' + 1) = ls.take n' ++ [l] by obtain ⟨hh, rfl⟩ := List.getElem?_eq_some_iff.1 hl; exact List.take_succ_eq_append_getElem hh)
      have HO := Lib.hid ho
      have HC := Lib.hid (copyLetterM_any l B d C q F wr hr (HN.out.2 l hmem))
      have y1 : (0 : Int) ≤ (n' : Int) := by omega
      have y2 : (n' : Int) < (ls.length : Int) := by omega
      clear hl hb hr ho hmem hxb
      go_wp2_with fail
      refine HC.out.mono ?_
      rintro en w3 ⟨hb3, A3, c3, B3, d3, rfl, hr3⟩
      have HB3 := Lib.hid (below_next HB.out hb3 HB.out.size)
      have hsw := HB3.out.size
      have HBG := Lib.hid (fun g hg => HO.out.block g hg)
      have HBL := Lib.hid (fun g hg => HO.out.block_lt g hg)
      have HWR := Lib.hid HB.out.size
      obtain ⟨hl0, css, hcl, hou, hin⟩ := HO.out.below hb3
      have HL0 := Lib.hid hl0
      have HCL := Lib.hid hcl
      have HIN := Lib.hid hin
      have HRY := Lib.hid (show RLt.rd (From wr.heap.size) w3 [.int .i64 l.f1, .int .i64 l.f2, .int .i64 l.r, .slice A3 l.body.length c3, .slice B3 l.tags.length d3] l from ⟨A3, c3, B3, d3, rfl, hr3⟩)
      clear hb3 hl0 hcl hin hr3 c0 c1 c2 c4
      go_wp2_with (at_builtin
                   refine wpList_append_own_at _ rfl _ _ 25 rfl w.heap.size 46 i0 _ 5 72 Try.underlying25 hi hz0 hz1 hz2 rfl (by omega) (.slice A' n' c') n' css.flatten rfl (World.ownsRow.alloc hou _) ⟨w3.heap.size, 0, none⟩ 1 1 [.int .i64 l.f1, .int .i64 l.f2, .int .i64 l.r, .slice A3 l.body.length c3, .slice B3 l.tags.length d3] rfl rfl
                     (news_alloc w3 [.int .i64 l.f1, .int .i64 l.f2, .int .i64 l.r, .slice A3 l.body.length c3, .slice B3 l.tags.length d3] 46) (by simp [Value.oneCell']) (by simp only [maxLen]; omega) (by omega) (by simp; omega) ?_
                   intro v4 w4 hown4 hg4 hnil4 hrow4)
      obtain ⟨A4, c4, rfl⟩ := form_of hown4
      have hB4 := (Below.refl w3.heap.size w3).alloc (Nat.le_refl _) (.cells #[.int .i64 l.f1, .int .i64 l.f2, .int .i64 l.r, .slice A3 l.body.length c3, .slice B3 l.tags.length d3] 46)
      have HX := Lib.hid (show OwnS RLt 46 (From w.heap.size) w.heap.size w4 A4 (n' + 1) c4 (ls.take n' ++ [l]) from
        OwnS.push (R := RLt) (G := From w.heap.size) (F := From wr.heap.size) (w := w3.alloc (.cells #[.int .i64 l.f1, .int .i64 l.f2, .int .i64 l.r, .slice A3 l.body.length c3, .slice B3 l.tags.length d3] 46)) HL0.out HCL.out (fun j y cs hy hc => RLt.below (HIN.out j y cs hy hc) hB4) (RLt.below HRY.out hB4)
          (fun b hb _ => ⟨Nat.le_trans HWR.out hb, fun e => by have := HBL.out b e.symm; unfold From at hb; omega⟩) hg4 hown4 hrow4)
      have HB4 := Lib.hid ((HB3.out.alloc HB3.out.size (.cells #[.int .i64 l.f1, .int .i64 l.f2, .int .i64 l.r, .slice A3 l.body.length c3, .slice B3 l.tags.length d3] 46)).grown hg4 (by have := HB3.out.size; simp; omega) (fun g hg => HBG.out g hg))
      clear hown4 hg4 hrow4 hB4 hou hnil4
      go_roundw
      case rel => exact ⟨A4, n' + 1, c4, by omega, rfl, by go_num, by rw [HSN.out]; exact HX.out, HB4.out⟩
      case measure => simp [intOf]; omega
    · obtain rfl : n' = ls.length := by omega
      rw [List.take_length] at ho
      have HX := Lib.hid (ho.rds (fun b hb => hb))
      clear hb ho
      go_wp2_with fail
      go_ret
      exact ⟨A', c', rfl, HX.out, HB.out⟩
end Go.Proofs.Ytmgmmbgjmnklkaa
