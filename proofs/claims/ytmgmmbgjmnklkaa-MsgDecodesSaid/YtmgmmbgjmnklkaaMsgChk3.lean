/-
  The program's checks of letters and of what is proven. Walks; no statement.
-/
import Derived.Test.YtmgmmbgjmnklkaaMsgChk2
namespace Go.Proofs.Ytmgmmbgjmnklkaa
set_option maxRecDepth 100000
open Go.RowKit
open Pk
set_option linter.unusedVariables false

theorem checkListL_any (A : Option Addr) (c : Nat) (ls : List Lt) (F : Nat → Prop) (w : World) (h : RdS RLt F w A c ls) :
    Calls Try.prog 124 #[.slice A ls.length c, .int .i64 64, .func (.func 54) #[] #[]] w (Chk (ltsOk ls) 81 w) := by
  by_cases hn : ls.length ≤ 64
  · have h1 : (ls.length : Int) ≤ 64 := by omega
    have HR := Lib.hid h
    have HT := Lib.hid (show ltsOk ls = ls.all Lt.ok by simp [ltsOk, hn])
    clear h
    go_enter Try.func124, Try.ntmps124
    go_wp2_with (go_at_call 86; refine (need_yes _).mono ?_; rintro e w' ⟨rfl, rfl⟩)
    go_loopw [15] (fun i wr => ∃ k : Nat, k ≤ ls.length ∧ i = .int .i64 k ∧ Below w.heap.size w wr ∧ (ls.take k).all Lt.ok = true) (fun i _ => ls.length - (intOf i).toNat)
    case atStart => exact ⟨0, by omega, rfl, Below.refl _ _, by simp⟩
    case round =>
      obtain ⟨k, hk, rfl, hbw, ha⟩ := hrel
      have HA := Lib.hid ha
      have HBW := Lib.hid hbw
      clear ha
      by_cases hlt : k < ls.length
      · obtain ⟨l, hl⟩ : ∃ l, ls[k]? = some l := ⟨_, List.getElem?_eq_getElem hlt⟩
        obtain ⟨x, B, d, C, q, rfl, hb, c0, c1, c2, c3, c4, hr⟩ := (HR.out.below hbw).lt5 hl
        have HL := Lib.hid hl
        have b1 := hbw.alloc hbw.size (.cells #[.int .i64 l.f1, .int .i64 l.f2, .int .i64 l.r, .slice B l.body.length d, .slice C l.tags.length q] 46)
        have HB1 := Lib.hid b1
        have HC := Lib.hid (checkLetter_any l B d C q F _ ((hr.2).below ((Below.refl wr.heap.size wr).alloc (Nat.le_refl _) (.cells #[.int .i64 l.f1, .int .i64 l.f2, .int .i64 l.r, .slice B l.body.length d, .slice C l.tags.length q] 46))))
        have y1 : (0 : Int) ≤ (k : Int) := by omega
        have y2 : (k : Int) < (ls.length : Int) := by omega
        clear hl b1 hbw hr
        go_wp2_with (go_at_call 54; refine HC.out.mono ?_; rintro e w' ⟨hb2, ⟨hd, rfl⟩ | ⟨hd, rfl⟩⟩)
        · go_roundw
          case rel => exact ⟨k + 1, by omega, by go_num, below_next HB1.out hb2 HB1.out.size, all_take_next HA.out HL.out hd⟩
          case measure => simp [intOf]; omega
        · exact ⟨rfl, Chk.no (by rw [HT.out]; exact all_not HL.out hd) (below_next HB1.out hb2 HB1.out.size)⟩
      · have e : ls.take k = ls := List.take_of_length_le (by omega)
        have HA := Lib.hid (show ls.all Lt.ok = true by have := HA.out; rwa [e] at this)
        clear e
        go_wp2
        go_end0
        exact Chk.yes (by rw [HT.out]; exact HA.out) HBW.out
  · have h1 : ¬ (ls.length : Int) ≤ 64 := by omega
    have HT := Lib.hid (show ltsOk ls = false by simp [ltsOk]; omega)
    clear h
    go_enter Try.func124, Try.ntmps124
    go_wp2_with (go_at_call 86; refine (need_no _).mono ?_; rintro e w' ⟨rfl, rfl⟩)
    exact ⟨rfl, Chk.no HT.out (Below.refl _ _)⟩

theorem checkLetters_any (A : Option Addr) (c : Nat) (ls : List Lt) (F : Nat → Prop) (w : World) (h : RdS RLt F w A c ls) :
    Calls Try.prog 106 #[.slice A ls.length c] w (Chk (ltsOk ls) 81 w) := by
  have H := Lib.hid (checkListL_any A c ls F w h)
  clear h
  go_enter Try.func106, Try.ntmps106
  go_wp2_with fail
  refine H.out.mono ?_
  rintro e w' ⟨hb, ⟨hd, rfl⟩ | ⟨hd, rfl⟩⟩
  · go_wp2_with fail
    go_end0
    exact Chk.yes hd hb
  · exact ⟨rfl, Chk.no hd hb⟩

theorem checkProven_any (p : Pv) (A : Option Addr) (c : Nat) (B : Option Addr) (d : Nat) (F : Nat → Prop) (w : World) (h : RdS RLt F w B d p.votes) :
    Calls Try.prog 108 #[.agg #[.int .i64 p.seq, .int .i64 p.view, .int .i64 p.e.c, .int .i64 p.e.s, .int .i64 p.e.t, .slice A p.e.dig.length c, .slice B p.votes.length d]] w (Chk p.ok 81 w) := by
  obtain ⟨seq, view, ⟨x, y, z, dig⟩, votes⟩ := p
  have HB := Lib.hid ((Below.refl w.heap.size w).alloc (Nat.le_refl _) (.cells #[.int .i64 seq, .int .i64 view, .int .i64 x, .int .i64 y, .int .i64 z, .slice A dig.length c, .slice B votes.length d] 62))
  have HR := Lib.hid (h.below HB.out)
  have HE := Lib.hid (show Pv.ok ⟨seq, view, ⟨x, y, z, dig⟩, votes⟩ = (wideB seq && (wideB view && (En.ok ⟨x, y, z, dig⟩ && ltsOk votes))) from rfl)
  have HC := Lib.hid (fun W => checkEntry_any x y z A dig.length c dig W rfl)
  clear h
  dsimp only at HR ⊢
  generalize En.ok ⟨x, y, z, dig⟩ = eo at *
  generalize Pv.ok ⟨seq, view, ⟨x, y, z, dig⟩, votes⟩ = po at *
  go_enter Try.func108, Try.ntmps108
  go_wp2_with (first
    | (go_at_call 94; refine (below_any _ _ _).mono ?_; rintro e w' ⟨rfl, rfl⟩)
    | (go_at_call 86; refine (need_any _ _).mono ?_; rintro e w' ⟨rfl, ⟨hb, rfl⟩ | ⟨hb, rfl⟩⟩)
    | fail)
  all_goals first
    | contradiction
    | exact ⟨rfl, Chk.no (by rw [HE.out]; simp [wideB] at *; first | (intros; omega) | (simp [*]; done)) HB.out⟩
    | skip
  refine (HC.out _).mono ?_
  rintro e w2 ⟨hb2, ⟨hd2, rfl⟩ | ⟨hd2, rfl⟩⟩
  · have HW2 := Lib.hid (below_next HB.out hb2 HB.out.size)
    have HR2 := Lib.hid (HR.out.below hb2)
    have k2 := (Bk.new w 62 [.int .i64 seq, .int .i64 view, .int .i64 x, .int .i64 y, .int .i64 z, .slice A dig.length c, .slice B votes.length d]).kept hb2
    have c6 := k2.at_ (i := 6) rfl
    clear hb2 k2
    go_wp2_with fail
    refine (checkLetters_any _ _ _ _ _ HR2.out).mono ?_
    rintro e w3 ⟨hb3, ⟨hd3, rfl⟩ | ⟨hd3, rfl⟩⟩
    · go_wp2_with fail
      go_end0
      exact Chk.yes (by rw [HE.out]; simp [wideB] at *; simp [*]) (below_next HW2.out hb3 HW2.out.size)
    · exact ⟨rfl, Chk.no (by rw [HE.out]; simp [wideB] at *; simp [*]) (below_next HW2.out hb3 HW2.out.size)⟩
  · exact ⟨rfl, Chk.no (by rw [HE.out]; simp [wideB] at *; simp [*]) (below_next HB.out hb2 HB.out.size)⟩

theorem checkListP_any (A : Option Addr) (c : Nat) (ls : List Pv) (F : Nat → Prop) (w : World) (h : RdS RPv F w A c ls) :
    Calls Try.prog 107 #[.slice A ls.length c, .int .i64 8, .func (.func 108) #[] #[]] w (Chk (pvsOk ls) 81 w) := by
  by_cases hn : ls.length ≤ 8
  · have h1 : (ls.length : Int) ≤ 8 := by omega
    have HR := Lib.hid h
    have HT := Lib.hid (show pvsOk ls = ls.all Pv.ok by simp [pvsOk, hn])
    clear h
    go_enter Try.func107, Try.ntmps107
    go_wp2_with (go_at_call 86; refine (need_yes _).mono ?_; rintro e w' ⟨rfl, rfl⟩)
    go_loopw [15] (fun i wr => ∃ k : Nat, k ≤ ls.length ∧ i = .int .i64 k ∧ Below w.heap.size w wr ∧ (ls.take k).all Pv.ok = true) (fun i _ => ls.length - (intOf i).toNat)
    case atStart => exact ⟨0, by omega, rfl, Below.refl _ _, by simp⟩
    case round =>
      obtain ⟨k, hk, rfl, hbw, ha⟩ := hrel
      have HA := Lib.hid ha
      have HBW := Lib.hid hbw
      clear ha
      by_cases hlt : k < ls.length
      · obtain ⟨l, hl⟩ : ∃ l, ls[k]? = some l := ⟨_, List.getElem?_eq_getElem hlt⟩
        obtain ⟨x, B, d, C, q, rfl, hb, c0, c1, c2, c3, c4, c5, c6, _, hr⟩ := (HR.out.below hbw).pv7 hl
        have HL := Lib.hid hl
        have b1 := hbw.alloc hbw.size (.cells #[.int .i64 l.seq, .int .i64 l.view, .int .i64 l.e.c, .int .i64 l.e.s, .int .i64 l.e.t, .slice B l.e.dig.length d, .slice C l.votes.length q] 62)
        have HB1 := Lib.hid b1
        have HC := Lib.hid (checkProven_any l B d C q F _ (hr.below ((Below.refl wr.heap.size wr).alloc (Nat.le_refl _) (.cells #[.int .i64 l.seq, .int .i64 l.view, .int .i64 l.e.c, .int .i64 l.e.s, .int .i64 l.e.t, .slice B l.e.dig.length d, .slice C l.votes.length q] 62))))
        have y1 : (0 : Int) ≤ (k : Int) := by omega
        have y2 : (k : Int) < (ls.length : Int) := by omega
        clear hl b1 hbw hr
        go_wp2_with (go_at_call 108; refine HC.out.mono ?_; rintro e w' ⟨hb2, ⟨hd, rfl⟩ | ⟨hd, rfl⟩⟩)
        · go_roundw
          case rel => exact ⟨k + 1, by omega, by go_num, below_next HB1.out hb2 HB1.out.size, all_take_next HA.out HL.out hd⟩
          case measure => simp [intOf]; omega
        · exact ⟨rfl, Chk.no (by rw [HT.out]; exact all_not HL.out hd) (below_next HB1.out hb2 HB1.out.size)⟩
      · have e : ls.take k = ls := List.take_of_length_le (by omega)
        have HA := Lib.hid (show ls.all Pv.ok = true by have := HA.out; rwa [e] at this)
        clear e
        go_wp2
        go_end0
        exact Chk.yes (by rw [HT.out]; exact HA.out) HBW.out
  · have h1 : ¬ (ls.length : Int) ≤ 8 := by omega
    have HT := Lib.hid (show pvsOk ls = false by simp [pvsOk]; omega)
    clear h
    go_enter Try.func107, Try.ntmps107
    go_wp2_with (go_at_call 86; refine (need_no _).mono ?_; rintro e w' ⟨rfl, rfl⟩)
    exact ⟨rfl, Chk.no HT.out (Below.refl _ _)⟩

theorem maxData_any (k : Int) (w : World) : Calls Try.prog 105 #[.int .i64 k] w fun e w' => e = .returned (.int .i64 (maxDataN k : Int)) ∧ w = w' := by
  by_cases h1 : k = 1
  · subst h1
    go_enter Try.func105, Try.ntmps105
    go_wp2
    go_ret
    exact ⟨rfl, rfl⟩
  · have h2 : (k == 1) = false := by rw [beq_eq_false_iff_ne]; exact h1
    by_cases h8 : k = 8
    · subst h8
      go_enter Try.func105, Try.ntmps105
      go_wp2
      go_ret
      exact ⟨rfl, rfl⟩
    · have h9 : (k == 8) = false := by rw [beq_eq_false_iff_ne]; exact h8
      have hm := Lib.hid (show maxDataN k = 65536 by simp [maxDataN, h1, h8])
      go_enter Try.func105, Try.ntmps105
      go_wp2
      go_ret
      exact ⟨ret_int (by rw [hm.out]; rfl), rfl⟩
end Go.Proofs.Ytmgmmbgjmnklkaa
