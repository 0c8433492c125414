/-
  The program's checks of lists: tags, letters, what is proven. Walks; no statement.
-/
import Derived.Test.YtmgmmbgjmnklkaaMsgChk1
namespace Go.Proofs.Ytmgmmbgjmnklkaa
set_option maxRecDepth 100000
open Go.RowKit
open Pk
set_option linter.unusedVariables false

theorem all_take_next {α : Type} {f : α → Bool} {ls : List α} {k : Nat} {x : α} (h : (ls.take k).all f = true) (hx : ls[k]? = some x) (hf : f x = true) : (ls.take (k + 1)).all f = true := by
  obtain ⟨hk, rfl⟩ := List.getElem?_eq_some_iff.1 hx
  rw [List.take_succ_eq_append_getElem hk, List.all_append, h]
  simp [hf]
theorem all_not {α : Type} {f : α → Bool} {ls : List α} {k : Nat} {x : α} (hx : ls[k]? = some x) (hf : f x = false) : ls.all f = false := by
  obtain ⟨hk, rfl⟩ := List.getElem?_eq_some_iff.1 hx
  rw [List.all_eq_false]
  exact ⟨ls[k], List.getElem_mem hk, by simp [hf]⟩

theorem tagShort_any (A : Option Addr) (n c : Nat) (w : World) : Calls Try.prog 96 #[.slice A n c] w (Chk0 (decide (n ≤ 16)) 81 w) := by
  by_cases h : n ≤ 16
  · have h1 : (n : Int) ≤ 16 := by omega
    have hd : decide (n ≤ 16) = true := by simp [h]
    rw [hd]
    clear hd
    go_enter Try.func96, Try.ntmps96
    go_wp2_with fail
    refine (need_yes _).mono ?_
    rintro e w' ⟨rfl, rfl⟩
    go_wp2_with fail
    go_end0
    exact ⟨rfl, .inl ⟨rfl, rfl⟩⟩
  · have h1 : ¬ (n : Int) ≤ 16 := by omega
    have hd : decide (n ≤ 16) = false := by simp; omega
    rw [hd]
    clear hd
    go_enter Try.func96, Try.ntmps96
    go_wp2_with fail
    refine (need_no _).mono ?_
    rintro e w' ⟨rfl, rfl⟩
    exact ⟨rfl, rfl, .inr ⟨rfl, rfl⟩⟩

theorem checkTags_any (A : Option Addr) (c : Nat) (ts : List (List UInt8)) (F : Nat → Prop) (w : World) (h : RdS RB F w A c ts) :
    Calls Try.prog 95 #[.slice A ts.length c, .int .i64 64, .func (.func 96) #[] #[]] w (Chk0 (tagsOk ts) 81 w) := by
  by_cases hn : ts.length ≤ 64
  · have h1 : (ts.length : Int) ≤ 64 := by omega
    have HR := Lib.hid h
    have HT := Lib.hid (show tagsOk ts = ts.all fun t => decide (t.length ≤ 16) by simp [tagsOk, hn])
    clear h
    go_enter Try.func95, Try.ntmps95
    go_wp2_with (go_at_call 86; refine (need_yes _).mono ?_; rintro e w' ⟨rfl, rfl⟩)
    go_loopw [15] (fun i wr => ∃ k : Nat, k ≤ ts.length ∧ i = .int .i64 k ∧ wr = w ∧ (ts.take k).all (fun t => decide (t.length ≤ 16)) = true) (fun i _ => ts.length - (intOf i).toNat)
    case atStart => exact ⟨0, by omega, rfl, rfl, by simp⟩
    case round =>
      obtain ⟨k, hk, rfl, rfl, ha⟩ := hrel
      have HA := Lib.hid ha
      clear ha
      by_cases hlt : k < ts.length
      · obtain ⟨l, hl⟩ : ∃ l, ts[k]? = some l := ⟨_, List.getElem?_eq_getElem hlt⟩
        obtain ⟨x, B, d, rfl, hb, hc, _⟩ := HR.out.b1 hl
        have HL := Lib.hid hl
        have y1 : (0 : Int) ≤ (k : Int) := by omega
        have y2 : (k : Int) < (ts.length : Int) := by omega
        clear hl
        go_wp2_with (go_at_call 96; refine (tagShort_any _ _ _ _).mono ?_; rintro e w' ⟨rfl, ⟨hd, rfl⟩ | ⟨hd, rfl⟩⟩)
        · go_roundw
          case rel => exact ⟨k + 1, by omega, by go_num, trivial, all_take_next HA.out HL.out hd⟩
          case measure => simp [intOf]; omega
        · exact ⟨rfl, rfl, .inr ⟨by rw [HT.out]; exact all_not HL.out hd, rfl⟩⟩
      · have e : ts.take k = ts := List.take_of_length_le (by omega)
        have HA := Lib.hid (show ts.all (fun t => decide (t.length ≤ 16)) = true by have := HA.out; rwa [e] at this)
        clear e
        go_wp2
        go_end0
        exact ⟨rfl, .inl ⟨by rw [HT.out]; exact HA.out, rfl⟩⟩
  · have h1 : ¬ (ts.length : Int) ≤ 64 := by omega
    have HT := Lib.hid (show tagsOk ts = false by simp [tagsOk]; omega)
    clear h
    go_enter Try.func95, Try.ntmps95
    go_wp2_with (go_at_call 86; refine (need_no _).mono ?_; rintro e w' ⟨rfl, rfl⟩)
    exact ⟨rfl, rfl, .inr ⟨HT.out, rfl⟩⟩

theorem checkLetter_any (l : Lt) (A : Option Addr) (c : Nat) (B : Option Addr) (d : Nat) (F : Nat → Prop) (w : World) (h : RdS RB F w B d l.tags) :
    Calls Try.prog 54 #[.agg #[.int .i64 l.f1, .int .i64 l.f2, .int .i64 l.r, .slice A l.body.length c, .slice B l.tags.length d]] w (Chk l.ok 81 w) := by
  obtain ⟨f1, f2, r, body, tags⟩ := l
  have HB := Lib.hid ((Below.refl w.heap.size w).alloc (Nat.le_refl _) (.cells #[.int .i64 f1, .int .i64 f2, .int .i64 r, .slice A body.length c, .slice B tags.length d] 46))
  have HR := Lib.hid (h.below HB.out)
  have HE := Lib.hid (show Lt.ok ⟨f1, f2, r, body, tags⟩ = (roleB f1 && (roleB r && (decide (0 ≤ f2 ∧ f2 < 64) && (decide ((body.length : Int) ≤ 65536) && tagsOk tags)))) by
    rw [show decide ((body.length : Int) ≤ 65536) = decide (body.length ≤ 65536) from decide_eq_decide.2 (by omega)]; rfl)
  clear h
  dsimp only at HR ⊢
  go_enter Try.func54, Try.ntmps54
  go_wp2_with (first
    | (go_at_call 93; refine (checkRole_any _ _).mono ?_; rintro e w' ⟨rfl, ⟨hb, rfl⟩ | ⟨hb, rfl⟩⟩)
    | (go_at_call 94; refine (below_any _ _ _).mono ?_; rintro e w' ⟨rfl, rfl⟩)
    | (go_at_call 86; refine (need_any _ _).mono ?_; rintro e w' ⟨rfl, ⟨hb, rfl⟩ | ⟨hb, rfl⟩⟩)
    | (go_at_call 95; refine (checkTags_any _ _ _ _ _ HR.out).mono ?_; rintro e w' ⟨rfl, ⟨hb, rfl⟩ | ⟨hb, rfl⟩⟩))
  all_goals first
    | contradiction
    | (go_end0; exact Chk.yes (by rw [HE.out]; simp at *; simp [*] <;> (intros; omega)) HB.out)
    | exact ⟨rfl, Chk.no (by rw [HE.out]; simp at *; simp [*] <;> (intros; omega)) HB.out⟩
end Go.Proofs.Ytmgmmbgjmnklkaa
