import Derived.Test.YtfdmnnbcnaofgaaDoorMacLetter
namespace Go.Proofs.YtfdmnnbcnaofgaaDoor
open Go.RowKit
open Pk Sh
set_option linter.unusedVariables false

/-- is a letter's tag at an Id's number the right one? -/
def openN (s : List UInt8) (me f : Int × Int) (r : Int) (body : List UInt8) (tags : List (List UInt8)) : Bool :=
  decide (r = me.1 ∧ 0 ≤ me.2 ∧ me.2 < (tags.length : Int) ∧ tags.getD me.2.toNat [] = tagN s f me body)

theorem open_any (A B D : Option Addr) (n c m d p q : Nat) (s body : List UInt8) (me f : Int × Int) (r : Int) (tags : List (List UInt8)) (w : World) (h : Sl w A n c s) (hb : Sl w B m d body) (ht : RdRows w D p tags) (hT : Tab w) (hn : n ≤ 65536) (hm : m ≤ 65536) (hp : p ≤ maxLen) :
    Calls Tryd.prog 27 #[.slice A n c, .agg #[.int .i64 me.1, .int .i64 me.2], .agg #[.int .i64 f.1, .int .i64 f.2, .int .i64 r, .slice B m d, .slice D p q]] w (Tells (.bool (openN s me f r body tags)) w) := by
  unfold maxLen at hp
  have hpl := ht.1
  obtain ⟨m1, m2⟩ := me
  obtain ⟨f1, f2⟩ := f
  have b0 := ((Below.refl w.heap.size w).alloc (Nat.le_refl _) (.cells #[.int .i64 m1, .int .i64 m2] 28)).alloc (by simp) (.cells #[.int .i64 f1, .int .i64 f2, .int .i64 r, .slice B m d, .slice D p q] 37)
  have HB0 := Lib.hid b0
  clear b0
  by_cases hr : r = m1
  · subst hr
    by_cases h0 : m2 < 0
    · have HR := Lib.hid (show openN s (r, m2) (f1, f2) r body tags = false by unfold openN; rw [decide_eq_false_iff_not]; rintro ⟨_, e, _⟩; simp at e; omega)
      clear h hb ht
      go_enter Tryd.func27, Tryd.ntmps27
      go_wp2
      go_ret
      exact ⟨ret_bool HR.out.symm, HB0.out⟩
    · by_cases h1 : m2 < (p : Int)
      · obtain ⟨k, rfl⟩ : ∃ k : Nat, m2 = k := ⟨m2.toNat, by omega⟩
        have hk : k < p := by omega
        obtain ⟨a, E, d', rfl, hab, hc, hd1, hd2, hrr, _⟩ := (ht.below HB0.out).at_ hk
        have HOP := Lib.hid (show openN s (r, (k : Int)) (f1, f2) r body tags = decide (tags.getD k [] = tagN s (f1, f2) (r, (k : Int)) body) by
          unfold openN
          apply decide_eq_decide.2
          constructor
          · rintro ⟨_, _, _, e⟩; simpa using e
          · intro e; exact ⟨rfl, by simp, by show (k : Int) < _; omega, by simpa using e⟩)
        have HTL := Lib.hid (tagN_len s (f1, f2) (r, (k : Int)) body)
        have hz0 : ¬ ((k : Int) < 0) := by omega
        have HS := Lib.hid h
        have HBO := Lib.hid hb
        have HRR := Lib.hid hrr
        have HTS := Lib.hid ht
        have HT := Lib.hid hT
        clear hT
        have e1 : (0 : Int) ≤ (k : Int) := by omega
        have e2 : (k : Int) < (p : Int) := by omega
        have hgk : ¬ ((p : Int) ≤ (k : Int)) := by omega
        clear h hb ht hrr hpl hd1 hab
        generalize tags.getD k [] = t at *
        by_cases h16 : t.length = 16
        · rw [h16] at hc HRR
          go_enter Tryd.func27, Tryd.ntmps27
          go_wp2_with fail
          refine (tag_any A B n c m d s body (f1, f2) (r, (k : Int)) _ (HS.out.below HB0.out) (HBO.out.below HB0.out) (HT.out.kept HB0.out) hn hm).mono ?_
          rintro e w1 ⟨A1, n1, c1, rfl, ho1, hb1⟩
          have HW1 := Lib.hid (below_next HB0.out hb1 HB0.out.size)
          have HEQ := Lib.hid (equal_any E A1 16 d' n1 c1 t _ w1 (HRR.out.below hb1) ho1.rd)
          clear ho1 hb1
          go_wp2_with fail
          refine HEQ.out.mono ?_
          rintro e w2 ⟨rfl, rfl⟩
          go_wp2_with fail
          go_ret
          exact ⟨ret_bool HOP.out.symm, HW1.out⟩
        · have hb16 : (((t.length : Nat) : Int) == 16) = false := by rw [beq_eq_false_iff_ne]; omega
          have HR := Lib.hid (show openN s (r, (k : Int)) (f1, f2) r body tags = false by rw [HOP.out, decide_eq_false_iff_not]; intro e; exact h16 (by rw [e]; exact HTL.out))
          go_enter Tryd.func27, Tryd.ntmps27
          go_wp2
          go_ret
          exact ⟨ret_bool HR.out.symm, HB0.out⟩
      · have HR := Lib.hid (show openN s (r, m2) (f1, f2) r body tags = false by unfold openN; rw [decide_eq_false_iff_not]; rintro ⟨_, _, e, _⟩; simp at e; omega)
        have h1' : (p : Int) ≤ m2 := by omega
        clear h hb ht
        go_enter Tryd.func27, Tryd.ntmps27
        go_wp2
        go_ret
        exact ⟨ret_bool HR.out.symm, HB0.out⟩
  · have HR := Lib.hid (show openN s (m1, m2) (f1, f2) r body tags = false by unfold openN; rw [decide_eq_false_iff_not]; rintro ⟨e, _⟩; exact hr e)
    have hne : (r != m1) = true := by rw [bne_iff_ne]; exact hr
    clear h hb ht
    go_enter Tryd.func27, Tryd.ntmps27
    go_wp2
    go_ret
    exact ⟨ret_bool HR.out.symm, HB0.out⟩
end Go.Proofs.YtfdmnnbcnaofgaaDoor
