/-
  What Load asks of a node. Walks; no statement.
-/
import Derived.Test.YtgppclmofphlfaaGreatDoorMTreeE
namespace Go.Proofs.YtgppclmofphlfaaGreatDoor
set_option maxRecDepth 100000
open Go.RowKit
set_option linter.unusedVariables false

def lfRooty (l : Lf) : Bool := l.path == [47] && (l.own == -1 && l.born == 0)
def lfFit (l : Lf) : Bool := decide (-1 ≤ l.own) && (decide (0 ≤ min (min l.ver l.next) l.born) && decide (l.data.length ≤ 128))
theorem isRoot_any (l : Lf) (A : Option Addr) (c : Nat) (w : World) : Calls Tryz.prog 56 #[.agg (lfC l A c).toArray] w (Ans (.bool (lfRooty l)) w) := by
  show Calls _ _ #[.agg #[.string ⟨l.path.toArray⟩, .slice A l.data.length c, .int .i64 l.ver, .int .i64 l.own, .int .i64 l.next, .int .i64 l.born]] _ _
  unfold lfRooty
  cases b1 : (l.path == [47]) with
  | false =>
    go_enter Tryz.func56, Tryz.ntmps56
    go_wp2_with fail
    go_ret
    exact ⟨rfl, (Below.refl w.heap.size w).alloc (Nat.le_refl _) _⟩
  | true =>
    cases b2 : (l.own == -1) with
    | false =>
      go_enter Tryz.func56, Tryz.ntmps56
      go_wp2_with fail
      go_ret
      exact ⟨rfl, (Below.refl w.heap.size w).alloc (Nat.le_refl _) _⟩
    | true =>
      cases b3 : (l.born == 0) with
      | false =>
        go_enter Tryz.func56, Tryz.ntmps56
        go_wp2_with fail
        go_ret
        exact ⟨rfl, (Below.refl w.heap.size w).alloc (Nat.le_refl _) _⟩
      | true =>
        go_enter Tryz.func56, Tryz.ntmps56
        go_wp2_with fail
        go_ret
        exact ⟨rfl, (Below.refl w.heap.size w).alloc (Nat.le_refl _) _⟩
theorem run_min3 {P : Program} (w : World) (ts : Array TypeId) (t : TypeId) (x y z : Int) :
    (Builtin.min_ ts t #[.int .i64 x, .int .i64 y, .int .i64 z]).run P w = .ok (.int .i64 (min (min x y) z)) w := by
  have e : ∀ a b : Int, (if b < a then b else a) = min a b := fun a b => by
    rw [Int.min_def]
    split <;> split <;> omega
  simp [Builtin.min_, Builtin.min2, e, List.foldlM]
attribute [local go_sem high] run_min3
theorem isRight_any (l : Lf) (A : Option Addr) (c : Nat) (w : World) : Calls Tryz.prog 57 #[.agg (lfC l A c).toArray] w (Ans (.bool (lfFit l)) w) := by
  show Calls _ _ #[.agg #[.string ⟨l.path.toArray⟩, .slice A l.data.length c, .int .i64 l.ver, .int .i64 l.own, .int .i64 l.next, .int .i64 l.born]] _ _
  unfold lfFit
  by_cases h1 : -1 ≤ l.own
  · rw [decide_eq_true h1]
    by_cases h2 : 0 ≤ min (min l.ver l.next) l.born
    · rw [decide_eq_true h2]
      by_cases h3 : l.data.length ≤ 128
      · rw [decide_eq_true h3]
        have y3 : (l.data.length : Int) ≤ 128 := by omega
        go_enter Tryz.func57, Tryz.ntmps57
        go_wp2_with fail
        go_ret
        exact ⟨rfl, (Below.refl w.heap.size w).alloc (Nat.le_refl _) _⟩
      · rw [decide_eq_false h3]
        have y3 : ¬ (l.data.length : Int) ≤ 128 := by omega
        go_enter Tryz.func57, Tryz.ntmps57
        go_wp2_with fail
        go_ret
        exact ⟨rfl, (Below.refl w.heap.size w).alloc (Nat.le_refl _) _⟩
    · rw [decide_eq_false h2]
      go_enter Tryz.func57, Tryz.ntmps57
      go_wp2_with fail
      go_ret
      exact ⟨rfl, (Below.refl w.heap.size w).alloc (Nat.le_refl _) _⟩
  · rw [decide_eq_false h1]
    go_enter Tryz.func57, Tryz.ntmps57
    go_wp2_with fail
    go_ret
    exact ⟨rfl, (Below.refl w.heap.size w).alloc (Nat.le_refl _) _⟩
def tMay (p : List UInt8) (t : List Lf) : Bool := match parentP p with
  | none => false
  | some up => (tHold up t).1.isSome
theorem mayHold_any (g : Nat) (t : List Lf) (F : Nat → Prop) (p : List UInt8) (w : World) (hE : Env w) (hT : TreeAt F w g t) :
    Calls Tryz.prog 58 #[.pointer (some ⟨g, 0, none⟩), .string ⟨p.toArray⟩] w (Ans (.bool (tMay p t)) w) := by
  have HPA := Lib.hid (show Calls _ _ _ _ (Ans (optV (parentP p)) w) from parent_any ⟨p.toArray⟩ w hE)
  have HT := Lib.hid hT
  have HE := Lib.hid hE
  clear hT hE
  unfold tMay
  rcases opt_cases (parentP p) with ⟨e, ev⟩ | ⟨up, e, ev⟩
  · rw [ev] at HPA
    rw [e]
    clear e ev
    go_enter Tryz.func58, Tryz.ntmps58
    go_wp2_with fail
    refine HPA.out.mono ?_
    rintro e w1 ⟨rfl, hb1⟩
    go_wp2_with fail
    go_ret
    exact ⟨rfl, hb1⟩
  · rw [ev] at HPA
    rw [e]
    clear e ev
    have HF := Lib.hid (fun X (hX : Below w.heap.size w X) => findHolder_any g t F ⟨up.toArray⟩ X (HE.out.below hX) (HT.out.below hX))
    show Calls _ _ _ _ (Ans (.bool (tHold up t).1.isSome) w)
    have hc : (∃ l, tHold up t = (some l, 0)) ∨ ∃ n : Int, tHold up t = (none, n) ∧ (n == 0) = false := by
      unfold tHold
      rcases tGet_cases up t with ⟨l, e, -⟩ | ⟨n, e, hn⟩
      · rw [e]
        by_cases ho : l.own = -1
        · exact .inl ⟨l, if_pos ho⟩
        · exact .inr ⟨105, if_neg ho, rfl⟩
      · rw [e]
        exact .inr ⟨n, rfl, by rcases hn with rfl | rfl <;> rfl⟩
    rcases hc with ⟨l, e⟩ | ⟨n, e, hn⟩
    · rw [e]
      replace HF := Lib.hid (fun X (hX : Below w.heap.size w X) => show Calls _ _ _ _ (FndP F (some l, 0) X) by have := HF.out X hX; rw [show (⟨up.toArray⟩ : ByteArray).data.toList = up from rfl, e] at this; exact this)
      clear e
      go_enter Tryz.func58, Tryz.ntmps58
      go_wp2_with fail
      refine HPA.out.mono ?_
      rintro e w1 ⟨rfl, hb1⟩
      have HB1 := Lib.hid hb1
      clear hb1
      go_wp2_with fail
      refine (HF.out _ HB1.out).mono ?_
      rintro e w2 ⟨hb2, A, c, rfl, -⟩
      have HB2 := Lib.hid (HB1.out.trans (hb2.mono HB1.out.size))
      clear hb2
      go_wp2_with fail
      go_ret
      exact ⟨rfl, HB2.out⟩
    · rw [e]
      replace HF := Lib.hid (fun X (hX : Below w.heap.size w X) => show Calls _ _ _ _ (FndP F (none, n) X) by have := HF.out X hX; rw [show (⟨up.toArray⟩ : ByteArray).data.toList = up from rfl, e] at this; exact this)
      clear e
      go_enter Tryz.func58, Tryz.ntmps58
      go_wp2_with fail
      refine HPA.out.mono ?_
      rintro e w1 ⟨rfl, hb1⟩
      have HB1 := Lib.hid hb1
      clear hb1
      go_wp2_with fail
      refine (HF.out _ HB1.out).mono ?_
      rintro e w2 ⟨hb2, rfl⟩
      have HB2 := Lib.hid (HB1.out.trans (hb2.mono HB1.out.size))
      clear hb2
      go_wp2_with fail
      go_ret
      exact ⟨rfl, HB2.out⟩
end Go.Proofs.YtgppclmofphlfaaGreatDoor
