/-
  Watches added one after another; two tables side by side. Plain lemmas; no statement.
-/
import Derived.Test.YtbppokdaehaocaaDoorWatchLaw
namespace Go.Proofs.YtbppokdaehaocaaDoor
set_option maxRecDepth 100000
open Go.RowKit
set_option linter.unusedVariables false

/-- the table that adding these makes -/
def wFold : List Wt → List Wt → List Wt
  | t, [] => t
  | t, x :: r => wFold (wAdd x t).1 r
theorem wFold_snoc (x : Wt) : ∀ (xs t : List Wt), wFold t (xs ++ [x]) = (wAdd x (wFold t xs)).1
  | [], _ => rfl
  | y :: r, t => wFold_snoc x r (wAdd y t).1
theorem wFold_next {xs : List Wt} {k : Nat} {x : Wt} (t : List Wt) (h : xs[k]? = some x) : wFold t (xs.take (k + 1)) = (wAdd x (wFold t (xs.take k))).1 := by
  obtain ⟨hk, e⟩ := List.getElem?_eq_some_iff.1 h
  rw [take_snoc xs k hk, e, wFold_snoc]
theorem wOf_len (c : Int) (t : List Wt) : wOf c t ≤ t.length := List.countP_le_length
/-- few watches: those that are right are in, and no others -/
theorem wFold_few : ∀ (xs t : List Wt), t.length + xs.length ≤ 8 → ∀ z, z ∈ wFold t xs ↔ z ∈ t ∨ (z ∈ xs ∧ wRight z = true)
  | [], t, _, z => by simp [wFold]
  | x :: r, t, hl, z => by
    simp only [List.length_cons] at hl
    have hlen : (wAdd x t).1.length + r.length ≤ 8 := by
      unfold wAdd
      split
      · simp only; omega
      · split
        · simp only; omega
        · split
          · simp only; omega
          · simp only [wIns_len]; omega
    show z ∈ wFold (wAdd x t).1 r ↔ _
    rw [wFold_few r _ hlen z]
    have hm : z ∈ (wAdd x t).1 ↔ z ∈ t ∨ (z = x ∧ wRight x = true) := by
      unfold wAdd
      by_cases hr : wRight x = true
      · rw [if_neg (by simp [hr])]
        by_cases hx : x ∈ t
        · rw [if_pos hx]
          simp only [hr, and_true]
          exact ⟨.inl, fun h => h.elim id fun e => e ▸ hx⟩
        · rw [if_neg hx, if_neg (by have := wOf_len x.client t; omega)]
          simp only [hr, and_true, mem_wIns]
          exact or_comm
      · have hr' : wRight x = false := by simpa using hr
        rw [if_pos hr']
        simp [hr']
    rw [hm, List.mem_cons]
    constructor
    · rintro ((h | ⟨rfl, h⟩) | ⟨h, h'⟩)
      · exact .inl h
      · exact .inr ⟨.inl rfl, h⟩
      · exact .inr ⟨.inr h, h'⟩
    · rintro (h | ⟨rfl | h, h'⟩)
      · exact .inl (.inl h)
      · exact .inl (.inr ⟨rfl, h'⟩)
      · exact .inr ⟨h, h'⟩
theorem WOk.fold : ∀ {t : List Wt} (xs : List Wt), WOk t → WOk (wFold t xs)
  | _, [], h => h
  | _, x :: r, h => (h.add x).fold r
/-- lists in their order that have the same in them are the same -/
theorem srt_eq : ∀ {a b : List Wt}, a.Pairwise wLt → b.Pairwise wLt → (∀ z, z ∈ a ↔ z ∈ b) → a = b
  | [], [], _, _, _ => rfl
  | [], y :: s, _, _, h => absurd ((h y).2 (List.mem_cons_self ..)) List.not_mem_nil
  | x :: r, [], _, _, h => absurd ((h x).1 (List.mem_cons_self ..)) List.not_mem_nil
  | x :: r, y :: s, ha, hb, h => by
    obtain ⟨a1, a2⟩ := List.pairwise_cons.1 ha
    obtain ⟨b1, b2⟩ := List.pairwise_cons.1 hb
    have hxy : x = y := by
      rcases List.mem_cons.1 ((h x).1 (List.mem_cons_self ..)) with e | e
      · exact e
      · rcases List.mem_cons.1 ((h y).2 (List.mem_cons_self ..)) with q | q
        · exact q.symm
        · exact absurd (b1 x e) (wLt_asym (a1 y q))
    subst hxy
    rw [srt_eq a2 b2 fun z => ⟨fun hz => ?_, fun hz => ?_⟩]
    · rcases List.mem_cons.1 ((h z).1 (List.mem_cons_of_mem _ hz)) with e | e
      · subst e; exact absurd (a1 z hz) (wLt_irr z)
      · exact e
    · rcases List.mem_cons.1 ((h z).2 (List.mem_cons_of_mem _ hz)) with e | e
      · subst e; exact absurd (b1 z hz) (wLt_irr z)
      · exact e
theorem fold_rev (xs : List Wt) (h : xs.length ≤ 8) : wFold [] xs = wFold [] xs.reverse := by
  refine srt_eq (wOk_nil.fold xs).1 (wOk_nil.fold xs.reverse).1 fun z => ?_
  rw [wFold_few xs [] (by simpa using h) z, wFold_few xs.reverse [] (by simpa using h) z, List.mem_reverse]
/-- two tables that have no block in common -/
structure Two (F1 F2 : Nat → Prop) (w0 : World) (g1 g2 : Nat) (t1 t2 : List Wt) (w : World) : Prop where
  one : WOn F1 w0 g1 t1 w
  two : WOn F2 w0 g2 t2 w
  apart : ∀ k, F1 k → ¬ F2 k
section
variable {F F' G F1 F2 : Nat → Prop} {w0 w w' : World} {g g1 g2 : Nat} {t t1 t2 t' : List Wt} {r : Value} {e : Ending}
theorem WOn.other (h : WOn F w0 g t w) (hc : Chg G w w') (hG : ∀ k, F k → ¬ G k) (hb : Below w0.heap.size w0 w') : WOn F w0 g t w' :=
  ⟨h.tb.chg hc fun k hk _ => hG k hk, fun k hk => ⟨(h.low k hk).1, Nat.lt_of_lt_of_le (h.low k hk).2 hc.size⟩, hb, h.ok⟩
theorem Two.kept (h : Two F1 F2 w0 g1 g2 t1 t2 w) (hb : Below w.heap.size w w') : Two F1 F2 w0 g1 g2 t1 t2 w' := ⟨h.one.kept hb, h.two.kept hb, h.apart⟩
theorem Two.did1 (h : Two F1 F2 w0 g1 g2 t1 t2 w) (hd : MvW F1 w0 g1 t' r w e w') : ∃ F', Two F' F2 w0 g1 g2 t' t2 w' := by
  obtain ⟨_, F', h1, h2, h3⟩ := hd
  exact ⟨F', h1, h.two.other h3 (fun k hk hf => h.apart k hf hk) h1.be, fun k hk hf => (h2 k hk).elim (fun q => h.apart k q hf) fun q => by have := (h.two.low k hf).2; omega⟩
theorem Two.did2 (h : Two F1 F2 w0 g1 g2 t1 t2 w) (hd : MvW F2 w0 g2 t' r w e w') : ∃ F', Two F1 F' w0 g1 g2 t1 t' w' := by
  obtain ⟨_, F', h1, h2, h3⟩ := hd
  exact ⟨F', h.one.other h3 (fun k hk hf => h.apart k hk hf) h1.be, h1, fun k hk hf => (h2 k hf).elim (fun q => h.apart k hk q) fun q => by have := (h.one.low k hk).2; omega⟩
end
end Go.Proofs.YtbppokdaehaocaaDoor
