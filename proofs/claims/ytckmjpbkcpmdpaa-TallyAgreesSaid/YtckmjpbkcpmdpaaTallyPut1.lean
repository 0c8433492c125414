/-
  tally: a tally whose row is laid anew; arrange. Plain lemmas, a walk; no statement.
-/
import Derived.Test.YtckmjpbkcpmdpaaTallyDel
import Derived.Test.YtckmjpbkcpmdpaaTallyDev2
namespace Go.Proofs.Ytckmjpbkcpmdpaa
open Go.RowKit Go.Sort Go.Shelf
set_option linter.unusedVariables false
set_option maxRecDepth 100000

/-- only the box and the row have turned: the tally has another row -/
theorem TlAt.anew {X w' : World} {F : Nat → Prop} {g : Nat} {N : Int} {xs ys : List Vc} {A A' : Option Addr} {n c n' c' : Nat} (h : TlAt X F g N xs A n c)
    (hc : Chg (fun i => i = g ∨ (Value.slice A n c).ownBlock = some i) X w') (hbk : Bk w' g 51 [.int .i64 N, .slice A' n' c']) (hrow : OwnV w' 0 A' n' c' ys)
    (hA : ∀ b, (Value.slice A' n' c').ownBlock = some b → (Value.slice A n c).ownBlock = some b ∨ X.heap.size ≤ b)
    (hy : ∀ y ∈ ys, y ∈ xs ∨ (Reads w' y ∧ ∀ a, y.ka = some a ∨ y.la = some a → X.heap.size ≤ a.block ∧ a.block < w'.heap.size ∧ (Value.slice A' n' c').ownBlock ≠ some a.block)) :
    ∃ F', TlAt w' F' g N ys A' n' c' ∧ ∀ i, F' i → F i ∨ X.heap.size ≤ i := by
  have hg := h.lt g h.mine
  refine ⟨fun i => F i ∨ (X.heap.size ≤ i ∧ i < w'.heap.size), ⟨hbk, hrow, .inl h.mine, fun b e => ?_, fun y hm => ?_, fun y hm a e => ?_, fun i hi => ?_⟩, fun i hi => hi.imp id And.left⟩
  · rcases hA b e with q | q
    · exact ⟨.inl (h.frow b q).1, (h.frow b q).2⟩
    · exact ⟨.inr ⟨q, (World.ownsRow.lt hrow b e).2⟩, by omega⟩
  · rcases hy y hm with q | q
    · have off : ∀ a, y.ka = some a ∨ y.la = some a → ¬ (a.block = g ∨ (Value.slice A n c).ownBlock = some a.block) := fun a e r => by
        have := h.far y q a e
        rcases r with r | r
        · exact this.2.1 r
        · exact this.2.2 r
      exact ⟨hc.rd (h.rds y q).1 (fun a e _ => off a (.inl e)), hc.rd (h.rds y q).2 (fun a e _ => off a (.inr e))⟩
    · exact q.1
  · rcases hy y hm with q | q
    · have h1 := h.far y q a e
      refine ⟨.inl h1.1, h1.2.1, fun e2 => ?_⟩
      rcases hA _ e2 with r | r
      · exact h1.2.2 r
      · have := h.lt _ h1.1; omega
    · obtain ⟨h1, h2, h3⟩ := q.2 a e
      exact ⟨.inr ⟨h1, h2⟩, by omega, h3⟩
  · rcases hi with q | q
    · exact Nat.lt_of_lt_of_le (h.lt i q) hc.size
    · exact q.2
set_option maxHeartbeats 1600000 in
/-- arrange -/
theorem arrange_any (F : Nat → Prop) (g : Nat) (N : Int) (xs : List Vc) (A : Option Addr) (n c : Nat) (w : World) (h : TlAt w F g N xs A n c) (hn : 0 < n) (hs : n < 4611686018427387904) (hid : (xs.map (·.v)).Pairwise fun a b => a.voter ≠ b.voter) :
    Calls Try.prog 33 #[.pointer (some ⟨g, 0, none⟩)] w fun e w' => e = .returned (.tuple #[]) ∧ ∃ ys : List Vc, ys.Perm xs ∧ (ys.map (·.v)).Pairwise LtV ∧ TlAt w' F g N ys A n c ∧ Chg F w w' := by
  obtain ⟨g', rfl, _, hnc, hcm, rest, hb, hbl⟩ := ownV_at h.row hn
  have HS := Lib.hid (sort_votes n c xs g' w h.row hn (fun x hx => ⟨(h.rds x hx).1, fun a e e2 => (h.far x hx a (.inl e)).2.2 (by rw [e2]; rfl)⟩) hid hs)
  obtain ⟨q0, q1⟩ := h.bk.two
  have HT := Lib.hid h
  clear h hb hbl hid
  go_enter Try.func33, Try.ntmps33
  go_wp2_with fail
  refine HS.out.mono ?_
  rintro e w2 ⟨rfl, ys, hp, hso, ho, hc⟩
  have HE := Lib.hid (show TlAt w2 F g N ys (some ⟨g', 0, none⟩) n c ∧ Chg F w w2 from by
    have h := HT.out
    have hne := (h.frow g' rfl).2
    refine ⟨⟨hc.bk h.bk (fun e => hne e.symm), ho, h.mine, h.frow, fun x hx => ?_, fun x hx => h.far x (hp.subset hx), fun i hi => Nat.lt_of_lt_of_le (h.lt i hi) hc.size⟩, hc.more (fun i hi => .inl (by rw [show i = g' from hi]; exact (h.frow g' rfl).1))⟩
    have hm := hp.subset hx
    exact ⟨hc.rd (h.rds x hm).1 (fun a e _ e2 => (h.far x hm a (.inl e)).2.2 (by show some g' = some a.block; rw [e2])), hc.rd (h.rds x hm).2 (fun a e _ e2 => (h.far x hm a (.inr e)).2.2 (by show some g' = some a.block; rw [e2]))⟩)
  have HP := Lib.hid (And.intro hp hso)
  clear ho hc hp hso
  go_wp2_with fail
  go_end0
  exact ⟨rfl, ys, HP.out.1, HP.out.2, HE.out⟩
end Go.Proofs.Ytckmjpbkcpmdpaa
