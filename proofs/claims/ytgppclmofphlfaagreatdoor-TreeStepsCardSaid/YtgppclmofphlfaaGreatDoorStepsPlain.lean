/-
  What the law of steps needs: a step half done, a row of bytes turned, answers in one form. Plain lemmas; no statement.
-/
import Derived.Test.YtgppclmofphlfaaGreatDoorTreeBoth
import Derived.Test.YtgppclmofphlfaaGreatDoorTreeRef14
import Derived.Test.YtgppclmofphlfaaGreatDoorTreeRef9
import Derived.Test.YtgppclmofphlfaaGreatDoorTreeRef11
import Derived.Test.YtgppclmofphlfaaGreatDoorMTreeL
namespace Go.Proofs.YtgppclmofphlfaaGreatDoor
set_option maxRecDepth 100000
open Go.RowKit
set_option linter.unusedVariables false
set_option maxRecDepth 100000

/-- no node -/
def lfZero : Lf := ⟨[], [], 0, 0, 0, 0⟩
theorem get_one {r : Option Lf × Int} {w w' : World} {e : Ending} (h : GetP r w e w') : ∃ A c, e = .returned (.tuple #[.agg #[.string ⟨(r.1.getD lfZero).path.toArray⟩, .slice A (r.1.getD lfZero).data.length c, .int .i64 (r.1.getD lfZero).ver, .int .i64 (r.1.getD lfZero).own, .int .i64 (r.1.getD lfZero).next, .int .i64 (r.1.getD lfZero).born], .int .i64 r.2]) ∧ BF (From w.heap.size) w' A c (r.1.getD lfZero).data ∧ Below w.heap.size w w' := by
  obtain ⟨hb, h⟩ := h
  cases h1 : r.1 with
  | some l => rw [h1] at h; obtain ⟨A, c, e, hB⟩ := h; exact ⟨A, c, e, hB, hb⟩
  | none => rw [h1] at h; exact ⟨none, 0, h, BF.nil_ _ _, hb⟩
theorem kids_one {r : Option Lf × Int} {ks : List (List UInt8)} {w w' : World} {e : Ending} (h : KidsP r ks w e w') : ∃ A n c, e = .returned (.tuple #[.slice A n c, .int .i64 r.2]) ∧ OwnT w' w.heap.size A n c (if r.2 = 0 then ks else []) ∧ Below w.heap.size w w' := by
  unfold KidsP at h
  by_cases hr : r.2 = 0
  · rw [if_pos hr] at h
    obtain ⟨v, ⟨A, n, c, hv, ho, hb⟩, he⟩ := h
    injection hv with hv
    subst hv
    rw [if_pos hr, hr]
    exact ⟨A, n, c, he, ho, hb⟩
  · rw [if_neg hr] at h
    rw [if_neg hr]
    exact ⟨none, 0, 0, h.2, OwnT.nil_ _ _, h.1⟩
theorem own_front {w : World} {base n c : Nat} {A : Option Addr} {l m : List UInt8} (h : OwnB w base A n c (l ++ m)) : BF (From base) w A c l := by
  have hs := Sl.own h
  have hn : l.length ≤ n := by rw [← h.len, List.length_append]; omega
  have hr := hs.rd.front hn
  rw [List.map_append, show l.length = (l.map bv).length by simp, List.take_left, List.length_map] at hr
  refine ⟨⟨Nat.le_trans hn hs.1, hs.2.1, hr, hs.2.2.2⟩, fun a e _ => ?_⟩
  subst e
  exact h.block _ rfl
theorem size_u8' (wx : World) : (sizeOf 5).run Tryz.prog wx = .ok 1 wx := by kernel_rfl
theorem slice_u8 (A : Option Addr) (n c h : Nat) (hh : h ≤ c) (wx : World) : (Instr.slice 32 (.slice A n c) none (some (.int .i64 (h : Int))) none).run Tryz.prog wx = .ok (.slice A h c) wx := by
  rw [run_slice_h wx _ _ _ _ (by kernel_rfl) .i64 (h : Int) (by omega) (by omega)]
  have e : Tryz.prog.elem 32 = 5 := by kernel_rfl
  rw [e, size_u8']
  cases A <;> simp [Result.andThen, sliced, Addr.add]
/-- how a loop that turns all bytes of a row stands -/
def XorAt (w8 : World) (base : Nat) (A : Option Addr) (n c : Nat) (l : List UInt8) (k : Nat) (wr : World) : Prop :=
  ∃ xs, wr.ownsRow base 5 1 (.slice A n c) n xs ∧ xs.drop k = (l.map bv).drop k ∧ Chg (fun i => (Value.slice A n c).ownBlock = some i) w8 wr
theorem xor_start {w8 : World} {base n c : Nat} {A : Option Addr} {l : List UInt8} (h : OwnB w8 base A n c l) : XorAt w8 base A n c l 0 w8 := ⟨_, h, rfl, Chg.refl _ _⟩
/-- the next byte: where it lies -/
theorem xor_here {w8 wr : World} {base n c k : Nat} {A : Option Addr} {l : List UInt8} (h : XorAt w8 base A n c l k wr) (hl : l.length = n) (hk : k < n) :
    ∃ g x, A = some ⟨g, 0, none⟩ ∧ wr.cell? ⟨g, k, none⟩ = some (bv x) ∧ wr.frozen? ⟨g, k, none⟩ = false ∧ ∀ u, XorAt w8 base A n c l (k + 1) (wr.setCell ⟨g, k, none⟩ u) := by
  obtain ⟨xs, ho, hd, hc⟩ := h
  have hxl : xs.length = n := by simpa using ho.1
  rcases ho.2 with ⟨e1, e2⟩ | ⟨g, cap, cur, e1, _⟩
  · omega
  · injection e1 with e3 e4 e5
    subst e3 e5
    have hg : xs[k]? = some (bv (l[k]'(by omega))) := by
      have := congrArg List.head? hd
      simpa [List.head?_drop, hl, hk] using this
    refine ⟨g, l[k]'(by omega), rfl, ?_, ho.frozenAt k, fun u => ?_⟩
    · rw [ho.cellAt k (by omega)]; exact hg
    · obtain ⟨h1, h2⟩ := ho.stored k u
      refine ⟨_, h1, ?_, hc.grown h2 (fun b e => .inl (by injection e with e; subst e; rfl))⟩
      have hd2 := congrArg List.tail hd
      rw [List.tail_drop, List.tail_drop] at hd2
      rw [List.drop_set_of_lt (by omega)]
      exact hd2
/-- the tree's blocks, and those between -/
def Fx (F : Nat → Prop) (a b : Nat) : Nat → Prop := fun i => F i ∨ (a ≤ i ∧ i < b)
section
variable {F F1 : Nat → Prop} {gm : Nat} {t : List Lf} {w : World}
theorem RefOn.less (h : RefOn F1 gm t w) (hF : ∀ k, F k → F1 k) : RefOn F gm t w := by
  obtain ⟨h1, A, c, h2, h3⟩ := h
  exact ⟨fun hf => h1 (hF _ hf), A, c, h2, h3.keep ⟨Nat.le_refl _, fun _ _ _ => rfl⟩ fun b hb _ => ⟨fun hf => hb.1 (hF _ hf), hb.2⟩⟩
end
/-- where a step stands once both trees have answered: its own row in block a, its bytes behind it, all of them ahead of block b -/
def Mid10 (w : World) (g gm a b n : Nat) (cs : List Value) (A5 : Option Addr) (n5 c5 : Nat) (l : List UInt8) (X : World) : Prop :=
  ∃ (F : Nat → Prop) (t : List Lf), TOn F w g n t X ∧ RefOn (Fx F a b) gm t X ∧ Bk X a 34 cs ∧ OwnB X (a + 1) A5 n5 c5 l ∧ Gap F a b ∧ b ≤ X.heap.size
theorem mid_did {w5 w6 : World} {F F6 : Nat → Prop} {gm a b : Nat} {cs : List Value} {A5 : Option Addr} {n5 c5 : Nat} {l : List UInt8} {t : List Lf}
    (hr : RefOn (Fx F a b) gm t w5) (hk : Bk w5 a 34 cs) (ho : OwnB w5 (a + 1) A5 n5 c5 l) (hg : Gap F a b) (hb : b ≤ w5.heap.size) (hab : a < b) (how : ∀ i, (Value.slice A5 n5 c5).ownBlock = some i → a ≤ i ∧ i < b)
    (hF : ∀ k, F6 k → F k ∨ w5.heap.size ≤ k) (hc : Chg F w5 w6) : RefOn (Fx F6 a b) gm t w6 ∧ Bk w6 a 34 cs ∧ OwnB w6 (a + 1) A5 n5 c5 l ∧ Gap F6 a b ∧ b ≤ w6.heap.size := by
  refine ⟨hr.did (fun k hk2 => ?_) (hc.more fun i hi => .inl (.inl hi)), hc.bk hk fun hf => ?_, hc.ownB ho fun i e hf => ?_, hg.did hF hb, Nat.le_trans hb hc.size⟩
  · rcases hk2 with h | h
    · rcases hF k h with q | q
      · exact .inl (.inl q)
      · exact .inr q
    · exact .inl (.inr h)
  · rcases hg a hf with q | q <;> omega
  · have h1 := how i e
    rcases hg i hf with q | q <;> omega
theorem mid_put {w w6 X : World} {F6 : Nat → Prop} {g gm a b n c : Nat} {cs : List Value} {A5 A : Option Addr} {n5 c5 : Nat} {l : List UInt8} {t t' : List Lf}
    (ht : TOn F6 w g n t' w6) (hr : RefOn (Fx F6 a b) gm t w6) (hk : Bk w6 a 34 cs) (ho : OwnB w6 (a + 1) A5 n5 c5 l) (hg : Gap F6 a b) (hb : b ≤ w6.heap.size) (how : ∀ i, (Value.slice A5 n5 c5).ownBlock = some i → a ≤ i ∧ i < b)
    (hgm : gm < a) (h0 : w.heap.size ≤ gm) (hX : Below w6.heap.size w6 X) (hrr : RdS RLf (fun k => (¬ Fx F6 a b k ∧ k ≠ gm) ∨ w6.heap.size ≤ k) X A c t') :
    Mid10 w g gm a b n cs A5 n5 c5 l (X.setCell ⟨gm, 0, none⟩ (.slice A t'.length c)) := by
  refine ⟨F6, t', (ht.kept hX).beside (fun hf => hr.1 (.inl hf)) h0 _, hr.put (fun k hk2 => ?_) hX hrr, (hk.kept hX).far (p := ⟨gm, 0, none⟩) (by simp; omega) _, ?_, hg, by have := hX.size; simp; omega⟩
  · rcases hk2 with h | h
    · exact (ht.low k h).2
    · omega
  · exact ((Chg.refl (· = gm) X).set (.inl rfl) 0 _).ownB (ho.below hX) fun i e h => by
      have h1 := how i e
      have h2 : i = gm := h
      omega
end Go.Proofs.YtgppclmofphlfaaGreatDoor
