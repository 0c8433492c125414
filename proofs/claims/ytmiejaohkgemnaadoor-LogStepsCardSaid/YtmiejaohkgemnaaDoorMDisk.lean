import Derived.Test.YtmiejaohkgemnaaDoorMOpen
import Derived.Test.YtmiejaohkgemnaaDoorMRows

/-
  A disk as plain values: what each call makes of it. Plain definitions; no statement.
-/
namespace Go.Proofs.YtmiejaohkgemnaaDoor
set_option linter.unusedVariables false

/-- a disk: its power, each area's bytes, how many of them are safe -/
structure PD where
  power : Int
  d0 : List UInt8
  d1 : List UInt8
  s0 : Int
  s1 : Int
def known (a : Int) : Bool := decide (a = 0) || decide (a = 1)
/-- the power behind a call that does something -/
def drawn (p : Int) : Int := if 0 < p then p - 1 else p
namespace PD
def data (P : PD) (a : Int) : List UInt8 := if a = 0 then P.d0 else P.d1
def safe (P : PD) (a : Int) : Int := if a = 0 then P.s0 else P.s1
def setData (P : PD) (a : Int) (l : List UInt8) : PD := if a = 0 then { P with d0 := l } else { P with d1 := l }
def setSafe (P : PD) (a : Int) (n : Int) : PD := if a = 0 then { P with s0 := n } else { P with s1 := n }
def drew (P : PD) : PD := { P with power := drawn P.power }
def append (P : PD) (a : Int) (parts : List (List UInt8)) : PD × Int :=
  if known a then (if P.power = 0 then (P, 40) else (P.drew.setData a (P.data a ++ parts.flatten), 0)) else (P, 41)
def trim (P : PD) (a n : Int) : PD × Int :=
  if known a && decide (0 ≤ n) && decide (n ≤ ((P.data a).length : Int)) then
    (if P.power = 0 then (P, 40) else ((P.drew.setData a ((P.data a).take n.toNat)).setSafe a (if n < P.safe a then n else P.safe a), 0)) else (P, 41)
def mark (P : PD) (a : Int) : PD := P.setSafe a ((P.data a).length : Int)
def sync (P : PD) (areas : List Int) : PD × Int :=
  if areas.all known then (if P.power = 0 then (P, 40) else ((if areas.isEmpty then [0, 1] else areas).foldl mark P.drew, 0)) else (P, 41)
def read (P : PD) (a : Int) : List UInt8 × Int := if known a then (P.data a, 0) else ([], 41)
/-- how many bytes an area keeps -/
def left (l : List UInt8) (s k : Int) : Nat := (s + (if (l.length : Int) - s < (if 0 < k then k else 0) then (l.length : Int) - s else (if 0 < k then k else 0))).toNat
def crash (P : PD) (keeps : List Int) (power : Int) : PD :=
  let l0 := P.d0.take (left P.d0 P.s0 (keeps.getD 0 0))
  let l1 := P.d1.take (left P.d1 P.s1 (keeps.getD 1 0))
  ⟨power, l0, l1, l0.length, l1.length⟩
/-- the marks lie within the bytes -/
def Fine (P : PD) : Prop := 0 ≤ P.s0 ∧ P.s0 ≤ P.d0.length ∧ 0 ≤ P.s1 ∧ P.s1 ≤ P.d1.length
theorem data_le {P : PD} {N : Nat} (h0 : P.d0.length ≤ N) (h1 : P.d1.length ≤ N) (a : Int) : (P.data a).length ≤ N := by
  unfold data
  split <;> assumption
theorem Fine.safe {P : PD} (h : P.Fine) (a : Int) : 0 ≤ P.safe a ∧ P.safe a ≤ (P.data a).length := by
  unfold PD.safe data
  obtain ⟨h1, h2, h3, h4⟩ := h
  split
  · exact ⟨h1, h2⟩
  · exact ⟨h3, h4⟩
end PD
end Go.Proofs.YtmiejaohkgemnaaDoor

/-
  The laws' own 'cut': the first sixty calls of a script. A walk; no statement.
-/
namespace Go.Proofs.YtmiejaohkgemnaaDoor
open Go.RowKit
set_option linter.unusedVariables false

end Go.Proofs.YtmiejaohkgemnaaDoor

/-
  The laws' own 'great': a script that it lets pass has few parts, bytes and areas. A walk; no statement.
-/
namespace Go.Proofs.YtmiejaohkgemnaaDoor
open Go.RowKit
set_option linter.unusedVariables false

def rowsW : List (List UInt8) → Nat
  | [] => 0
  | l :: r => 1 + l.length + rowsW r
theorem rowsW_append (a b : List (List UInt8)) : rowsW (a ++ b) = rowsW a + rowsW b := by
  induction a with
  | nil => simp [rowsW]
  | cons x r ih => simp [rowsW, ih]; omega
theorem rowsW_next (ls : List (List UInt8)) (k : Nat) (h : k < ls.length) : rowsW (ls.take (k + 1)) = rowsW (ls.take k) + (1 + (ls.getD k []).length) := by
  rw [take_snocD ls [] k h, rowsW_append]
  simp [rowsW]
end Go.Proofs.YtmiejaohkgemnaaDoor

/-
  What calls on a disk leave as it was: blocks that may turn; a disk in memory. Plain lemmas; no statement.
-/
namespace Go.Proofs.YtmiejaohkgemnaaDoor
open Go.RowKit
set_option linter.unusedVariables false

/-- of what was there, only blocks of F have turned -/
structure Chg (F : Nat → Prop) (w w' : World) : Prop where
  os : w'.os = w.os
  tape : w'.tape = w.tape
  output : w'.output = w.output
  size : w.heap.size ≤ w'.heap.size
  block : ∀ k, k < w.heap.size → ¬ F k → w'.heap[k]? = w.heap[k]?
section
variable {F G F' : Nat → Prop} {a b c w w' : World}
theorem Chg.refl (F : Nat → Prop) (w : World) : Chg F w w := ⟨rfl, rfl, rfl, Nat.le_refl _, fun _ _ _ => rfl⟩
theorem Chg.trans (h : Chg F a b) (k : Chg F' b c) (hF : ∀ i, F' i → F i ∨ a.heap.size ≤ i) : Chg F a c :=
  ⟨k.os.trans h.os, k.tape.trans h.tape, k.output.trans h.output, Nat.le_trans h.size k.size, fun i hi hn =>
    (k.block i (Nat.lt_of_lt_of_le hi h.size) (fun hf => (hF i hf).elim hn (by omega))).trans (h.block i hi hn)⟩
theorem Chg.same (h : Chg F a b) (k : Chg F b c) : Chg F a c := h.trans k fun _ => .inl
theorem Chg.more (h : Chg F w w') (hF : ∀ i, F i → G i ∨ w.heap.size ≤ i) : Chg G w w' := (Chg.refl G w).trans h hF
theorem Chg.of_below (F : Nat → Prop) (h : Below w.heap.size w w') : Chg F w w' := ⟨h.os, h.tape, h.output, h.size, fun k hk _ => h.block k hk⟩
theorem Chg.below {B : Nat} (h : Chg F w w') (hF : ∀ i, F i → B ≤ i) (hB : B ≤ w.heap.size) : Below B w w' :=
  ⟨h.os, h.tape, h.output, h.size, fun k hk => h.block k (by omega) (fun hf => by have := hF k hf; omega)⟩
theorem Chg.then (h : Chg F a b) (k : Below b.heap.size b c) : Chg F a c := h.same (Chg.of_below F k)
theorem Chg.behind (h : Below a.heap.size a b) (k : Chg F b c) : Chg F a c := (Chg.of_below F h).same k
theorem Chg.alloc (h : Chg F a w) (o : Obj) : Chg F a (w.alloc o) := h.then ((Below.refl _ _).alloc (Nat.le_refl _) o)
theorem Chg.drewN (h : Chg F a w) (n : Nat) : Chg F a (w.drewN n) := ⟨h.os, h.tape, h.output, h.size, h.block⟩
theorem Chg.drew (h : Chg F a w) : Chg F a w.drew := ⟨h.os, h.tape, h.output, h.size, h.block⟩
theorem Chg.grown {row : Option Nat} (h : Chg F a w) (hg : w.grownBy w' row) (hr : ∀ g, row = some g → F g ∨ a.heap.size ≤ g) : Chg F a w' :=
  h.trans (F' := fun i => row = some i) ⟨hg.os, hg.tape, hg.output, hg.size, fun k hk hn => hg.block k hk (fun e => hn e.symm)⟩ fun i hi => hr i hi
theorem Chg.set {g : Nat} (h : Chg F a w) (hg : F g ∨ a.heap.size ≤ g) (i : Nat) (u : Value) : Chg F a (w.setCell ⟨g, i, none⟩ u) :=
  h.grown (grown_set (grown_refl w (some g)) i u) (fun k e => by injection e with e; subst e; exact hg)
theorem Chg.bk {g : Nat} {t : TypeId} {cs : List Value} (h : Chg F w w') (hb : Bk w g t cs) (hg : ¬ F g) : Bk w' g t cs := (h.block g hb.lt hg).trans hb
theorem Chg.rd {A : Option Addr} {n : Nat} {xs : List Value} (h : Chg F w w') (hr : Rd w A n xs) (hA : ∀ a, A = some a → 0 < n → ¬ F a.block) : Rd w' A n xs :=
  ⟨hr.1, fun k u hu => by
    have hk : 0 < n := by have := (List.getElem?_eq_some_iff.1 hu).1; have := hr.1; omega
    obtain ⟨a, e, hb, hc⟩ := hr.2 k u hu
    refine ⟨a, e, Nat.lt_of_lt_of_le hb h.size, ?_⟩
    rw [World.cell?_of_block (w := w) (h.block _ (by rw [add_block]; exact hb) (by rw [add_block]; exact hA a e hk))]
    exact hc⟩
theorem Chg.owns {base size n : Nat} {e : TypeId} {v : Value} {xs : List Value} (h : Chg F w w') (ho : w.ownsRow base e size v n xs) (hv : ∀ k, v.ownBlock = some k → ¬ F k) : w'.ownsRow base e size v n xs := by
  refine ⟨ho.1, ?_⟩
  rcases ho.2 with hn | ⟨g, cap, cur, rfl, hb, hgg, rest⟩
  · exact .inl hn
  · exact .inr ⟨g, cap, cur, rfl, hb, (h.block g (Array.getElem?_eq_some_iff.1 hgg).1 (hv g rfl)).trans hgg, rest⟩
theorem Chg.ownB {base n c : Nat} {A : Option Addr} {l : List UInt8} (h : Chg F w w') (ho : OwnB w base A n c l) (hv : ∀ k, (Value.slice A n c).ownBlock = some k → ¬ F k) : OwnB w' base A n c l := h.owns ho hv
theorem Chg.ownRs {base n c : Nat} {A : Option Addr} {ls : List (List UInt8)} (h : Chg F w w') (ho : OwnRs w base A n c ls) (hF : ∀ i, F i → i < base) : OwnRs w' base A n c ls := by
  have off : ∀ {i : Nat}, base ≤ i → ¬ F i := fun hi hf => by have := hF _ hf; omega
  obtain ⟨h1, us, h2, h3⟩ := ho
  refine ⟨h1, us, h.owns h2 (fun k hk => off (World.ownsRow.lt h2 k hk).1), fun k u l hu hl => ?_⟩
  obtain ⟨A', c', e, ho⟩ := h3 k u l hu hl
  exact ⟨A', c', e, h.owns ho (fun k hk => off (World.ownsRow.lt ho k hk).1)⟩
end
/-- a row's first bytes -/
theorem own_front {w : World} {base : Nat} {A : Option Addr} {n c k : Nat} {l : List UInt8} (h : OwnB w base A n c l) (hk : k ≤ n) : OwnB w base A k c (l.take k) := by
  have hl := h.len
  rcases h.2 with ⟨e, e2⟩ | ⟨g, cap, cur, e1, hb, hg, hnc, hcm, hsz, ht⟩
  · injection e with e3 e4 e5
    subst e3 e4 e5
    obtain rfl : k = 0 := by omega
    exact ⟨by simp, .inl ⟨rfl, rfl⟩⟩
  · injection e1 with e3 e4 e5
    subst e3 e5
    refine ⟨by simp; omega, .inr ⟨g, c, cur, rfl, hb, hg, by omega, hcm, hsz, ?_⟩⟩
    rw [List.map_take, ← ht, List.take_take]
    congr 1
    omega
theorem own_zero {w : World} {base : Nat} {A : Option Addr} {n c : Nat} {l : List UInt8} (h : OwnB w base A n c l) : OwnB w 0 A n c l := h.more (Nat.zero_le _)
/-- a disk's five cells -/
def dcells (A0 : Option Addr) (n0 c0 : Nat) (s0 : Int) (A1 : Option Addr) (n1 c1 : Nat) (s1 p : Int) : List Value := [.slice A0 n0 c0, .int .i64 s0, .slice A1 n1 c1, .int .i64 s1, .int .i64 p]
/-- where the disk g lies, and what it is: all its blocks are of F -/
structure DkAt (w : World) (F : Nat → Prop) (g : Nat) (P : PD) (A0 : Option Addr) (n0 c0 : Nat) (A1 : Option Addr) (n1 c1 : Nat) : Prop where
  bk : Bk w g 73 [.slice A0 n0 c0, .int .i64 P.s0, .slice A1 n1 c1, .int .i64 P.s1, .int .i64 P.power]
  r0 : OwnB w 0 A0 n0 c0 P.d0
  r1 : OwnB w 0 A1 n1 c1 P.d1
  mine : F g
  f0 : ∀ b, (Value.slice A0 n0 c0).ownBlock = some b → F b
  f1 : ∀ b, (Value.slice A1 n1 c1).ownBlock = some b → F b
  apart : ∀ b, (Value.slice A0 n0 c0).ownBlock = some b → (Value.slice A1 n1 c1).ownBlock ≠ some b
  lt : ∀ i, F i → i < w.heap.size
  fine : P.Fine
  pw : -9223372036854775808 ≤ P.power ∧ P.power ≤ 9223372036854775807
def Dk (w : World) (F : Nat → Prop) (g : Nat) (P : PD) : Prop := ∃ A0 n0 c0 A1 n1 c1, DkAt w F g P A0 n0 c0 A1 n1 c1
theorem DkAt.keep {w w' : World} {F G : Nat → Prop} {g : Nat} {P : PD} {A0 A1 : Option Addr} {n0 c0 n1 c1 : Nat} (h : DkAt w F g P A0 n0 c0 A1 n1 c1) (hc : Chg G w w') (hd : ∀ i, F i → ¬ G i) : DkAt w' F g P A0 n0 c0 A1 n1 c1 :=
  ⟨hc.bk h.bk (hd _ h.mine), hc.owns h.r0 (fun k hk => hd _ (h.f0 k hk)), hc.owns h.r1 (fun k hk => hd _ (h.f1 k hk)), h.mine, h.f0, h.f1, h.apart, fun i hi => Nat.lt_of_lt_of_le (h.lt i hi) hc.size, h.fine, h.pw⟩
theorem DkAt.kept {w w' : World} {F : Nat → Prop} {g : Nat} {P : PD} {A0 A1 : Option Addr} {n0 c0 n1 c1 : Nat} (h : DkAt w F g P A0 n0 c0 A1 n1 c1) (hb : Below w.heap.size w w') : DkAt w' F g P A0 n0 c0 A1 n1 c1 :=
  h.keep (Chg.of_below (fun _ => False) hb) (fun _ _ => id)
theorem Dk.keep {w w' : World} {F G : Nat → Prop} {g : Nat} {P : PD} (h : Dk w F g P) (hc : Chg G w w') (hd : ∀ i, F i → ¬ G i) : Dk w' F g P := by
  obtain ⟨A0, n0, c0, A1, n1, c1, h⟩ := h
  exact ⟨A0, n0, c0, A1, n1, c1, h.keep hc hd⟩
theorem Dk.kept {w w' : World} {F : Nat → Prop} {g : Nat} {P : PD} (h : Dk w F g P) (hb : Below w.heap.size w w') : Dk w' F g P := h.keep (Chg.of_below (fun _ => False) hb) (fun _ _ => id)
theorem Dk.alloc {w : World} {F : Nat → Prop} {g : Nat} {P : PD} (h : Dk w F g P) (o : Obj) : Dk (w.alloc o) F g P := h.kept ((Below.refl _ _).alloc (Nat.le_refl _) o)
theorem Dk.lt {w : World} {F : Nat → Prop} {g : Nat} {P : PD} (h : Dk w F g P) : ∀ i, F i → i < w.heap.size := by
  obtain ⟨A0, n0, c0, A1, n1, c1, h⟩ := h
  exact h.lt
theorem Dk.fine {w : World} {F : Nat → Prop} {g : Nat} {P : PD} (h : Dk w F g P) : P.Fine := by
  obtain ⟨A0, n0, c0, A1, n1, c1, h⟩ := h
  exact h.fine
/-- what a call that does something answers, and leaves -/
def Did (F : Nat → Prop) (g : Nat) (r : PD × Int) (w : World) (e : Ending) (w' : World) : Prop :=
  e = .returned (.int .i64 r.2) ∧ ∃ F', Dk w' F' g r.1 ∧ (∀ i, F' i → F i ∨ w.heap.size ≤ i) ∧ Chg F w w'
/-- a new disk -/
def Made (P : PD) (w : World) (e : Ending) (w' : World) : Prop :=
  ∃ g F, e = .returned (.pointer (some ⟨g, 0, none⟩)) ∧ Dk w' F g P ∧ (∀ i, F i → w.heap.size ≤ i) ∧ Below w.heap.size w w'
/-- a call that does nothing -/
theorem Did.none {F : Nat → Prop} {g : Nat} {P : PD} {w w' : World} {n : Int} (h : Dk w F g P) (hb : Below w.heap.size w w') : Did F g (P, n) w (.returned (.int .i64 n)) w' :=
  ⟨rfl, F, h.kept hb, fun _ => .inl, Chg.of_below F hb⟩
/-- behind a call: area 0's bytes are anew, area 1's row is as it was -/
theorem DkAt.put0 {w w' : World} {F : Nat → Prop} {g : Nat} {P Q : PD} {A0 A1 A : Option Addr} {n0 c0 n1 c1 n c : Nat} (h : DkAt w F g P A0 n0 c0 A1 n1 c1)
    (hb : Bk w' g 73 [.slice A n c, .int .i64 Q.s0, .slice A1 n1 c1, .int .i64 Q.s1, .int .i64 Q.power]) (h0 : OwnB w' 0 A n c Q.d0) (h1 : OwnB w' 0 A1 n1 c1 Q.d1) (hs : w.heap.size ≤ w'.heap.size)
    (hA : ∀ b, (Value.slice A n c).ownBlock = some b → (Value.slice A0 n0 c0).ownBlock = some b ∨ w.heap.size ≤ b) (hf : Q.Fine) (hp : -9223372036854775808 ≤ Q.power ∧ Q.power ≤ 9223372036854775807) :
    ∃ F', Dk w' F' g Q ∧ ∀ i, F' i → F i ∨ w.heap.size ≤ i := by
  refine ⟨fun i => F i ∨ (w.heap.size ≤ i ∧ i < w'.heap.size), ⟨A, n, c, A1, n1, c1, hb, h0, h1, .inl h.mine, fun b e => ?_, fun b e => .inl (h.f1 b e), fun b e e1 => ?_, fun i hi => ?_, hf, hp⟩, fun i hi => hi.imp id And.left⟩
  · rcases hA b e with q | q
    · exact .inl (h.f0 b q)
    · exact .inr ⟨q, (World.ownsRow.lt h0 b e).2⟩
  · rcases hA b e with q | q
    · exact h.apart b q e1
    · have := h.lt b (h.f1 b e1); omega
  · rcases hi with q | q
    · exact Nat.lt_of_lt_of_le (h.lt i q) hs
    · exact q.2
theorem DkAt.put1 {w w' : World} {F : Nat → Prop} {g : Nat} {P Q : PD} {A0 A1 A : Option Addr} {n0 c0 n1 c1 n c : Nat} (h : DkAt w F g P A0 n0 c0 A1 n1 c1)
    (hb : Bk w' g 73 [.slice A0 n0 c0, .int .i64 Q.s0, .slice A n c, .int .i64 Q.s1, .int .i64 Q.power]) (h0 : OwnB w' 0 A0 n0 c0 Q.d0) (h1 : OwnB w' 0 A n c Q.d1) (hs : w.heap.size ≤ w'.heap.size)
    (hA : ∀ b, (Value.slice A n c).ownBlock = some b → (Value.slice A1 n1 c1).ownBlock = some b ∨ w.heap.size ≤ b) (hf : Q.Fine) (hp : -9223372036854775808 ≤ Q.power ∧ Q.power ≤ 9223372036854775807) :
    ∃ F', Dk w' F' g Q ∧ ∀ i, F' i → F i ∨ w.heap.size ≤ i := by
  refine ⟨fun i => F i ∨ (w.heap.size ≤ i ∧ i < w'.heap.size), ⟨A0, n0, c0, A, n, c, hb, h0, h1, .inl h.mine, fun b e => .inl (h.f0 b e), fun b e => ?_, fun b e e1 => ?_, fun i hi => ?_, hf, hp⟩, fun i hi => hi.imp id And.left⟩
  · rcases hA b e with q | q
    · exact .inl (h.f1 b q)
    · exact .inr ⟨q, (World.ownsRow.lt h1 b e).2⟩
  · rcases hA b e1 with q | q
    · exact h.apart b e q
    · have := h.lt b (h.f0 b e); omega
  · rcases hi with q | q
    · exact Nat.lt_of_lt_of_le (h.lt i q) hs
    · exact q.2
theorem drawn_in {p : Int} (h : -9223372036854775808 ≤ p ∧ p ≤ 9223372036854775807) : -9223372036854775808 ≤ drawn p ∧ drawn p ≤ 9223372036854775807 := by unfold drawn; split <;> omega
end Go.Proofs.YtmiejaohkgemnaaDoor
