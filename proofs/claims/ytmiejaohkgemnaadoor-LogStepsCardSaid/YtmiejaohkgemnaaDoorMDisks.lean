import Derived.Test.YtmiejaohkgemnaaDoorDiskCrash
import Derived.Test.YtmiejaohkgemnaaDoorMRows

/-
  The laws' own 'act': a call of a script on the disk. Walks; no statement.
-/
namespace Go.Proofs.YtmiejaohkgemnaaDoor
open Go.RowKit
set_option linter.unusedVariables false
set_option maxRecDepth 100000

theorem Did.behind {F : Nat → Prop} {g : Nat} {r : PD × Int} {W w w' : World} {e : Ending} (hW : Below W.heap.size W w) (h : Did F g r w e w') : Did F g r W e w' := by
  obtain ⟨he, F', hd, hF, hc⟩ := h
  exact ⟨he, F', hd, fun i hi => (hF i hi).imp id (fun q => Nat.le_trans hW.size q), Chg.behind hW hc⟩
theorem Chg.sl {F : Nat → Prop} {w w' : World} {A : Option Addr} {n c : Nat} {l : List UInt8} (h : Chg F w w') (hs : Sl w A n c l) (hA : ∀ a, A = some a → ¬ F a.block) : Sl w' A n c l :=
  ⟨hs.1, hs.2.1, h.rd hs.2.2.1 (fun a e _ => hA a e), hs.2.2.2⟩
theorem rows_of_1 {w : World} {X : Option Addr} {B : Option Addr} {n c : Nat} {l : List UInt8} (hr : Rd w X 1 [.slice B n c]) (hs : Sl w B n c l) : RdRows w X 1 [l] := by
  refine ⟨rfl, [.slice B n c], hr, fun k u x hu hx => ?_⟩
  match k, hu, hx with
  | 0, hu, hx =>
    simp only [List.getElem?_cons_zero, Option.some.injEq] at hu hx
    subst hu hx
    exact hs.row
theorem rows_of_2 {w : World} {X : Option Addr} {B B' : Option Addr} {n c n' c' : Nat} {l l' : List UInt8} (hr : Rd w X 2 [.slice B n c, .slice B' n' c']) (hs : Sl w B n c l) (hs' : Sl w B' n' c' l') : RdRows w X 2 [l, l'] := by
  refine ⟨rfl, [.slice B n c, .slice B' n' c'], hr, fun k u x hu hx => ?_⟩
  match k, hu, hx with
  | 0, hu, hx =>
    simp only [List.getElem?_cons_zero, Option.some.injEq] at hu hx
    subst hu hx
    exact hs.row
  | 1, hu, hx =>
    simp only [List.getElem?_cons_succ, List.getElem?_cons_zero, Option.some.injEq] at hu hx
    subst hu hx
    exact hs'.row
/-- a list of one new slice, which a call on the disk leaves as it is -/
theorem stay_1 {F : Nat → Prop} {W : World} {B : Option Addr} {n c base : Nat} {l : List UInt8} (h : Sl W B n c l) (hB : ∀ a, B = some a → base ≤ a.block) (hF : ∀ i, F i → i < base) (hb : base ≤ W.heap.size) :
    ∀ w', Chg F (W.alloc (.cells #[.slice B n c] 32)) w' → RdRows w' (some ⟨W.heap.size, 0, none⟩) 1 [l] := fun w' hc =>
  rows_of_1 (hc.rd (Rd.new W [.slice B n c] _) (fun a e _ hf => by injection e with e; subst e; have h2 : W.heap.size < base := hF _ hf; omega)) (hc.sl (h.alloc _) (fun a e hf => by have := hF _ hf; have := hB a e; omega))
theorem own_block_at {w : World} {base n c : Nat} {A : Option Addr} {l : List UInt8} (h : OwnB w base A n c l) : ∀ a, A = some a → base ≤ a.block := by
  rintro a rfl
  exact h.block a.block rfl
end Go.Proofs.YtmiejaohkgemnaaDoor

/-
  Words for the laws on disks; the laws' own 'alive'. Walks; no statement.
-/
namespace Go.Proofs.YtmiejaohkgemnaaDoor
open Go.RowKit
set_option linter.unusedVariables false
set_option maxRecDepth 100000

/-- the disk g is P, all its blocks are from B on, and below B nothing has turned since w0 -/
structure On (B : Nat) (w0 w : World) (F : Nat → Prop) (g : Nat) (P : PD) : Prop where
  dk : Dk w F g P
  up : ∀ i, F i → B ≤ i
  be : Below B w0 w
  sz : B ≤ w.heap.size
section
variable {B g : Nat} {w0 w w' : World} {F : Nat → Prop} {P : PD} {r : PD × Int} {e : Ending}
theorem On.kept (h : On B w0 w F g P) (hb : Below w.heap.size w w') : On B w0 w' F g P := ⟨h.dk.kept hb, h.up, below_next h.be hb h.sz, Nat.le_trans h.sz hb.size⟩
theorem On.alloc (h : On B w0 w F g P) (o : Obj) : On B w0 (w.alloc o) F g P := h.kept ((Below.refl _ _).alloc (Nat.le_refl _) o)
theorem On.drewN (h : On B w0 w F g P) (n : Nat) : On B w0 (w.drewN n) F g P := h.kept (below_drewN (Below.refl _ _) n)
theorem On.lt (h : On B w0 w F g P) : ∀ i, F i → i < w.heap.size := h.dk.lt
theorem On.chg (h : On B w0 w F g P) (hc : Chg F w w') : Below B w0 w' := h.be.trans (hc.below h.up h.sz)
/-- behind a call that does something -/
theorem On.did (h : On B w0 w F g P) (hd : Did F g r w e w') : e = .returned (.int .i64 r.2) ∧ ∃ F', On B w0 w' F' g r.1 ∧ (∀ i, F' i → F i ∨ w.heap.size ≤ i) ∧ Chg F w w' := by
  obtain ⟨he, F', hk, hF, hc⟩ := hd
  exact ⟨he, F', ⟨hk, fun i hi => (hF i hi).elim (h.up i) (Nat.le_trans h.sz), h.chg hc, Nat.le_trans h.sz hc.size⟩, hF, hc⟩
end
theorem Made.on {B : Nat} {w0 w w' : World} {P : PD} {e : Ending} (hb : Below B w0 w) (hs : B ≤ w.heap.size) (h : Made P w e w') : ∃ g F, e = .returned (.pointer (some ⟨g, 0, none⟩)) ∧ On B w0 w' F g P ∧ (∀ i, F i → w.heap.size ≤ i) ∧ Below w.heap.size w w' := by
  obtain ⟨g, F, he, hk, hF, hbb⟩ := h
  exact ⟨g, F, he, ⟨hk, fun i hi => Nat.le_trans hs (hF i hi), below_next hb hbb hs, Nat.le_trans hs hbb.size⟩, hF, hbb⟩
theorem stay_2 {F : Nat → Prop} {W : World} {B B' : Option Addr} {n c n' c' base : Nat} {l l' : List UInt8} (h : Sl W B n c l) (hB : ∀ a, B = some a → base ≤ a.block) (h' : Sl W B' n' c' l') (hB' : ∀ a, B' = some a → base ≤ a.block) (hF : ∀ i, F i → i < base) (hb : base ≤ W.heap.size) (s : Nat) (hs : s = W.heap.size) :
    ∀ w', Chg F (W.alloc (.cells #[.slice B n c, .slice B' n' c'] 32)) w' → RdRows w' (some ⟨s, 0, none⟩) 2 [l, l'] := fun w' hc => by
  subst hs
  exact rows_of_2 (hc.rd (Rd.new W [.slice B n c, .slice B' n' c'] _) (fun a e _ hf => by injection e with e; subst e; have h2 : W.heap.size < base := hF _ hf; omega)) (hc.sl (h.alloc _) (fun a e hf => by have := hF _ hf; have := hB a e; omega)) (hc.sl (h'.alloc _) (fun a e hf => by have := hF _ hf; have := hB' a e; omega))
theorem Sl.const (w : World) (l : List UInt8) (cs : Array Value) (n s : Nat) (hc : cs = (l.map bv).toArray) (hn : n = l.length) (hs : s = w.heap.size) (fr : Nat × Nat) (h : l.length ≤ maxLen) : Sl (w.alloc (.cells cs 5 fr)) (some ⟨s, 0, none⟩) n n l := by
  subst hc hn hs
  exact Sl.marked w l fr h
theorem stay_1' {F : Nat → Prop} {W : World} {B : Option Addr} {n c base : Nat} {l : List UInt8} (h : Sl W B n c l) (hB : ∀ a, B = some a → base ≤ a.block) (hF : ∀ i, F i → i < base) (hb : base ≤ W.heap.size) (s : Nat) (hs : s = W.heap.size) :
    ∀ w', Chg F (W.alloc (.cells #[.slice B n c] 32)) w' → RdRows w' (some ⟨s, 0, none⟩) 1 [l] := by
  subst hs
  exact stay_1 h hB hF hb
end Go.Proofs.YtmiejaohkgemnaaDoor

/-
  A script of calls, call by call: plain facts, and what the loops of the laws keep. No statement.
-/
namespace Go.Proofs.YtmiejaohkgemnaaDoor
open Go.RowKit
set_option linter.unusedVariables false
set_option maxRecDepth 100000

theorem InI.below {w w' : World} {v : Value} {l : List Int} (h : InI w v l) (hb : Below w.heap.size w w') : InI w' v l := by
  obtain ⟨A, n, c, e, h1, h2, h3, h4, h5⟩ := h
  exact ⟨A, n, c, e, h1, h2, h3.below hb, h4, h5⟩
theorem InR.below {w w' : World} {v : Value} {l : List (List UInt8)} (h : InR w v l) (hb : Below w.heap.size w w') : InR w' v l := by
  obtain ⟨A, n, c, e, h1, h2, h3, h4⟩ := h
  exact ⟨A, n, c, e, h1, h2, h3.below hb, h4⟩
theorem total_rowsW (ls : List (List UInt8)) : total ls = rowsW ls := by
  induction ls with
  | nil => rfl
  | cons x r ih => simp only [total, rowsW, ih]
theorem flat_rowsW (ls : List (List UInt8)) : ls.flatten.length ≤ rowsW ls := by rw [← total_rowsW]; exact total_flatten ls
namespace PD
theorem power_append (P : PD) (a : Int) (parts) (h : P.power = -1) : (P.append a parts).1.power = -1 := by
  unfold append
  split
  · split
    · exact h
    · unfold setData; split <;> simp [drew, drawn, h]
  · exact h
theorem power_trim (P : PD) (a n : Int) (h : P.power = -1) : (P.trim a n).1.power = -1 := by
  unfold trim
  split
  · split
    · exact h
    · unfold setSafe setData; (split <;> split <;> simp [drew, drawn, h])
  · exact h
theorem power_sync (P : PD) (l : List Int) (h : P.power = -1) : (P.sync l).1.power = -1 := by
  cases hl : l.all known
  · unfold sync; rw [hl]; exact h
  · rw [sync_eq P l hl (by omega)]; simp [drawn, h]
theorem len_append (P : PD) (a : Int) (parts) : (P.append a parts).1.d0.length ≤ P.d0.length + parts.flatten.length ∧ (P.append a parts).1.d1.length ≤ P.d1.length + parts.flatten.length := by
  unfold append
  split
  · split
    · exact ⟨Nat.le_add_right _ _, Nat.le_add_right _ _⟩
    · unfold setData data
      split
      · exact ⟨by simp, by simp [drew]⟩
      · exact ⟨by simp [drew], by simp⟩
  · exact ⟨Nat.le_add_right _ _, Nat.le_add_right _ _⟩
theorem len_trim (P : PD) (a n : Int) : (P.trim a n).1.d0.length ≤ P.d0.length ∧ (P.trim a n).1.d1.length ≤ P.d1.length := by
  unfold trim
  split
  · split
    · exact ⟨Nat.le_refl _, Nat.le_refl _⟩
    · unfold setSafe setData data
      split
      · exact ⟨by simp; omega, by simp [drew]⟩
      · exact ⟨by simp [drew], by simp; omega⟩
  · exact ⟨Nat.le_refl _, Nat.le_refl _⟩
theorem len_sync (P : PD) (l : List Int) : (P.sync l).1.d0.length ≤ P.d0.length ∧ (P.sync l).1.d1.length ≤ P.d1.length := by
  cases hl : l.all known
  · unfold sync; rw [hl]; exact ⟨Nat.le_refl _, Nat.le_refl _⟩
  · by_cases hp : P.power = 0
    · unfold sync; rw [hl]; simp [hp]
    · rw [sync_eq P l hl hp]; exact ⟨Nat.le_refl _, Nat.le_refl _⟩
theorem len_crash (P : PD) (ks : List Int) (p : Int) : (P.crash ks p).d0.length ≤ P.d0.length ∧ (P.crash ks p).d1.length ≤ P.d1.length := by
  simp only [crash, List.length_take]
  omega
end PD
theorem wf_i64 {x : Int} (h : (Lit.int .i64 x).wf = true) : -9223372036854775808 ≤ x ∧ x ≤ 9223372036854775807 := by
  simpa [Lit.wf, IntKind.min, IntKind.max, IntKind.bits, IntKind.signed] using h
namespace PD
theorem read_none (P : PD) (a : Int) (h : known a = false) : P.read a = ([], 41) := by unfold read; rw [h]; rfl
theorem read_some (P : PD) (a : Int) (h : known a = true) : P.read a = (P.data a, 0) := by unfold read; rw [h]; rfl
theorem sync_all (P : PD) (h : P.power = -1) : P.sync [] = (⟨-1, P.d0, P.d1, P.d0.length, P.d1.length⟩, 0) := by
  rw [sync_eq P [] rfl (by omega)]
  simp [told, drawn, h]
theorem append_ok (P : PD) (a : Int) (m : List UInt8) (h : P.power = -1) (ha : known a = true) : P.append a [m] = (P.drew.setData a (P.data a ++ m), 0) := by
  unfold append
  rw [ha, if_pos rfl, if_neg (by omega)]
  simp
/-- what a loss of power leaves of what was synced and then added to -/
theorem safe_crash (d0 d1 : List UInt8) (a : Int) (m : List UInt8) (ks : List Int) (ha : known a = true) : ∃ j, j ≤ m.length ∧
    (((((⟨-1, d0, d1, d0.length, d1.length⟩ : PD).append a [m]).1).crash ks (-1)).data a = (⟨-1, d0, d1, d0.length, d1.length⟩ : PD).data a ++ m.take j) := by
  rw [append_ok _ a m rfl ha]
  have key : ∀ (d : List UInt8) (k : Int), ∃ j, j ≤ m.length ∧ (d ++ m).take (left (d ++ m) d.length k) = d ++ m.take j := fun d k => by
    have hl := left_eq (d ++ m) d.length k (by omega) (by simp; omega)
    refine ⟨left (d ++ m) d.length k - d.length, ?_, ?_⟩
    · simp at hl; omega
    · rw [List.take_append, List.take_of_length_le (by simp at hl; omega)]
  rcases known_cases ha with rfl | rfl
  · obtain ⟨j, h1, h2⟩ := key d0 (ks.getD 0 0)
    exact ⟨j, h1, by simpa [crash, data, setData, drew] using h2⟩
  · obtain ⟨j, h1, h2⟩ := key d1 (ks.getD 1 0)
    exact ⟨j, h1, by simpa [crash, data, setData, drew] using h2⟩
theorem left_all (l : List UInt8) : left l l.length 0 = l.length := by unfold left; simp
theorem crash_again (P : PD) (ks : List Int) (p q : Int) (a : Int) (ha : known a = true) : ((P.crash ks p).crash [] q).data a = (P.crash ks p).data a := by
  rcases known_cases ha with rfl | rfl
  · show List.take (left (P.crash ks p).d0 (P.crash ks p).d0.length 0) (P.crash ks p).d0 = (P.crash ks p).d0
    rw [left_all, List.take_length]
  · show List.take (left (P.crash ks p).d1 (P.crash ks p).d1.length 0) (P.crash ks p).d1 = (P.crash ks p).d1
    rw [left_all, List.take_length]
end PD
end Go.Proofs.YtmiejaohkgemnaaDoor

/-
  Two disks that have no block in common. Plain lemmas; no statement.
-/
namespace Go.Proofs.YtmiejaohkgemnaaDoor
open Go.RowKit
set_option linter.unusedVariables false
set_option maxRecDepth 100000

theorem On.other {B g : Nat} {w0 w w' : World} {F G : Nat → Prop} {P : PD} (h : On B w0 w F g P) (hc : Chg G w w') (hG : ∀ i, G i → B ≤ i) (hd : ∀ i, F i → ¬ G i) : On B w0 w' F g P :=
  ⟨h.dk.keep hc hd, h.up, h.be.trans (hc.below hG h.sz), Nat.le_trans h.sz hc.size⟩
structure Two (B : Nat) (w0 w : World) (F : Nat → Prop) (g : Nat) (P : PD) (F' : Nat → Prop) (g' : Nat) (P' : PD) : Prop where
  one : On B w0 w F g P
  two : On B w0 w F' g' P'
  apart : ∀ i, F i → ¬ F' i
section
variable {B g g' : Nat} {w0 w w' : World} {F F' : Nat → Prop} {P P' : PD} {r : PD × Int} {e : Ending}
theorem Two.kept (h : Two B w0 w F g P F' g' P') (hb : Below w.heap.size w w') : Two B w0 w' F g P F' g' P' := ⟨h.one.kept hb, h.two.kept hb, h.apart⟩
theorem Two.did1 (h : Two B w0 w F g P F' g' P') (hd : Did F g r w e w') : e = .returned (.int .i64 r.2) ∧ ∃ G, Two B w0 w' G g r.1 F' g' P' ∧ (∀ i, G i → F i ∨ w.heap.size ≤ i) ∧ Chg F w w' := by
  obtain ⟨he, G, hon, hG, hc⟩ := h.one.did hd
  refine ⟨he, G, ⟨hon, h.two.other hc h.one.up (fun i hi hf => h.apart i hf hi), fun i hi hf => ?_⟩, hG, hc⟩
  rcases hG i hi with q | q
  · exact h.apart i q hf
  · have := h.two.lt i hf; omega
theorem Two.did2 (h : Two B w0 w F g P F' g' P') (hd : Did F' g' r w e w') : e = .returned (.int .i64 r.2) ∧ ∃ G, Two B w0 w' F g P G g' r.1 ∧ (∀ i, G i → F' i ∨ w.heap.size ≤ i) ∧ Chg F' w w' := by
  obtain ⟨he, G, hon, hG, hc⟩ := h.two.did hd
  refine ⟨he, G, ⟨h.one.other hc h.two.up h.apart, hon, fun i hi hf => ?_⟩, hG, hc⟩
  rcases hG i hf with q | q
  · exact h.apart i hi q
  · have := h.one.lt i hi; omega
end
/-- a block that is none of a disk's is left as it is -/
theorem five_chg {F : Nat → Prop} {X : World} {g : Nat} (hg : F g) (a b c d e : Value) : Chg F X (((((X.setCell ⟨g, 0, none⟩ a).setCell ⟨g, 1, none⟩ b).setCell ⟨g, 2, none⟩ c).setCell ⟨g, 3, none⟩ d).setCell ⟨g, 4, none⟩ e) :=
  (((((Chg.refl F X).set (.inl hg) 0 a).set (.inl hg) 1 b).set (.inl hg) 2 c).set (.inl hg) 3 d).set (.inl hg) 4 e
theorem Chg.off {F : Nat → Prop} {w w' : World} {g : Nat} {t : TypeId} {cs : List Value} (hc : Chg F w w') (hk : Bk w g t cs) (hg : ¬ F g) : Bk w' g t cs := hc.bk hk hg
namespace PD
/-- the same disk, its power another -/
def withP (P : PD) (p : Int) : PD := { P with power := p }
theorem setData_with (P : PD) (p a : Int) (l : List UInt8) : (P.withP p).setData a l = (P.setData a l).withP p := by unfold setData withP; split <;> rfl
theorem setSafe_with (P : PD) (p a n : Int) : (P.withP p).setSafe a n = (P.setSafe a n).withP p := by unfold setSafe withP; split <;> rfl
theorem data_with (P : PD) (p a : Int) : (P.withP p).data a = P.data a := rfl
theorem safe_with (P : PD) (p a : Int) : (P.withP p).safe a = P.safe a := rfl
theorem drew_with (P : PD) (p : Int) (hp : 0 < p) (h : P.power = -1) : (P.withP p).drew = P.drew.withP (p - 1) := by
  unfold drew withP drawn
  simp [hp]
theorem marks_with (P : PD) (p : Int) (l : List Int) : l.foldl mark (P.withP p) = (l.foldl mark P).withP p := by
  induction l generalizing P with
  | nil => rfl
  | cons a r ih =>
    rw [List.foldl_cons, List.foldl_cons, ← ih]
    congr 1
    unfold mark
    rw [data_with, setSafe_with]
end PD
end Go.Proofs.YtmiejaohkgemnaaDoor
