/-
  A table of a law's own through its calls; rows that stand beside it. Plain lemmas; no statement.
-/
import Derived.Test.YtbppokdaehaocaaDoorWatchLoad
import Derived.Test.YtbppokdaehaocaaDoorWatchSame
namespace Go.Proofs.YtbppokdaehaocaaDoor
set_option maxRecDepth 100000
open Go.RowKit
set_option linter.unusedVariables false

/-- a table of the law's own: its blocks F are new since w0 -/
structure WOn (F : Nat → Prop) (w0 : World) (g : Nat) (t : List Wt) (w : World) : Prop where
  tb : TbAt F w g t
  low : ∀ k, F k → w0.heap.size ≤ k ∧ k < w.heap.size
  be : Below w0.heap.size w0 w
  ok : WOk t
/-- what a call that changes the table leaves -/
def MvW (F : Nat → Prop) (w0 : World) (g : Nat) (t' : List Wt) (r : Value) (w : World) (e : Ending) (w' : World) : Prop :=
  e = .returned r ∧ ∃ F', WOn F' w0 g t' w' ∧ (∀ k, F' k → F k ∨ w.heap.size ≤ k) ∧ Chg F w w'
/-- watches that were taken out, in a row that the table leaves alone -/
def FireW (F : Nat → Prop) (w0 : World) (g : Nat) (t' xs : List Wt) (w : World) (e : Ending) (w' : World) : Prop :=
  ∃ A c F', e = .returned (.slice A xs.length c) ∧ OwnW w' w.heap.size A xs.length c xs ∧ (∀ b, (Value.slice A xs.length c).ownBlock = some b → ¬ F' b) ∧ WOn F' w0 g t' w' ∧ (∀ k, F' k → F k ∨ w.heap.size ≤ k) ∧ Chg F w w'
theorem WOk.p64 {t : List Wt} (h : WOk t) : ∀ x ∈ t, x.path.length ≤ 64 := fun x hx => wRight_path (h.2.1 x hx)
theorem wLoaded_ok {xs t : List Wt} (h : WOk t) : WOk (wLoaded xs t) := by
  unfold wLoaded
  split
  · assumption
  · exact h
section
variable {F F' : Nat → Prop} {w0 w w' : World} {g : Nat} {t t' : List Wt}
theorem WOn.kept (h : WOn F w0 g t w) (hb : Below w.heap.size w w') : WOn F w0 g t w' :=
  ⟨h.tb.below hb, fun k hk => ⟨(h.low k hk).1, Nat.lt_of_lt_of_le (h.low k hk).2 hb.size⟩, h.be.trans (hb.mono h.be.size), h.ok⟩
theorem WOn.size (h : WOn F w0 g t w) : w0.heap.size ≤ w.heap.size := h.be.size
theorem WOn.env (h : WOn F w0 g t w) (hE : Env w0) : Env w := hE.below h.be
theorem WOn.did {r : Value} {e : Ending} (h : WOn F w0 g t w) (hd : WDid F g t' r w e w') (hk : WOk t') : MvW F w0 g t' r w e w' := by
  obtain ⟨he, F', h1, h2, h3⟩ := hd
  refine ⟨he, fun k => F' k ∧ k < w'.heap.size, ⟨h1.more fun k hk hl => ⟨hk, hl⟩, fun k hk => ⟨?_, hk.2⟩, h.be.trans (h3.below (fun i hi => (h.low i hi).1) h.be.size), hk⟩, fun k hk => h2 k hk.1, h3⟩
  rcases h2 k hk.1 with q | q
  · exact (h.low k q).1
  · exact Nat.le_trans h.be.size q
theorem WOn.of_new {w1 : World} {e : Ending} (hb : Below w0.heap.size w0 w) (h : NewW [] w e w1) : ∃ g F, e = .returned (.pointer (some ⟨g, 0, none⟩)) ∧ WOn F w0 g [] w1 ∧ (∀ k, F k → w.heap.size ≤ k) ∧ Below w.heap.size w w1 := by
  obtain ⟨g, F, he, h1, h2, h3⟩ := h
  exact ⟨g, fun k => F k ∧ k < w1.heap.size, he, ⟨h1.more fun k hk hl => ⟨hk, hl⟩, fun k hk => ⟨Nat.le_trans hb.size (h2 k hk.1), hk.2⟩, hb.trans (h3.mono hb.size), wOk_nil⟩, fun k hk => h2 k hk.1, h3⟩
theorem WOn.add (h : WOn F w0 g t w) (hE : Env w0) (x : Wt) :
    Calls Tryd.prog 12 #[.pointer (some ⟨g, 0, none⟩), .agg #[.int .i64 x.client, .int .i64 x.kind, .string ⟨x.path.toArray⟩]] w (MvW F w0 g (wAdd x t).1 (.int .i64 (wAdd x t).2) w) :=
  (addW_any F g t x w (h.env hE) h.tb h.ok.1 (by have := h.ok.len; omega)).mono fun _ _ hd => h.did hd (h.ok.add x)
theorem WOn.drop (h : WOn F w0 g t w) (CA : Option Addr) (cn cc : Nat) (cs : List Int) (hp : Rd w CA cn (cs.map (.int .i64 ·))) (hm : cn ≤ maxLen) :
    Calls Tryd.prog 20 #[.pointer (some ⟨g, 0, none⟩), .slice CA cn cc] w (MvW F w0 g (wDrop cs t) (.tuple #[]) w) :=
  (dropW_any F g t CA cn cc cs w h.tb (by have := h.ok.len; omega) hp hm).mono fun _ _ hd => h.did hd (h.ok.filter _)
theorem WOn.load (h : WOn F w0 g t w) (hE : Env w0) (LA : Option Addr) (lc : Nat) (xs : List Wt) (FX : Nat → Prop) (hx : RdS RWt FX w LA lc xs) (hlen : xs.length ≤ 1000) :
    Calls Tryd.prog 25 #[.pointer (some ⟨g, 0, none⟩), .slice LA xs.length lc] w (MvW F w0 g (wLoaded xs t) (.bool (wTakes xs)) w) :=
  (loadW_any F g t LA lc xs FX w (h.env hE) h.tb hx hlen).mono fun _ _ hd => h.did hd (wLoaded_ok h.ok)
theorem WOn.fire (h : WOn F w0 g t w) (kind : Int) (PA : Option Addr) (pn pc : Nat) (ps : List (List UInt8)) (hp : RdT w PA pn ps) (hm : pn ≤ maxLen) :
    Calls Tryd.prog 18 #[.pointer (some ⟨g, 0, none⟩), .int .i64 kind, .slice PA pn pc] w (FireW F w0 g (wLeft kind ps t) (wFired kind ps t) w) := by
  refine (fire_any F g t kind PA pn pc ps w h.tb (by have := h.ok.len; omega) hp hm).mono ?_
  rintro e w' ⟨A, c, F', h1, h2, h3, h4, h5, h6⟩
  refine ⟨A, c, fun k => F' k ∧ k < w'.heap.size, h1, h2, fun b hb hf => h5 b hb hf.1, ⟨h3.more fun k hk hl => ⟨hk, hl⟩, fun k hk => ⟨?_, hk.2⟩, h.be.trans (h6.below (fun i hi => (h.low i hi).1) h.be.size), h.ok.filter _⟩, fun k hk => h4 k hk.1, h6⟩
  rcases h4 k hk.1 with q | q
  · exact (h.low k q).1
  · exact Nat.le_trans h.be.size q
theorem WOn.all (h : WOn F w0 g t w) : Calls Tryd.prog 23 #[.pointer (some ⟨g, 0, none⟩)] w (FreshW t w) :=
  allW_any F g t w h.tb (by have := h.ok.len; omega) h.ok.p64
end
/-- a row that stands beside the table -/
def Aside (F : Nat → Prop) (w : World) (A : Option Addr) (c : Nat) (l : List Wt) : Prop := (∃ base, OwnW w base A l.length c l) ∧ ∀ b, (Value.slice A l.length c).ownBlock = some b → ¬ F b
section
variable {F F' : Nat → Prop} {w0 w w' : World} {g c : Nat} {t t' l : List Wt} {A : Option Addr}
theorem Aside.rds (h : Aside F w A c l) : RdS RWt AllB w A c l := by
  obtain ⟨⟨base, h⟩, _⟩ := h
  exact h.rds fun _ _ => trivial
theorem Aside.of_all (ho : OwnW w' w.heap.size A l.length c l) (h : WOn F w0 g t w) : Aside F w' A c l :=
  ⟨⟨_, ho⟩, fun b hb hf => by have h1 := ho.block b hb; have h2 := (h.low b hf).2; omega⟩
theorem Aside.kept (h : Aside F w A c l) (hb : Below w.heap.size w w') : Aside F w' A c l := by
  obtain ⟨⟨base, h1⟩, h2⟩ := h
  exact ⟨⟨base, h1.below hb⟩, h2⟩
theorem Aside.did (h : Aside F w A c l) (hc : Chg F w w') (hF : ∀ k, F' k → F k ∨ w.heap.size ≤ k) : Aside F' w' A c l := by
  obtain ⟨⟨base, h1⟩, h2⟩ := h
  refine ⟨⟨base, hc.ownW h1 h2⟩, fun b hb hf => ?_⟩
  rcases hF b hf with q | q
  · exact h2 b hb q
  · have := h1.lt b hb; omega
end
theorem Box3.did {F : Nat → Prop} {b : Nat} {x : Wt} {w w' : World} (h : Box3 b x w) (hc : Chg F w w') (hb : ¬ F b) : Box3 b x w' := h.chg hc hb
theorem Box3.kept {b : Nat} {x : Wt} {w w' : World} (h : Box3 b x w) (hb : Below w.heap.size w w') : Box3 b x w' := ⟨cell_kept h.1 hb, cell_kept h.2.1 hb, cell_kept h.2.2 hb⟩
theorem Box3.lt {b : Nat} {x : Wt} {w : World} (h : Box3 b x w) : b < w.heap.size := World.block_lt_of_cell? _ _ h.1
end Go.Proofs.YtbppokdaehaocaaDoor
