/-
  A book in memory, what its calls leave, a book of a law's own through its calls; the reference's book in a variable beside it. The calls' contracts are asked of the program in one word (BookCalls). Plain lemmas; no statement.
-/
import Derived.Test.YtfbdmemjojjgnaaSessRef3
import Derived.Test.YtfbdmemjojjgnaaSessMap
namespace Go.Proofs.Ytfbdmemjojjgnaa
set_option maxRecDepth 100000
open Go.RowKit
set_option linter.unusedVariables false

/-- a call that changes the book: what it answers, and the book behind it -/
def SDid (F : Nat → Prop) (g : Nat) (t' : List Se) (r : Value) (w : World) (e : Ending) (w' : World) : Prop :=
  e = .returned r ∧ ∃ F', SeAt F' w' g t' ∧ (∀ k, F' k → F k ∨ w.heap.size ≤ k) ∧ Chg F w w'
/-- a call that takes sessions out: the clients, in a new row apart from the book -/
def SGone (F : Nat → Prop) (g : Nat) (t' : List Se) (cs : List Int) (w : World) (e : Ending) (w' : World) : Prop :=
  ∃ A c F', e = .returned (.slice A cs.length c) ∧ OwnI w' w.heap.size A cs.length c cs ∧ (∀ b, (Value.slice A cs.length c).ownBlock = some b → ¬ F' b) ∧ SeAt F' w' g t' ∧ (∀ k, F' k → F k ∨ w.heap.size ≤ k) ∧ Chg F w w'
/-- a new book -/
def NewBook (t : List Se) (w : World) (e : Ending) (w' : World) : Prop :=
  ∃ g F, e = .returned (.pointer (some ⟨g, 0, none⟩)) ∧ SeAt F w' g t ∧ (∀ k, F k → w.heap.size ≤ k) ∧ Below w.heap.size w w'
/-- what the laws ask of the program's calls -/
structure BookCalls : Prop where
  new_ : ∀ w, Calls Try.prog 9 #[] w (NewBook [] w)
  open_ : ∀ (F : Nat → Prop) (g : Nat) (t : List Se) (x : Se) (w : World), SeAt F w g t → SOk t → Calls Try.prog 14 #[.pointer (some ⟨g, 0, none⟩), .int .i64 x.client, .int .i64 x.span, .int .i64 x.seen] w (SDid F g (seOpen x t).1 (.int .i64 (seOpen x t).2) w)
  touch_ : ∀ (F : Nat → Prop) (g : Nat) (t : List Se) (cl now : Int) (w : World), SeAt F w g t → SOk t → (Lit.int .i64 cl).wf = true → Calls Try.prog 16 #[.pointer (some ⟨g, 0, none⟩), .int .i64 cl, .int .i64 now] w (SDid F g (seTouch cl now t).1 (.int .i64 (seTouch cl now t).2) w)
  expire_ : ∀ (F : Nat → Prop) (g : Nat) (t : List Se) (now : Int) (w : World), SeAt F w g t → SOk t → Calls Try.prog 18 #[.pointer (some ⟨g, 0, none⟩), .int .i64 now] w (SGone F g (seLeft (seEnds now) t) (seGone (seEnds now) t) w)
  close_ : ∀ (F : Nat → Prop) (g : Nat) (t : List Se) (CA : Option Addr) (cn cc : Nat) (cs : List Int) (w : World), SeAt F w g t → SOk t → Rd w CA cn (cs.map (.int .i64 ·)) → cn ≤ maxLen → Calls Try.prog 21 #[.pointer (some ⟨g, 0, none⟩), .slice CA cn cc] w (SGone F g (seLeft (seIn cs) t) (seGone (seIn cs) t) w)
  live_ : ∀ (F : Nat → Prop) (g : Nat) (t : List Se) (cl : Int) (w : World), SeAt F w g t → SOk t → (Lit.int .i64 cl).wf = true → Calls Try.prog 25 #[.pointer (some ⟨g, 0, none⟩), .int .i64 cl] w (Ans (.bool (seLive cl t)) w)
  all_ : ∀ (F : Nat → Prop) (g : Nat) (t : List Se) (w : World), SeAt F w g t → SOk t → Calls Try.prog 24 #[.pointer (some ⟨g, 0, none⟩)] w (FreshE t w)
  load_ : ∀ (F : Nat → Prop) (g : Nat) (t : List Se) (LA : Option Addr) (lc : Nat) (xs : List Se) (FX : Nat → Prop) (w : World), SeAt F w g t → SOk t → RdS RSe FX w LA lc xs → xs.length ≤ 1000 → Calls Try.prog 12 #[.pointer (some ⟨g, 0, none⟩), .slice LA xs.length lc] w (SDid F g (seLoaded xs t) (.bool (seTakes xs)) w)
/-- a book of the law's own: its blocks F are new since w0 -/
structure SOn (F : Nat → Prop) (w0 : World) (g : Nat) (t : List Se) (w : World) : Prop where
  tb : SeAt F w g t
  low : ∀ k, F k → w0.heap.size ≤ k ∧ k < w.heap.size
  be : Below w0.heap.size w0 w
  ok : SOk t
def MvS (F : Nat → Prop) (w0 : World) (g : Nat) (t' : List Se) (r : Value) (w : World) (e : Ending) (w' : World) : Prop :=
  e = .returned r ∧ ∃ F', SOn F' w0 g t' w' ∧ (∀ k, F' k → F k ∨ w.heap.size ≤ k) ∧ Chg F w w'
def GoneS (F : Nat → Prop) (w0 : World) (g : Nat) (t' : List Se) (cs : List Int) (w : World) (e : Ending) (w' : World) : Prop :=
  ∃ A c F', e = .returned (.slice A cs.length c) ∧ OwnI w' w.heap.size A cs.length c cs ∧ (∀ b, (Value.slice A cs.length c).ownBlock = some b → ¬ F' b) ∧ SOn F' w0 g t' w' ∧ (∀ k, F' k → F k ∨ w.heap.size ≤ k) ∧ Chg F w w'
theorem seLoaded_ok {xs t : List Se} (h : SOk t) : SOk (seLoaded xs t) := by
  unfold seLoaded
  split
  · rename_i q; exact of_decide_eq_true q
  · exact h
section
variable {F F' G : Nat → Prop} {w0 w w' : World} {g gm : Nat} {t t' T T' : List Se}
theorem SOn.kept (h : SOn F w0 g t w) (hb : Below w.heap.size w w') : SOn F w0 g t w' :=
  ⟨h.tb.below hb, fun k hk => ⟨(h.low k hk).1, Nat.lt_of_lt_of_le (h.low k hk).2 hb.size⟩, h.be.trans (hb.mono h.be.size), h.ok⟩
theorem SOn.size (h : SOn F w0 g t w) : w0.heap.size ≤ w.heap.size := h.be.size
theorem SOn.low' (h : SOn F w0 g t w) (hF : ∀ k, F' k → F k ∨ w.heap.size ≤ k) (hk : w'.heap.size ≥ w.heap.size) : ∀ k, F' k ∧ k < w'.heap.size → w0.heap.size ≤ k ∧ k < w'.heap.size := fun k hk => by
  refine ⟨?_, hk.2⟩
  rcases hF k hk.1 with q | q
  · exact (h.low k q).1
  · exact Nat.le_trans h.be.size q
theorem SOn.did {r : Value} {e : Ending} (h : SOn F w0 g t w) (hd : SDid F g t' r w e w') (hk : SOk t') : MvS F w0 g t' r w e w' := by
  obtain ⟨he, F', h1, h2, h3⟩ := hd
  exact ⟨he, fun k => F' k ∧ k < w'.heap.size, ⟨h1.more fun k hk hl => ⟨hk, hl⟩, h.low' h2 h3.size, h.be.trans (h3.below (fun i hi => (h.low i hi).1) h.be.size), hk⟩, fun k hk => h2 k hk.1, h3⟩
theorem SOn.gone {cs : List Int} {e : Ending} (h : SOn F w0 g t w) (hd : SGone F g t' cs w e w') (hk : SOk t') : GoneS F w0 g t' cs w e w' := by
  obtain ⟨A, c, F', he, ho, hn, h1, h2, h3⟩ := hd
  exact ⟨A, c, fun k => F' k ∧ k < w'.heap.size, he, ho, fun b hb hf => hn b hb hf.1, ⟨h1.more fun k hk hl => ⟨hk, hl⟩, h.low' h2 h3.size, h.be.trans (h3.below (fun i hi => (h.low i hi).1) h.be.size), hk⟩, fun k hk => h2 k hk.1, h3⟩
theorem SOn.of_new {w1 : World} {e : Ending} (hb : Below w0.heap.size w0 w) (h : NewBook [] w e w1) : ∃ g F, e = .returned (.pointer (some ⟨g, 0, none⟩)) ∧ SOn F w0 g [] w1 ∧ (∀ k, F k → w.heap.size ≤ k) ∧ Below w.heap.size w w1 := by
  obtain ⟨g, F, he, h1, h2, h3⟩ := h
  exact ⟨g, fun k => F k ∧ k < w1.heap.size, he, ⟨h1.more fun k hk hl => ⟨hk, hl⟩, fun k hk => ⟨Nat.le_trans hb.size (h2 k hk.1), hk.2⟩, hb.trans (h3.mono hb.size), sok_nil⟩, fun k hk => h2 k hk.1, h3⟩
theorem SOn.open_ (HC : BookCalls) (h : SOn F w0 g t w) (x : Se) :
    Calls Try.prog 14 #[.pointer (some ⟨g, 0, none⟩), .int .i64 x.client, .int .i64 x.span, .int .i64 x.seen] w (MvS F w0 g (seOpen x t).1 (.int .i64 (seOpen x t).2) w) :=
  (HC.open_ F g t x w h.tb h.ok).mono fun _ _ hd => h.did hd (h.ok.opened x)
theorem SOn.touch_ (HC : BookCalls) (h : SOn F w0 g t w) (cl now : Int) (hw : (Lit.int .i64 cl).wf = true) :
    Calls Try.prog 16 #[.pointer (some ⟨g, 0, none⟩), .int .i64 cl, .int .i64 now] w (MvS F w0 g (seTouch cl now t).1 (.int .i64 (seTouch cl now t).2) w) :=
  (HC.touch_ F g t cl now w h.tb h.ok hw).mono fun _ _ hd => h.did hd (h.ok.touch cl now)
theorem SOn.expire_ (HC : BookCalls) (h : SOn F w0 g t w) (now : Int) :
    Calls Try.prog 18 #[.pointer (some ⟨g, 0, none⟩), .int .i64 now] w (GoneS F w0 g (seLeft (seEnds now) t) (seGone (seEnds now) t) w) :=
  (HC.expire_ F g t now w h.tb h.ok).mono fun _ _ hd => h.gone hd (h.ok.left _)
theorem SOn.close_ (HC : BookCalls) (h : SOn F w0 g t w) (CA : Option Addr) (cn cc : Nat) (cs : List Int) (hp : Rd w CA cn (cs.map (.int .i64 ·))) (hm : cn ≤ maxLen) :
    Calls Try.prog 21 #[.pointer (some ⟨g, 0, none⟩), .slice CA cn cc] w (GoneS F w0 g (seLeft (seIn cs) t) (seGone (seIn cs) t) w) :=
  (HC.close_ F g t CA cn cc cs w h.tb h.ok hp hm).mono fun _ _ hd => h.gone hd (h.ok.left _)
theorem SOn.live_ (HC : BookCalls) (h : SOn F w0 g t w) (cl : Int) (hw : (Lit.int .i64 cl).wf = true) : Calls Try.prog 25 #[.pointer (some ⟨g, 0, none⟩), .int .i64 cl] w (Ans (.bool (seLive cl t)) w) := HC.live_ F g t cl w h.tb h.ok hw
theorem SOn.all_ (HC : BookCalls) (h : SOn F w0 g t w) : Calls Try.prog 24 #[.pointer (some ⟨g, 0, none⟩)] w (FreshE t w) := HC.all_ F g t w h.tb h.ok
theorem SOn.load_ (HC : BookCalls) (h : SOn F w0 g t w) (LA : Option Addr) (lc : Nat) (xs : List Se) (FX : Nat → Prop) (hx : RdS RSe FX w LA lc xs) (hlen : xs.length ≤ 1000) :
    Calls Try.prog 12 #[.pointer (some ⟨g, 0, none⟩), .slice LA xs.length lc] w (MvS F w0 g (seLoaded xs t) (.bool (seTakes xs)) w) :=
  (HC.load_ F g t LA lc xs FX w h.tb h.ok hx hlen).mono fun _ _ hd => h.did hd (seLoaded_ok h.ok)
theorem SOn.other (h : SOn F w0 g t w) (hc : Chg G w w') (hG : ∀ k, F k → ¬ G k) (hb : Below w0.heap.size w0 w') : SOn F w0 g t w' :=
  ⟨h.tb.chg hc fun k hk _ => hG k hk, fun k hk => ⟨(h.low k hk).1, Nat.lt_of_lt_of_le (h.low k hk).2 hc.size⟩, hb, h.ok⟩
/-- a store into the reference's variable leaves the program's book -/
theorem SOn.set_far {v : Value} (h : SOn F w0 g t w) (hn : ¬ F gm) (hg : w0.heap.size ≤ gm) : SOn F w0 g t (w.setCell ⟨gm, 0, none⟩ v) := by
  have g1 := grown_set (grown_refl w (some gm)) 0 v
  have hc : Chg (fun b => b = gm) w (w.setCell ⟨gm, 0, none⟩ v) := (Chg.refl _ _).grown g1 fun b hb => .inl (Option.some.inj hb).symm
  exact h.other hc (fun k hk e => hn (e ▸ hk)) (h.be.grown g1 h.be.size fun b hb => by have := Option.some.inj hb; omega)
/-- the reference's book T in the variable at gm, apart from the blocks of G -/
def RefV (G : Nat → Prop) (gm : Nat) (T : List Se) (w : World) : Prop :=
  ∃ A c, Bk w gm 29 [.slice A T.length c] ∧ RdS RSe (fun b => ¬ G b ∧ b ≠ gm) w A c T ∧ ¬ G gm
variable {G' : Nat → Prop}
theorem RefV.below (h : RefV G gm T w) (hb : Below w.heap.size w w') : RefV G gm T w' := by
  obtain ⟨A, c, h1, h2, h3⟩ := h
  exact ⟨A, c, h1.kept hb, h2.below hb, h3⟩
theorem RefV.lt (h : RefV G gm T w) : gm < w.heap.size := by
  obtain ⟨A, c, h1, _⟩ := h
  exact h1.lt
theorem RefV.did (h : RefV G gm T w) (hc : Chg G w w') (hG : ∀ k, G' k → G k ∨ w.heap.size ≤ k) : RefV G' gm T w' := by
  obtain ⟨A, c, h1, h2, h3⟩ := h
  refine ⟨A, c, hc.bk h1 h3, h2.keep ⟨hc.size, fun b hb hl => hc.block b hl hb.1⟩ fun b hb hl => ⟨fun q => (hG b q).elim hb.1 fun q => by omega, hb.2⟩, fun q => (hG gm q).elim h3 fun q => ?_⟩
  have := h1.lt
  omega
theorem RefV.put {A' : Option Addr} {c' : Nat} (h : RefV G gm T w) (hb : Below w.heap.size w w') (hG : ∀ k, G k → k < w.heap.size) (hr : RdS RSe (fun b => (¬ G b ∧ b ≠ gm) ∨ w.heap.size ≤ b) w' A' c' T') :
    RefV G gm T' (w'.setCell ⟨gm, 0, none⟩ (.slice A' T'.length c')) := by
  obtain ⟨A, c, h1, h2, h3⟩ := h
  have hlt := h1.lt
  have g1 := grown_set (grown_refl w' (some gm)) 0 (.slice A' T'.length c')
  refine ⟨A', c', (h1.kept hb).set 0 _, ?_, h3⟩
  have h4 := hr.keep (F' := fun b => ¬ G b ∧ b ≠ gm) ⟨Nat.le_refl _, fun _ _ _ => rfl⟩ fun b q _ => q.elim id fun q => ⟨fun hg => by have := hG b hg; omega, by omega⟩
  exact h4.keep (Kp.of_grown g1 fun b hb e => hb.2 (Option.some.inj e)) fun b hb _ => hb
theorem RefV.new (hG : ∀ k, G k → k < w.heap.size) : RefV G w.heap.size [] (w.alloc (.cells #[.slice none 0 0] 29)) :=
  ⟨none, 0, Bk.new w 29 [.slice none 0 0], RdS.nil_ _ _ _, fun h => by have := hG _ h; omega⟩
theorem RefV.notin (h : RefV G gm T w) : ¬ G gm := h.choose_spec.choose_spec.2.2
end
/-- a row that stands beside the book -/
def AsideE (F : Nat → Prop) (w : World) (A : Option Addr) (c : Nat) (l : List Se) : Prop := (∃ base, OwnE w base A l.length c l) ∧ ∀ b, (Value.slice A l.length c).ownBlock = some b → ¬ F b
section
variable {F F' : Nat → Prop} {w0 w w' : World} {g c : Nat} {t t' l : List Se} {A : Option Addr}
theorem AsideE.rds (h : AsideE F w A c l) : RdS RSe AllB w A c l := by
  obtain ⟨⟨base, h⟩, _⟩ := h
  exact h.rds fun _ _ => trivial
theorem AsideE.of_all (ho : OwnE w' w.heap.size A l.length c l) (h : SOn F w0 g t w) : AsideE F w' A c l :=
  ⟨⟨_, ho⟩, fun b hb hf => by have h1 := ho.block b hb; have h2 := (h.low b hf).2; omega⟩
theorem AsideE.kept (h : AsideE F w A c l) (hb : Below w.heap.size w w') : AsideE F w' A c l := by
  obtain ⟨⟨base, h1⟩, h2⟩ := h
  exact ⟨⟨base, h1.below hb⟩, h2⟩
theorem AsideE.did (h : AsideE F w A c l) (hc : Chg F w w') (hF : ∀ k, F' k → F k ∨ w.heap.size ≤ k) : AsideE F' w' A c l := by
  obtain ⟨⟨base, h1⟩, h2⟩ := h
  refine ⟨⟨base, hc.ownE h1 h2⟩, fun b hb hf => ?_⟩
  rcases hF b hf with q | q
  · exact h2 b hb q
  · have := h1.lt b hb; omega
end
end Go.Proofs.Ytfbdmemjojjgnaa
