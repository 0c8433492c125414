/-
  Words for the law that holds a tally against the document's own. Plain lemmas; no statement.
-/
import Derived.Test.YtckmjpbkcpmdpaaTallyLaw2
import Derived.Test.YtckmjpbkcpmdpaaTallyRef4
import Derived.Test.YtckmjpbkcpmdpaaTallyRef5
import Derived.Test.YtckmjpbkcpmdpaaTallyRef6
namespace Go.Proofs.Ytckmjpbkcpmdpaa
open Go.RowKit Go.Sort Go.Shelf
set_option linter.unusedVariables false
set_option maxRecDepth 100000

/-- a tally, which holds vs, and the document's one in its box gb, which holds us -/
structure Tw (w0 w : World) (F G : Nat → Prop) (g gb : Nat) (N : Int) (vs us : List Vo) (A : Option Addr) (n c : Nat) : Prop where
  on : TOn w0.heap.size w0 w F g N vs
  rf : RefM w G A n c N us
  ap : ∀ i, G i → ¬ F i
  bx : Bk w gb 29 [.slice A n c]
  nF : ¬ F gb
  nG : ¬ G gb
  up : w0.heap.size ≤ gb
section
variable {w0 w w' : World} {F G F' G' H : Nat → Prop} {g gb : Nat} {N : Int} {vs us vs' us' : List Vo} {A A' : Option Addr} {n c c' : Nat}
theorem Tw.kept (h : Tw w0 w F G g gb N vs us A n c) (hb : Below w.heap.size w w') : Tw w0 w' F G g gb N vs us A n c :=
  ⟨h.on.kept hb, h.rf.kept hb, h.ap, h.bx.kept hb, h.nF, h.nG, h.up⟩
theorem Tw.chg (h : Tw w0 w F G g gb N vs us A n c) (hc : Chg H w w') (h1 : ∀ i, H i → w0.heap.size ≤ i ∧ ¬ F i ∧ ¬ G i ∧ i ≠ gb) : Tw w0 w' F G g gb N vs us A n c :=
  ⟨⟨h.on.tl.keep hc (fun i hi hh => (h1 i hh).2.1 hi), h.on.up, h.on.be.trans (hc.below (fun i hi => (h1 i hi).1) h.on.sz), Nat.le_trans h.on.sz hc.size⟩,
    h.rf.keep hc (fun i hi hh => (h1 i hh).2.2.1 hi), h.ap, hc.bk h.bx (fun hh => (h1 gb hh).2.2.2 rfl), h.nF, h.nG, h.up⟩
/-- behind a Put of the document's tally, which is laid into its box -/
theorem Tw.ref (h : Tw w0 w F G g gb N vs us A n c) (hb : Below w.heap.size w w') (rf : RefM w' G' A' n c' N us') (hG : ∀ i, G' i → G i ∨ w.heap.size ≤ i) (o : Obj) :
    Tw w0 ((w'.alloc o).setCell ⟨gb, 0, none⟩ (.slice A' n c')) F G' g gb N vs us' A' n c' := by
  have hlt := h.bx.lt
  have h2 := h.kept hb
  have ba : Below w'.heap.size w' (w'.alloc o) := (Below.refl _ _).alloc (Nat.le_refl _) o
  have h3 := h2.kept ba
  have nG' : ¬ G' gb := fun q => (hG gb q).elim h.nG (by omega)
  have ch : Chg (fun i => i = gb) (w'.alloc o) ((w'.alloc o).setCell ⟨gb, 0, none⟩ (.slice A' n c')) := (Chg.refl (fun i => i = gb) _).set (g := gb) (.inl rfl) 0 _
  exact ⟨⟨h3.on.tl.keep ch (fun i hi e => h.nF (by have e' : i = gb := e; rw [← e']; exact hi)), h.on.up, h3.on.be.trans (ch.below (fun i e => by have e' : i = gb := e; rw [e']; exact h.up) h3.on.sz), Nat.le_trans h3.on.sz ch.size⟩,
    (rf.kept ba).keep ch (fun i hi e => nG' (by have e' : i = gb := e; rw [← e']; exact hi)), fun i hi hf => (hG i hi).elim (fun q => h.ap i q hf) (fun q => by have := h.on.lt i hf; omega), h3.bx.set 0 _, h.nF, nG', h.up⟩
/-- behind a Put of the tally -/
theorem Tw.put {X : World} (h : Tw w0 w F G g gb N vs us A n c) (hX : Below w.heap.size w X) (hon : TOn w0.heap.size w0 w' F' g N vs') (hF : ∀ i, F' i → F i ∨ w.heap.size ≤ i) (hc : Chg F X w') : Tw w0 w' F' G g gb N vs' us A n c :=
  ⟨hon, (h.rf.kept hX).keep hc (fun i hi hf => h.ap i hi hf), fun i hi hf => (hF i hf).elim (h.ap i hi) (fun q => by have := h.rf.lt i hi; omega), hc.bk (h.bx.kept hX) h.nF, fun hf => (hF gb hf).elim h.nF (fun q => by have := h.bx.lt; omega), h.nG, h.up⟩
theorem Tw.n64 (h : Tw w0 w F G g gb N vs us A n c) : n ≤ 64 := by
  obtain ⟨hg, xs, h1, h2⟩ := h.rf
  have := h1.row.len
  have := h2.len
  have := hg.n64
  omega
end
/-- Put of a vote whose key is the front of a row of the call's own -/
theorem put_own {B0 : Nat} {w0 Y X : World} {F : Nat → Prop} {g : Nat} {N : Int} {vs : List Vo} {T : Bool} (hon : TOn B0 w0 Y F g N vs) (o : Ov) (hT : tyTakes N vs o.voter o.rank = T) (hok : OvOk o) (hl : o.key.length ≤ 4000 ∧ o.load.length ≤ 4000) (hX : Below Y.heap.size Y X)
    {b5 : Nat} {A5 A6 : Option Addr} {n5 c5 n6 c6 p : Nat} (hp : o.key.length = p) (h5 : OwnB Y b5 A5 n5 c5 (o.key ++ marks 8)) (hf5 : ∀ i, (Value.slice A5 n5 c5).ownBlock = some i → ¬ F i)
    (h6 : OwnB X Y.heap.size A6 n6 c6 o.load) :
    Calls Try.prog 15 #[.pointer (some ⟨g, 0, none⟩), .int .i64 o.voter, .int .i64 o.rank, .slice A5 p c5, .slice A6 n6 c6] X (fun e w' => e = .returned (.bool T) ∧ ∃ F', TOn B0 w0 w' F' g N (tyAfter N vs o.vo) ∧ (∀ i, F' i → F i ∨ Y.heap.size ≤ i) ∧ Chg F X w') := by
  have hn5 : n5 = p + 8 := by have := h5.len; rw [List.length_append, marks_len] at this; omega
  have hr : Rd X A5 p (o.key.map bv) := by
    have := (h5.below hX).rd.front (k := p) (by omega)
    rw [List.map_append, List.take_left' (by rw [List.length_map]; exact hp)] at this
    exact this
  refine (put_any o.voter o.rank o.key o.load A5 p c5 A6 n6 c6 F g N vs X (hon.kept hX).tl hr (fun b e => hf5 b.block (by rw [e]; rfl)) h6.rd (off_lt hon.lt (fun b e => (h6.block b.block (by rw [e]; rfl)))) (by omega) (by omega) hok.2.1.2).mono fun e w' hd => ?_
  obtain ⟨he, F', h1, h2, h3⟩ := (hon.kept hX).put hd
  rw [show tyTakes N vs (Vo.mk o.voter o.rank o.key o.load).voter (Vo.mk o.voter o.rank o.key o.load).rank = T from hT] at he
  exact ⟨he, F', h1, fun i hi => (h2 i hi).imp id (Nat.le_trans hX.size), h3⟩
/-- a row with marks, somewhere later -/
theorem spare_in {Y X : World} {A : Option Addr} {p pc : Nat} {l : List UInt8} (h : Rd Y A p (l.map bv)) (hl : l.length ≤ 4000) (hX : Below Y.heap.size Y X) :
    Calls Try.prog 13 #[.slice A p pc] X (fun e w' => ∃ A n c, e = .returned (.slice A n c) ∧ OwnB w' Y.heap.size A n c (l ++ marks 8) ∧ Below Y.heap.size Y w' ∧ Below X.heap.size X w') :=
  (spare_any A p pc l X (h.below hX) (by have := h.1; rw [List.length_map] at this; omega)).mono fun e w' ⟨A, n, c, he, ho, hb⟩ => ⟨A, n, c, he, ho.more hX.size, below_next hX hb hX.size, hb⟩
theorem same_in {Y X : World} {b b' : Nat} {A A' : Option Addr} {n n' c c' : Nat} {l : List UInt8} (h : OwnB Y b A n c l) (h' : OwnB X b' A' n' c' l) (hX : Below Y.heap.size Y X) :
    Calls Try.prog 17 #[.slice A n c, .slice A' n' c'] X (Quiet (.bool true) X) :=
  sameBytes_self A A' n n' c c' X l (h.below hX).rd h'.rd (by have h1 := (own_cap h).1; have h2 := (own_cap h).2; omega)
theorem same_in2 {Y Z X : World} {b b' : Nat} {A A' : Option Addr} {n n' c c' : Nat} {l : List UInt8} (h : OwnB Y b A n c l) (h' : OwnB Z b' A' n' c' l) (hX : Below Y.heap.size Y X) (hZ : Below Z.heap.size Z X) :
    Calls Try.prog 17 #[.slice A n c, .slice A' n' c'] X (Quiet (.bool true) X) := same_in h (h'.below hZ) hX
theorem ints_in2 {Y Z X : World} {b b' : Nat} {A A' : Option Addr} {n n' c c' : Nat} {l : List Int} (h : OwnI Y b A n c l) (h' : OwnI Z b' A' n' c' l) (hX : Below Y.heap.size Y X) (hZ : Below Z.heap.size Z X) :
    Calls Try.prog 24 #[.slice A n c, .slice A' n' c'] X (Quiet (.bool true) X) := sameInts_self A A' n n' c c' X l (h.below hX).rd (h'.below hZ).rd h.cap
theorem sameB_in {Y Z Z' X : World} {b b' : Nat} {A A' : Option Addr} {n n' c c' : Nat} {l : List UInt8} (h : OwnB Z b A n c l) (h' : OwnB Z' b' A' n' c' l) (hX : Below Y.heap.size Y X) (hZ : Below Z.heap.size Z X) (hZ' : Below Z'.heap.size Z' X) :
    Calls Try.prog 17 #[.slice A n c, .slice A' n' c'] X (fun e w' => e = .returned (.bool true) ∧ Below Y.heap.size Y w' ∧ Below X.heap.size X w') :=
  (same_in2 h h' hZ hZ').mono fun e w' ⟨he, q, hw⟩ => by
    subst hw
    exact ⟨he, below_drewN hX q, below_drewN (Below.refl _ _) q⟩
theorem sameI_in {Y Z Z' X : World} {b b' : Nat} {A A' : Option Addr} {n n' c c' : Nat} {l : List Int} (h : OwnI Z b A n c l) (h' : OwnI Z' b' A' n' c' l) (hX : Below Y.heap.size Y X) (hZ : Below Z.heap.size Z X) (hZ' : Below Z'.heap.size Z' X) :
    Calls Try.prog 24 #[.slice A n c, .slice A' n' c'] X (fun e w' => e = .returned (.bool true) ∧ Below Y.heap.size Y w' ∧ Below X.heap.size X w') :=
  (ints_in2 h h' hZ hZ').mono fun e w' ⟨he, q, hw⟩ => by
    subst hw
    exact ⟨he, below_drewN hX q, below_drewN (Below.refl _ _) q⟩
section
variable {w0 Y Z X : World} {F G : Nat → Prop} {g gb : Nat} {N : Int} {vs us : List Vo} {A : Option Addr} {n c : Nat}
theorem Tw.load_in (h : Tw w0 Y F G g gb N vs us A n c) (a : Int) (hX : Below Y.heap.size Y X) :
    Calls Try.prog 25 #[.pointer (some ⟨g, 0, none⟩), .int .i64 a] X (fun e w' => ∃ A n c, e = .returned (.slice A n c) ∧ OwnB w' Y.heap.size A n c ((tyKnown vs a).getD default).load ∧ Below Y.heap.size Y w' ∧ Below X.heap.size X w') :=
  (load_any a F g N vs X (h.kept hX).on.tl).mono fun e w' ⟨A, n, c, he, ho, hb⟩ => ⟨A, n, c, he, ho.more hX.size, below_next hX hb hX.size, hb⟩
theorem Tw.refLoad_in (h : Tw w0 Y F G g gb N vs us A n c) (a : Int) (hX : Below Y.heap.size Y X) :
    Calls Try.prog 26 #[.agg #[.slice A n c], .int .i64 a] X (fun e w' => ∃ A n c, e = .returned (.slice A n c) ∧ OwnB w' Y.heap.size A n c ((tyKnown us a).getD default).load ∧ Below Y.heap.size Y w' ∧ Below X.heap.size X w') :=
  (refLoad_any a G A n c N us X (h.kept hX).rf h.n64).mono fun e w' ⟨A, n, c, he, ho, hb⟩ => ⟨A, n, c, he, ho.more hX.size, below_next hX hb hX.size, hb⟩
theorem Tw.have_in (h : Tw w0 Y F G g gb N vs us A n c) (r : Int) {b : Nat} {K : Option Addr} {kn kc : Nat} {key : List UInt8} (hk : OwnB Z b K kn kc key) (hX : Below Y.heap.size Y X) (hZ : Below Z.heap.size Z X) :
    Calls Try.prog 27 #[.pointer (some ⟨g, 0, none⟩), .int .i64 r, .slice K kn kc] X (fun e w' => ∃ A n c, e = .returned (.slice A n c) ∧ OwnI w' Y.heap.size A n c (tyHaves vs r key) ∧ Below Y.heap.size Y w' ∧ Below X.heap.size X w') :=
  (have_any r K kn kc key F g N vs X (h.kept hX).on.tl (hk.below hZ).rd).mono fun e w' ⟨A, n, c, he, ho, hb⟩ => ⟨A, n, c, he, ho.more hX.size, below_next hX hb hX.size, hb⟩
theorem Tw.refHave_in (h : Tw w0 Y F G g gb N vs us A n c) (r : Int) {K : Option Addr} {kn kc : Nat} {key : List UInt8} (hk : Rd Y K kn (key.map bv)) (hX : Below Y.heap.size Y X) :
    Calls Try.prog 28 #[.agg #[.slice A n c], .int .i64 r, .slice K kn kc] X (fun e w' => ∃ A n c, e = .returned (.slice A n c) ∧ OwnI w' Y.heap.size A n c (tyHaves us r key) ∧ Below Y.heap.size Y w' ∧ Below X.heap.size X w') :=
  (refHave_any r K kn kc key G A n c N us X (h.kept hX).rf h.n64 (hk.below hX)).mono fun e w' ⟨A, n, c, he, ho, hb⟩ => ⟨A, n, c, he, ho.more hX.size, below_next hX hb hX.size, hb⟩
end
theorem ownI_belowD {w w' : World} {base : Nat} {A : Option Addr} {n c : Nat} {l : List Int} (h : OwnI w base A n c l) (hb : Below w.drew.heap.size w.drew w') : OwnI w' base A n c l := OwnI.below (w := w.drew) h hb
/-- how a loop that writes over a row stands -/
def Wipe (w8 : World) (base : Nat) (A : Option Addr) (n c : Nat) (wr : World) : Prop :=
  ∃ xs, wr.ownsRow base 5 1 (.slice A n c) n xs ∧ Chg (fun i => (Value.slice A n c).ownBlock = some i) w8 wr
theorem wipe_start {w8 : World} {base n c : Nat} {A : Option Addr} {l : List UInt8} (h : OwnB w8 base A n c l) : Wipe w8 base A n c w8 := ⟨_, h, Chg.refl _ _⟩
theorem wipe_here {w8 wr : World} {base n c k : Nat} {A : Option Addr} (h : Wipe w8 base A n c wr) (hk : k < n) :
    ∃ g v, A = some ⟨g, 0, none⟩ ∧ wr.cell? ⟨g, k, none⟩ = some v ∧ wr.frozen? ⟨g, k, none⟩ = false ∧ ∀ u, Wipe w8 base A n c (wr.setCell ⟨g, k, none⟩ u) := by
  obtain ⟨xs, ho, hc⟩ := h
  have hxl : xs.length = n := by simpa using ho.1
  rcases ho.2 with ⟨e1, e2⟩ | ⟨g, cap, cur, e1, _⟩
  · omega
  · injection e1 with e3 e4 e5
    subst e3 e5
    refine ⟨g, xs[k]'(by omega), rfl, ?_, ho.frozenAt k, fun u => ?_⟩
    · rw [ho.cellAt k (by omega)]; exact List.getElem?_eq_getElem _
    · obtain ⟨h1, h2⟩ := ho.stored k u
      exact ⟨_, h1, hc.grown h2 (fun b e => .inl (by injection e with e; subst e; rfl))⟩
end Go.Proofs.Ytckmjpbkcpmdpaa
