/-
  Votes as they lie in memory; a tally in memory. Plain lemmas; no statement.
-/
import Derived.Test.YtckmjpbkcpmdpaaTallyPlain
import Derived.Test.YtckmjpbkcpmdpaaMRows
namespace Go.Proofs.Ytckmjpbkcpmdpaa
open Go.RowKit
set_option linter.unusedVariables false

/-- a vote as it lies: where its key and its load are -/
structure Vc where
  v : Vo
  ka : Option Addr
  kn : Nat
  kc : Nat
  la : Option Addr
  ln : Nat
  lc : Nat
instance : Inhabited Vc := ⟨⟨default, none, 0, 0, none, 0, 0⟩⟩
def vc1 (x : Vc) : List Value := [.int .i64 x.v.voter, .int .i64 x.v.rank, .slice x.ka x.kn x.kc, .slice x.la x.ln x.lc]
/-- the cells of votes -/
def vcc : List Vc → List Value
  | [] => []
  | x :: r => .int .i64 x.v.voter :: .int .i64 x.v.rank :: .slice x.ka x.kn x.kc :: .slice x.la x.ln x.lc :: vcc r
theorem vcc_append (a b : List Vc) : vcc (a ++ b) = vcc a ++ vcc b := by
  induction a with
  | nil => rfl
  | cons x r ih => simp [vcc, ih]
theorem vcc_len (l : List Vc) : (vcc l).length = l.length * 4 := by
  induction l with
  | nil => rfl
  | cons x r ih => simp only [vcc, List.length_cons, ih]; omega
theorem vcc_at : ∀ (l : List Vc) (k : Nat) (x : Vc), l[k]? = some x → (vcc l)[k * 4]? = some (.int .i64 x.v.voter) ∧ (vcc l)[k * 4 + 1]? = some (.int .i64 x.v.rank) ∧ (vcc l)[k * 4 + 2]? = some (.slice x.ka x.kn x.kc) ∧ (vcc l)[k * 4 + 3]? = some (.slice x.la x.ln x.lc)
  | [], k, a, h => by simp at h
  | x :: r, 0, a, h => by obtain rfl := Option.some.inj h; exact ⟨rfl, rfl, rfl, rfl⟩
  | x :: r, k + 1, a, h => by
    have := vcc_at r k a h
    rw [show (k + 1) * 4 = k * 4 + 1 + 1 + 1 + 1 by omega]
    exact this
theorem one_vcc (l : List Vc) : ∀ v ∈ vcc l, v.oneCell' = true := by
  induction l with
  | nil => intro v h; cases h
  | cons x r ih =>
    intro v h
    simp only [vcc, List.mem_cons] at h
    rcases h with rfl | rfl | rfl | rfl | h
    · rfl
    · rfl
    · rfl
    · rfl
    · exact ih v h
/-- its key and its load read so -/
def Reads (w : World) (x : Vc) : Prop := Rd w x.ka x.kn (x.v.key.map bv) ∧ Rd w x.la x.ln (x.v.load.map bv)
theorem Reads.below {w w' : World} {x : Vc} (h : Reads w x) (hb : Below w.heap.size w w') : Reads w' x := ⟨h.1.below hb, h.2.below hb⟩
theorem Bk.four {w : World} {g : Nat} {t : TypeId} {a b c d : Value} (h : Bk w g t [a, b, c, d]) :
    w.cell? ⟨g, 0, none⟩ = some a ∧ w.cell? ⟨g, 1, none⟩ = some b ∧ w.cell? ⟨g, 2, none⟩ = some c ∧ w.cell? ⟨g, 3, none⟩ = some d :=
  ⟨h.at_ rfl, h.at_ rfl, h.at_ rfl, h.at_ rfl⟩

theorem info_vote : (Try.prog.info? 55).map (fun i => (i.zero, i.size, i.bytes)) = some (some (.agg #[.int .i64 0, .int .i64 0, .slice none 0 0, .slice none 0 0]), 4, 64) := by kernel_rfl
/-- 'w owns the slice (A, n, c), which holds these votes' -/
def OwnV (w : World) (base : Nat) (A : Option Addr) (n c : Nat) (l : List Vc) : Prop := w.ownsRow base 55 4 (.slice A n c) n (vcc l)
section
variable {w w' : World} {base : Nat} {A : Option Addr} {n c : Nat} {l : List Vc}
theorem OwnV.len (h : OwnV w base A n c l) : l.length = n := by have := h.1; rw [vcc_len] at this; omega
theorem OwnV.below (h : OwnV w base A n c l) (hb : Below w.heap.size w w') : OwnV w' base A n c l :=
  World.ownsRow.kept h (grown_of_below hb none) (by cases (Value.slice A n c).ownBlock <;> simp)
theorem OwnV.alloc (h : OwnV w base A n c l) (o : Obj) : OwnV (w.alloc o) base A n c l := World.ownsRow.alloc h o
theorem OwnV.drewN (h : OwnV w base A n c l) (k : Nat) : OwnV (w.drewN k) base A n c l := h
/-- the cells of a vote in a row -/
theorem OwnV.at_ (h : OwnV w base A n c l) {k : Nat} {x : Vc} (hk : l[k]? = some x) :
    ∃ g, A = some ⟨g, 0, none⟩ ∧ g < w.heap.size ∧ w.cell? ⟨g, k * 4, none⟩ = some (.int .i64 x.v.voter) ∧ w.cell? ⟨g, k * 4 + 1, none⟩ = some (.int .i64 x.v.rank) ∧
      w.cell? ⟨g, k * 4 + 2, none⟩ = some (.slice x.ka x.kn x.kc) ∧ w.cell? ⟨g, k * 4 + 3, none⟩ = some (.slice x.la x.ln x.lc) := by
  have hl := h.len
  have hkn : k < n := by have := (List.getElem?_eq_some_iff.1 hk).1; omega
  obtain ⟨g, cap, hv, _, hlt⟩ := World.ownsRow.form h (by omega)
  injection hv with hA _ _
  subst hA
  obtain ⟨h0, h1, h2, h3⟩ := vcc_at l k x hk
  have c0 := World.ownsRow.cells h (g := g) rfl _ _ h0
  have c1 := World.ownsRow.cells h (g := g) rfl _ _ h1
  have c2 := World.ownsRow.cells h (g := g) rfl _ _ h2
  have c3 := World.ownsRow.cells h (g := g) rfl _ _ h3
  rw [at_add] at c0 c1 c2 c3
  exact ⟨g, rfl, hlt, by simpa using c0, by simpa using c1, by simpa using c2, by simpa using c3⟩
end
theorem OwnV.nil_ (w : World) (base : Nat) : OwnV w base none 0 0 [] := World.ownsRow_nil w base _ 4
theorem own_capV {w : World} {base : Nat} {A : Option Addr} {n c : Nat} {l : List Vc} (h : OwnV w base A n c l) : n ≤ c ∧ c ≤ maxLen := by
  rcases h.2 with ⟨e1, e2⟩ | ⟨g, cap, cur, e1, _, _, hnc, hcm, _⟩
  · injection e1 with _ _ e5
    subst e5
    exact ⟨by omega, by simp [maxLen]⟩
  · injection e1 with _ _ e5
    subst e5
    exact ⟨hnc, hcm⟩
/-- where votes of the call's own lie -/
theorem ownV_at {w : World} {base : Nat} {A : Option Addr} {n c : Nat} {l : List Vc} (h : OwnV w base A n c l) (hn : 0 < n) :
    ∃ g, A = some ⟨g, 0, none⟩ ∧ base ≤ g ∧ n ≤ c ∧ c ≤ maxLen ∧ ∃ rest, Bk w g 55 (vcc l ++ rest) ∧ (vcc l ++ rest).length = c * 4 := by
  rcases h.2 with ⟨_, e2⟩ | ⟨g, cap, cur, e1, hb, hg, hnc, hcm, hsz, ht⟩
  · omega
  · injection e1 with e3 e4 e5
    subst e3 e5
    refine ⟨g, rfl, hb, hnc, hcm, cur.toList.drop (n * 4), ?_, ?_⟩
    · rw [← ht, List.take_append_drop]
      simpa [Bk] using hg
    · rw [← ht, List.take_append_drop]
      simpa using hsz
theorem ownV_back {w : World} {base g n c : Nat} {l : List Vc} {rest : List Value} (h : Bk w g 55 (vcc l ++ rest)) (hc : (vcc l ++ rest).length = c * 4) (hb : base ≤ g) (hn : l.length = n) (hnc : n ≤ c) (hm : c ≤ maxLen) :
    OwnV w base (some ⟨g, 0, none⟩) n c l :=
  ⟨by rw [vcc_len, hn], .inr ⟨g, c, _, rfl, hb, h, hnc, hm, by simpa using hc, by
    show List.take (n * 4) (vcc l ++ rest) = _
    have e : n * 4 = (vcc l).length := by rw [vcc_len, hn]
    rw [e, List.take_left]⟩⟩
theorem Chg.ownV {F : Nat → Prop} {w w' : World} {base n c : Nat} {A : Option Addr} {l : List Vc} (h : Chg F w w') (ho : OwnV w base A n c l) (hv : ∀ k, (Value.slice A n c).ownBlock = some k → ¬ F k) : OwnV w' base A n c l := h.owns ho hv

/-- where the tally g lies, and what it is: its box, its row of votes, their keys and loads; all blocks are of F -/
structure TlAt (w : World) (F : Nat → Prop) (g : Nat) (N : Int) (xs : List Vc) (A : Option Addr) (n c : Nat) : Prop where
  bk : Bk w g 51 [.int .i64 N, .slice A n c]
  row : OwnV w 0 A n c xs
  mine : F g
  frow : ∀ b, (Value.slice A n c).ownBlock = some b → F b ∧ b ≠ g
  rds : ∀ x ∈ xs, Reads w x
  far : ∀ x ∈ xs, ∀ a, x.ka = some a ∨ x.la = some a → F a.block ∧ a.block ≠ g ∧ (Value.slice A n c).ownBlock ≠ some a.block
  lt : ∀ i, F i → i < w.heap.size
/-- the tally g holds these votes -/
def Tl (w : World) (F : Nat → Prop) (g : Nat) (N : Int) (vs : List Vo) : Prop := TyGood N vs ∧ ∃ xs A n c, TlAt w F g N xs A n c ∧ vs = xs.map (·.v)
section
variable {w w' : World} {F G : Nat → Prop} {g : Nat} {N : Int} {xs : List Vc} {A : Option Addr} {n c : Nat} {vs : List Vo}
theorem TlAt.keep (h : TlAt w F g N xs A n c) (hc : Chg G w w') (hd : ∀ i, F i → ¬ G i) : TlAt w' F g N xs A n c :=
  ⟨hc.bk h.bk (hd _ h.mine), hc.ownV h.row (fun k hk => hd _ (h.frow k hk).1), h.mine, h.frow,
    fun x hx => ⟨hc.rd (h.rds x hx).1 (fun a e _ => hd _ (h.far x hx a (.inl e)).1), hc.rd (h.rds x hx).2 (fun a e _ => hd _ (h.far x hx a (.inr e)).1)⟩, h.far, fun i hi => Nat.lt_of_lt_of_le (h.lt i hi) hc.size⟩
theorem TlAt.kept (h : TlAt w F g N xs A n c) (hb : Below w.heap.size w w') : TlAt w' F g N xs A n c := h.keep (Chg.of_below (fun _ => False) hb) (fun _ _ => id)
theorem Tl.keep (h : Tl w F g N vs) (hc : Chg G w w') (hd : ∀ i, F i → ¬ G i) : Tl w' F g N vs := by
  obtain ⟨hg, xs, A, n, c, h, e⟩ := h
  exact ⟨hg, xs, A, n, c, h.keep hc hd, e⟩
theorem Tl.kept (h : Tl w F g N vs) (hb : Below w.heap.size w w') : Tl w' F g N vs := h.keep (Chg.of_below (fun _ => False) hb) (fun _ _ => id)
theorem Tl.alloc (h : Tl w F g N vs) (o : Obj) : Tl (w.alloc o) F g N vs := h.kept ((Below.refl _ _).alloc (Nat.le_refl _) o)
theorem Tl.drewN (h : Tl w F g N vs) (k : Nat) : Tl (w.drewN k) F g N vs := h.kept (below_drewN (Below.refl _ _) k)
theorem Tl.lt (h : Tl w F g N vs) : ∀ i, F i → i < w.heap.size := by
  obtain ⟨_, xs, A, n, c, h, _⟩ := h
  exact h.lt
theorem Tl.good (h : Tl w F g N vs) : TyGood N vs := h.1
end
end Go.Proofs.Ytckmjpbkcpmdpaa
