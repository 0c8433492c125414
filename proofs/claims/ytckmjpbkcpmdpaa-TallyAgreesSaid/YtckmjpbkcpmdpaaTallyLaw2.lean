/-
  A vote that came in is put: what the laws' loops keep. Plain lemmas; no statement.
-/
import Derived.Test.YtckmjpbkcpmdpaaTallyLaw
import Derived.Test.YtckmjpbkcpmdpaaTallyFacts
namespace Go.Proofs.Ytckmjpbkcpmdpaa
open Go.RowKit Go.Sort Go.Shelf
set_option linter.unusedVariables false
set_option maxRecDepth 100000

def Ov.vo (o : Ov) : Vo := ⟨o.voter, o.rank, o.key, o.load⟩
/-- Put of a vote whose key and load are the call's own -/
theorem put_in {B0 : Nat} {w0 Y X : World} {F : Nat → Prop} {g : Nat} {N : Int} {vs : List Vo} (hon : TOn B0 w0 Y F g N vs) (o : Ov) (hok : OvOk o) (hl : o.key.length ≤ 4000 ∧ o.load.length ≤ 4000) {A5 A6 : Option Addr} {n5 c5 n6 c6 : Nat} (hX : Below Y.heap.size Y X)
    (h5 : OwnB X Y.heap.size A5 n5 c5 o.key) (h6 : OwnB X Y.heap.size A6 n6 c6 o.load) :
    Calls Try.prog 15 #[.pointer (some ⟨g, 0, none⟩), .int .i64 o.voter, .int .i64 o.rank, .slice A5 n5 c5, .slice A6 n6 c6] X (fun e w' => e = .returned (.bool (tyTakes N vs o.voter o.rank)) ∧ Below B0 w0 w' ∧ ∃ F', TOn B0 w0 w' F' g N (tyAfter N vs o.vo) ∧ (∀ i, F' i → F i ∨ Y.heap.size ≤ i) ∧ Chg F X w') :=
  (put_any o.voter o.rank o.key o.load A5 n5 c5 A6 n6 c6 F g N vs X (hon.kept hX).tl h5.rd (off_lt hon.lt (fun b e => (h5.block b.block (by rw [e]; rfl)))) h6.rd (off_lt hon.lt (fun b e => (h6.block b.block (by rw [e]; rfl)))) (by omega) (by omega) hok.2.1.2).mono fun e w' hd => by
    obtain ⟨he, F', h1, h2, h3⟩ := (hon.kept hX).put hd
    exact ⟨he, h1.be, F', h1, fun i hi => (h2 i hi).imp id (Nat.le_trans hX.size), h3⟩
/-- a copy of bytes that are there -/
theorem copy_in {Y X : World} {A : Option Addr} {p pc : Nat} {l : List UInt8} (h : Rd Y A p (l.map bv)) (hl : l.length ≤ 4000) (hX : Below Y.heap.size Y X) :
    Calls Try.prog 16 #[.slice A p pc] X (fun e w' => ∃ A n c, e = .returned (.slice A n c) ∧ OwnB w' Y.heap.size A n c l ∧ Below Y.heap.size Y w' ∧ Below X.heap.size X w') :=
  (copyBytes_any A p pc l X (h.below hX) (by have := h.1; rw [List.length_map] at this; omega)).mono fun e w' ⟨A, n, c, he, ho, hb⟩ => ⟨A, n, c, he, ho.more hX.size, below_next hX hb hX.size, hb⟩
theorem TyGood.after {N : Int} {vs : List Vo} {o : Ov} (h : TyGood N vs) (hl : o.key.length ≤ 4000 ∧ o.load.length ≤ 4000) (hr : o.rank ≤ 9223372036854775807) : TyGood N (tyAfter N vs o.vo) := by
  unfold tyAfter
  by_cases ht : tyTakes N vs o.vo.voter o.vo.rank = true
  · rw [if_pos ht]
    unfold tyTakes at ht
    simp only [Bool.and_eq_true, decide_eq_true_eq] at ht
    exact h.put ⟨ht.1.1.1, ht.1.1.2, ht.1.2, hr, by show o.key.length ≤ _; omega, by show o.load.length ≤ _; omega⟩
  · rw [if_neg ht]; exact h
theorem after_mem {N : Int} {vs : List Vo} {v u : Vo} (h : u ∈ tyAfter N vs v) : u ∈ vs ∨ (u = v ∧ tyTakes N vs v.voter v.rank = true) := by
  unfold tyAfter at h
  by_cases ht : tyTakes N vs v.voter v.rank = true
  · rw [if_pos ht] at h
    rcases tyPut_mem.1 h with q | q
    · exact .inr ⟨q, ht⟩
    · exact .inl q.1
  · rw [if_neg ht] at h; exact .inl h
theorem takes_over {N : Int} {vs : List Vo} (h : TyGood N vs) {a r : Int} (ht : tyTakes N vs a r = true) {u : Vo} (hu : u ∈ vs) (e : u.voter = a) : u.rank < r := by
  unfold tyTakes at ht
  rw [← e, h.known_of hu] at ht
  simp only [Bool.and_eq_true, decide_eq_true_eq] at ht
  exact ht.2
/-- two rows of voters, each more than half of all, have one in common -/
theorem common {n : Nat} {l1 l2 : List Int} (h1 : l1.Nodup) (h2 : l2.Nodup) (r1 : ∀ x ∈ l1, 0 ≤ x ∧ x < n) (r2 : ∀ x ∈ l2, 0 ≤ x ∧ x < n) (hl : n < l1.length + l2.length) : ∃ x, x ∈ l1 ∧ x ∈ l2 := by
  refine Classical.byContradiction fun hn => ?_
  have := few_ints n (l1 ++ l2) (List.nodup_append.2 ⟨h1, h2, fun a ha b hb e => hn ⟨a, ha, by rw [e]; exact hb⟩⟩) (fun x hx => by
    rcases List.mem_append.1 hx with q | q
    · exact r1 x q
    · exact r2 x q)
  rw [List.length_append] at this
  omega
theorem haves_range {N : Int} {vs : List Vo} (h : TyGood N vs) (r : Int) (k : List UInt8) : ∀ x ∈ tyHaves vs r k, 0 ≤ x ∧ x < (N.toNat : Int) := fun x hx => by
  obtain ⟨u, hu, _, _, rfl⟩ := tyHaves_mem.1 hx
  have h1 := h.rng u hu
  have h2 := h.n0
  omega
theorem up_nodup {l : List Int} (h : l.Pairwise (· < ·)) : l.Nodup := h.imp (fun {a b} hab => by omega)
/-- two quorums of one rank agree on one key, with a Put between them -/
theorem quorums_one {N : Int} {vs : List Vo} {v : Vo} (h : TyGood N vs) (h' : TyGood N (tyAfter N vs v)) {k : Int} (hk : N < 2 * k) {a b : Vo} (ha : tyAgree vs k = some a) (hb : tyAgree (tyAfter N vs v) k = some b) (e : a.rank = b.rank) : a.key = b.key := by
  obtain ⟨_, a2, _⟩ := tyAgree_some h.srt ha
  obtain ⟨_, b2, _⟩ := tyAgree_some h'.srt hb
  have e1 := tyBehind_one k
  have hn := h.n0
  obtain ⟨x, x1, x2⟩ := common (n := N.toNat) (up_nodup (tyHaves_up h.srt a.rank a.key)) (up_nodup (tyHaves_up h'.srt b.rank b.key)) (haves_range h _ _) (haves_range h' _ _) (by omega)
  obtain ⟨u, u1, u2, u3, u4⟩ := tyHaves_mem.1 x1
  obtain ⟨z, z1, z2, z3, z4⟩ := tyHaves_mem.1 x2
  rcases after_mem z1 with q | ⟨q, qt⟩
  · have := h.one u1 q (by rw [u4, z4])
    rw [← u3, ← z3, this]
  · have := takes_over h qt u1 (by rw [u4, ← z4, q])
    rw [q] at z2
    omega
theorem once_takes (N : Int) (vs : List Vo) (a r : Int) : tyTakes N vs a r = (decide (0 ≤ a) && decide (a < N) && decide (0 ≤ r) && (!(tyKnown vs a).isSome || decide (((tyKnown vs a).getD default).rank < r))) := by
  unfold tyTakes
  cases tyKnown vs a <;> simp
/-- a voter's vote behind a Put of its own -/
theorem once_known {N : Int} {vs : List Vo} (h : TyGood N vs) (o : Ov) (hl : o.key.length ≤ 4000 ∧ o.load.length ≤ 4000) (hr : o.rank ≤ 9223372036854775807) :
    (tyTakes N vs o.voter o.rank = true → (tyKnown (tyAfter N vs o.vo) o.voter).isSome = true ∧ ((tyKnown (tyAfter N vs o.vo) o.voter).getD default).rank = o.rank ∧ ((tyKnown (tyAfter N vs o.vo) o.voter).getD default).load = o.load) ∧
    (tyTakes N vs o.voter o.rank = false → (tyKnown (tyAfter N vs o.vo) o.voter).isSome = (tyKnown vs o.voter).isSome ∧ ((tyKnown (tyAfter N vs o.vo) o.voter).getD default).rank = ((tyKnown vs o.voter).getD default).rank ∧ ((tyKnown (tyAfter N vs o.vo) o.voter).getD default).load = ((tyKnown vs o.voter).getD default).load) := by
  have hg := h.after (o := o) hl hr
  constructor
  · intro ht
    have hm : o.vo ∈ tyAfter N vs o.vo := by
      unfold tyAfter
      rw [if_pos (by exact ht)]
      exact tyPut_mem.2 (.inl rfl)
    have e : tyKnown (tyAfter N vs o.vo) o.voter = some o.vo := hg.known_of hm
    rw [e]
    exact ⟨rfl, rfl, rfl⟩
  · intro ht
    have e : tyAfter N vs o.vo = vs := by
      unfold tyAfter
      rw [if_neg (by show ¬ tyTakes N vs o.voter o.rank = true; rw [ht]; simp)]
    rw [e]
    exact ⟨rfl, rfl, rfl⟩
end Go.Proofs.Ytckmjpbkcpmdpaa
