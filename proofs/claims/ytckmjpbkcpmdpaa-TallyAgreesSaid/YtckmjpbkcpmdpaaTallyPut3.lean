/-
  tally: what Put lays, as plain facts. Plain lemmas; no statement.
-/
import Derived.Test.YtckmjpbkcpmdpaaTallyPut2
namespace Go.Proofs.Ytckmjpbkcpmdpaa
open Go.RowKit Go.Sort Go.Shelf
set_option linter.unusedVariables false
set_option maxRecDepth 100000

theorem ids_more {xs : List Vc} {x : Vc} (h : (xs.map (·.v)).Pairwise fun a b => a.voter ≠ b.voter) : ((vcOthers x.v.voter xs ++ [x]).map (·.v)).Pairwise fun a b => a.voter ≠ b.voter := by
  rw [List.map_append, List.pairwise_append]
  refine ⟨?_, by simp, fun u hu v hv => ?_⟩
  · rw [← vcOthers_v]; exact h.filter _
  · rw [← vcOthers_v] at hu
    simp only [List.map_cons, List.map_nil, List.mem_singleton] at hv
    rw [hv]
    exact (tyOthers_mem.1 hu).2
theorem put_is {N : Int} {xs ys : List Vc} {x : Vc} (h : TyGood N (xs.map (·.v))) (hp : ys.Perm (vcOthers x.v.voter xs ++ [x])) (hs : (ys.map (·.v)).Pairwise LtV) : tyPut (xs.map (·.v)) x.v = ys.map (·.v) := by
  refine srt_unique ?_ (tyIns_srt (h.srt.filter _) (fun u hu => (tyOthers_mem.1 hu).2)) hs
  refine (tyIns_perm _ _).trans ?_
  refine List.Perm.trans ?_ (hp.map _).symm
  rw [List.map_append, vcOthers_v]
  exact (List.perm_append_comm (l₁ := [x.v]))
theorem vote_cells (w : World) (x : Vc) (t : TypeId) : ∀ j v, [Value.int .i64 x.v.voter, .int .i64 x.v.rank, .slice x.ka x.kn x.kc, .slice x.la x.ln x.lc][j]? = some v → (w.alloc (.cells #[.int .i64 x.v.voter, .int .i64 x.v.rank, .slice x.ka x.kn x.kc, .slice x.la x.ln x.lc] t)).cell? ((⟨w.heap.size, 0, none⟩ : Addr).add j) = some v := by
  intro j v hj
  have K := Bk.new w t [Value.int .i64 x.v.voter, .int .i64 x.v.rank, .slice x.ka x.kn x.kc, .slice x.la x.ln x.lc]
  rw [at_add, Nat.zero_add]
  exact (K.cell j).trans hj
/-- a vote behind a row of the call's own -/
theorem app_vote (X : World) (A : Option Addr) (n c : Nat) (l : List Vc) (x : Vc) (ho : OwnV X 0 A n c l) (hn : n ≤ 64) :
    ∃ A' c' w', (Builtin.append_ #[49, 49] 49 #[.slice A n c, .slice (some ⟨X.heap.size, 0, none⟩) 1 1]).run Try.prog (X.alloc (.cells #[.int .i64 x.v.voter, .int .i64 x.v.rank, .slice x.ka x.kn x.kc, .slice x.la x.ln x.lc] 55)) = .ok (.slice A' (n + 1) c') w' ∧
      OwnV w' 0 A' (n + 1) c' (l ++ [x]) ∧ (X.alloc (.cells #[.int .i64 x.v.voter, .int .i64 x.v.rank, .slice x.ka x.kn x.kc, .slice x.la x.ln x.lc] 55)).grownBy w' (Value.slice A n c).ownBlock ∧
      ((Value.slice A' (n + 1) c').ownBlock = (Value.slice A n c).ownBlock ∨ (Value.slice A' (n + 1) c').ownBlock = some (X.heap.size + 1)) := by
  obtain ⟨i0, hi, hz0, hz1, hz2⟩ := info_parts info_vote
  obtain ⟨v', w', hrun, h2, h3, _, h5⟩ := run_append_own_at (P := Try.prog) (X.alloc (.cells #[.int .i64 x.v.voter, .int .i64 x.v.rank, .slice x.ka x.kn x.kc, .slice x.la x.ln x.lc] 55)) 0 49 49 55 i0 _ 4 64 Try.underlying49 hi hz0 hz1 hz2 rfl (by omega) (.slice A n c) n (vcc l) (World.ownsRow.alloc ho _) ⟨X.heap.size, 0, none⟩ 1 1 [.int .i64 x.v.voter, .int .i64 x.v.rank, .slice x.ka x.kn x.kc, .slice x.la x.ln x.lc] rfl (vote_cells X x _) (by simp [Value.oneCell']) (by simp only [maxLen]; omega) (by omega) (Nat.zero_le _)
  obtain ⟨A', c', rfl⟩ : ∃ A' c', v' = .slice A' (n + 1) c' := by
    rcases h2.2 with ⟨_, e⟩ | ⟨g, cap, cur, e, _⟩
    · omega
    · exact ⟨_, _, e⟩
  refine ⟨A', c', w', hrun, ?_, h3, ?_⟩
  · unfold OwnV; rw [vcc_append]; exact h2
  · simpa using h5
/-- behind the append: the votes with a new one, out of order as yet -/
def MidP (F : Nat → Prop) (g : Nat) (N : Int) (xs : List Vc) (v : Vo) (w wx : World) : Prop :=
  ∃ A6 n6 c6 A7 n7 c7 A8 c8 F9, TlAt wx F9 g N (vcOthers v.voter xs ++ [⟨v, A6, n6, c6, A7, n7, c7⟩]) A8 ((vcOthers v.voter xs).length + 1) c8 ∧ Chg F w wx ∧ ∀ i, F9 i → F i ∨ w.heap.size ≤ i
theorem mid_put {w W w5 w7 w8 : World} {F : Nat → Prop} {g : Nat} {N : Int} {xs : List Vc} {A A6 A7 A8 : Option Addr} {n c n' n6 c6 n7 c7 c8 : Nat} {v : Vo} (hT : TlAt W F g N xs A n c) (hB : Below w.heap.size w W)
    (hC5 : Chg (fun i => i = g ∨ (Value.slice A n c).ownBlock = some i) W w5) (hbk : Bk w5 g 51 [.int .i64 N, .slice A n' c]) (hn' : (vcOthers v.voter xs).length = n')
    (hne4 : (Value.slice A n' c).ownBlock = (Value.slice A n c).ownBlock) (hw : Below w5.heap.size w5 w7) (fo6 : OwnB w7 w5.heap.size A6 n6 c6 v.key) (fo7 : OwnB w7 w5.heap.size A7 n7 c7 v.load)
    (hown : OwnV w8 0 A8 (n' + 1) c8 (vcOthers v.voter xs ++ [⟨v, A6, n6, c6, A7, n7, c7⟩])) (hg8 : (w7.alloc (.cells #[.int .i64 v.voter, .int .i64 v.rank, .slice A6 n6 c6, .slice A7 n7 c7] 55)).grownBy w8 (Value.slice A n' c).ownBlock)
    (hrow8 : (Value.slice A8 (n' + 1) c8).ownBlock = (Value.slice A n' c).ownBlock ∨ (Value.slice A8 (n' + 1) c8).ownBlock = some (w7.heap.size + 1)) : MidP F g N xs v w (w8.setCell ⟨g, 1, none⟩ (.slice A8 (n' + 1) c8)) := by
  have hne : ∀ b, (Value.slice A n c).ownBlock = some b → b ≠ g := fun b e => (hT.frow b e).2
  have hgl := hT.lt g hT.mine
  have hsz : W.heap.size ≤ w7.heap.size := Nat.le_trans hC5.size hw.size
  have hfin7 : Chg (fun i => i = g ∨ (Value.slice A n c).ownBlock = some i) w7 (w8.setCell ⟨g, 1, none⟩ (.slice A8 (n' + 1) c8)) :=
    Chg.set (Chg.grown ((Chg.refl _ w7).alloc (.cells #[.int .i64 v.voter, .int .i64 v.rank, .slice A6 n6 c6, .slice A7 n7 c7] 55)) hg8 (fun b e => .inl (.inr (by rw [← hne4]; exact e)))) (.inl (.inl rfl)) 1 _
  have hc9 : Chg (fun i => i = g ∨ (Value.slice A n c).ownBlock = some i) W (w8.setCell ⟨g, 1, none⟩ (.slice A8 (n' + 1) c8)) := (hC5.then hw).same hfin7
  have hA9 : ∀ b, (Value.slice A8 (n' + 1) c8).ownBlock = some b → (Value.slice A n c).ownBlock = some b ∨ W.heap.size ≤ b := fun b e => by
    rcases hrow8 with q | q
    · left; rw [← hne4, ← q]; exact e
    · right; rw [q] at e; injection e with e; omega
  have hng : ∀ b, (Value.slice A8 (n' + 1) c8).ownBlock = some b → b ≠ g := fun b e => by
    rcases hA9 b e with q | q
    · exact hne b q
    · omega
  have hown9 : OwnV (w8.setCell ⟨g, 1, none⟩ (.slice A8 (n' + 1) c8)) 0 A8 (n' + 1) c8 (vcOthers v.voter xs ++ [⟨v, A6, n6, c6, A7, n7, c7⟩]) :=
    Chg.ownV (F := fun i => i = g) (Chg.set (F := fun i => i = g) (g := g) (Chg.refl _ w8) (.inl rfl) 1 _) hown (fun b e e2 => hng b e e2)
  have hfar : ∀ {AA : Option Addr} {nn cc : Nat} {l : List UInt8} (fo : OwnB w7 w5.heap.size AA nn cc l) (q : Addr), AA = some q → W.heap.size ≤ q.block ∧ q.block < w7.heap.size ∧ (Value.slice A8 (n' + 1) c8).ownBlock ≠ some q.block := fun fo q e => by
    rcases fo.2 with ⟨e1, _⟩ | ⟨k, cap, cur, e1, hk1, hk2, _⟩
    · injection e1 with e1; rw [e1] at e; cases e
    · injection e1 with e1
      rw [e1] at e
      injection e with e
      subst e
      have hkl : k < w7.heap.size := (Array.getElem?_eq_some_iff.1 hk2).1
      refine ⟨Nat.le_trans hC5.size hk1, hkl, fun e2 => ?_⟩
      rcases hrow8 with q | q
      · rw [q, hne4] at e2
        have h1 := (hT.frow k e2).1
        have h2 := hT.lt k h1
        have h3 := hC5.size
        omega
      · rw [q] at e2; injection e2 with e2
        have e3 : w7.heap.size + 1 = k := e2
        omega
  have hrd7 : ∀ {AA : Option Addr} {nn cc : Nat} {l : List UInt8} (fo : OwnB w7 w5.heap.size AA nn cc l), Rd (w8.setCell ⟨g, 1, none⟩ (.slice A8 (n' + 1) c8)) AA nn (l.map bv) := fun fo =>
    hfin7.rd fo.rd (fun q e _ hq => by
      have h1 := (hfar fo q e).1
      rcases hq with hq | hq
      · omega
      · have := hT.lt _ (hT.frow _ hq).1; omega)
  have hbk8 : Bk w8 g 51 [.int .i64 N, .slice A n' c] := ((hbk.kept hw).alloc _).grown hg8 (fun e => hne g (by rw [← hne4]; exact e.symm) rfl)
  obtain ⟨F9, hT9, hF9⟩ := hT.anew hc9 (hbk8.set 1 (.slice A8 (n' + 1) c8)) hown9 hA9 (fun y hy => by
    rcases List.mem_append.1 hy with hy | hy
    · exact .inl (List.mem_filter.1 hy).1
    · right
      obtain rfl : y = ⟨v, A6, n6, c6, A7, n7, c7⟩ := List.mem_singleton.1 hy
      refine ⟨⟨hrd7 fo6, hrd7 fo7⟩, fun q e => ?_⟩
      have hs9 := hfin7.size
      rcases e with e | e
      · have := hfar fo6 q e
        exact ⟨this.1, by omega, this.2.2⟩
      · have := hfar fo7 q e
        exact ⟨this.1, by omega, this.2.2⟩)
  refine ⟨A6, n6, c6, A7, n7, c7, A8, c8, F9, by rw [hn']; exact hT9, Chg.behind hB (hc9.more (fun i hi => .inl (by
    rcases hi with hi | hi
    · rw [hi]; exact hT.mine
    · exact (hT.frow i hi).1))), fun i hi => (hF9 i hi).imp id (fun q => Nat.le_trans hB.size q)⟩
theorem put_end {w wx w' : World} {F F9 : Nat → Prop} {g : Nat} {N : Int} {xs ys : List Vc} {x : Vc} {A : Option Addr} {n c : Nat} (hg : TyGood N (xs.map (·.v))) (ht : tyTakes N (xs.map (·.v)) x.v.voter x.v.rank = true)
    (hr : 0 ≤ x.v.voter ∧ x.v.voter < N ∧ 0 ≤ x.v.rank ∧ x.v.rank ≤ 9223372036854775807 ∧ x.v.key.length ≤ 1099511627776 ∧ x.v.load.length ≤ 1099511627776) (hc : Chg F w wx) (hF : ∀ i, F9 i → F i ∨ w.heap.size ≤ i)
    (hp : ys.Perm (vcOthers x.v.voter xs ++ [x])) (hs : (ys.map (·.v)).Pairwise LtV) (hT : TlAt w' F9 g N ys A n c) (hc' : Chg F9 wx w') : PutP F g N (xs.map (·.v)) x.v w (.returned (.bool true)) w' := by
  refine ⟨by rw [ht], F9, ?_, hF, hc.trans hc' hF⟩
  rw [if_pos ht]
  exact ⟨hg.put hr, ys, A, n, c, hT, put_is hg hp hs⟩
end Go.Proofs.Ytckmjpbkcpmdpaa
