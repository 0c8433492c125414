/-
  tally: Put. A walk over the plain words; no statement.
-/
import Derived.Test.YtckmjpbkcpmdpaaTallyPut1
import Derived.Deep.AppendLies
import Derived.Deep.RegionLaw
namespace Go.Proofs.Ytckmjpbkcpmdpaa
open Go.RowKit Go.Sort Go.Shelf
set_option linter.unusedVariables false
set_option maxRecDepth 100000

/-- append onto a row of the call's own, elements of several cells, as one step of a region that draws its order -/
theorem step_append_own {P : Program} {ops : Array Oper} {o : Oper} {a : Act} {w : World} {K : Act → World → Prop} {Q : Exit → Act → World → Prop} {E : Prop} (hgd : o.guard = none) (s x : Operand) (t : TypeId)
    (ho : o.op = .call { callee := .builtin .append, args := #[s, x], argTypes := #[t, t] })
    (base : Nat) (e : TypeId) (i : TypeInfo) (z : Value) (size bytes : Nat) (ht : P.underlying t = some (.slice e)) (hi : P.info? e = some i) (hz : i.zero = some z)
    (hsize : i.size = size) (hby : i.bytes = bytes) (hzs : z.cells.size = size) (hsz : 0 < size)
    (A : Option Addr) (n c : Nat) (xs : List Value) (hs : a.eval s = .slice A n c) (hown : w.ownsRow base e size (.slice A n c) n xs)
    (ad : Addr) (m c2 : Nat) (news : List Value) (hx : a.eval x = .slice (some ad) m c2) (hl : news.length = m * size) (hnews : ∀ j u, news[j]? = some u → w.cell? (ad.add j) = some u) (h1 : ∀ u ∈ news, u.oneCell' = true)
    (h63 : n + m ≤ maxLen) (hbytes : (n + m) * bytes ≤ 140737488355328) (hbase : base ≤ w.heap.size) (hnm : 0 < m)
    (h : ∀ A' c' w', Hid (w'.ownsRow base e size (.slice A' (n + m) c') (n + m) (xs ++ news)) → Hid (w.grownBy w' (Value.slice A n c).ownBlock) →
      Hid ((Value.slice A' (n + m) c').ownBlock = (Value.slice A n c).ownBlock ∨ (Value.slice A' (n + m) c').ownBlock = some w.heap.size) → K (a.put o.dst (.slice A' (n + m) c')) w') :
    if Region.wanted o (yielded ops a.tmps) = true then Oper.wp P o a w K Q else E := by
  have hw : Region.wanted o (yielded ops a.tmps) = true := by simp [Region.wanted, hgd]
  rw [if_pos hw]
  obtain ⟨v', w', hrun, h2, h3, _, h5⟩ := run_append_own_at (P := P) w base t o.type e i z size bytes ht hi hz hsize hby hzs hsz (.slice A n c) n xs hown ad m c2 news hl hnews h1 h63 hbytes hbase
  obtain ⟨A', c', rfl⟩ : ∃ A' c', v' = .slice A' (n + m) c' := by
    rcases h2.2 with ⟨_, e⟩ | ⟨g, cap, cur, e, _⟩
    · omega
    · exact ⟨_, _, e⟩
  unfold Oper.wp execOp
  simp only [ho, resolve, invoke, builtin, Sem.run_bind, Sem.run_pure, Result.andThen_ok, List.map_toArray, List.map_cons, List.map_nil, hs, hx, hrun]
  exact h A' c' w' (Lib.hid h2) (Lib.hid h3) (Lib.hid h5)
/-- what Put answers, and leaves -/
def PutP (F : Nat → Prop) (g : Nat) (N : Int) (vs : List Vo) (v : Vo) (w : World) (e : Ending) (w' : World) : Prop :=
  e = .returned (.bool (tyTakes N vs v.voter v.rank)) ∧ ∃ F', Tl w' F' g N (if tyTakes N vs v.voter v.rank = true then tyPut vs v else vs) ∧ (∀ i, F' i → F i ∨ w.heap.size ≤ i) ∧ Chg F w w'
theorem takes_iff (N : Int) (xs : List Vc) (a r : Int) : tyTakes N (xs.map (·.v)) a r = (decide (0 ≤ a) && decide (a < N) && decide (0 ≤ r) && (match vcKnown xs a with | some x => decide (x.v.rank < r) | none => true)) := by
  unfold tyTakes
  rw [vcKnown_v]
  cases vcKnown xs a <;> rfl
set_option maxHeartbeats 3200000 in
theorem put_no (a r : Int) (key load : List UInt8) (K : Option Addr) (kn kc : Nat) (L : Option Addr) (ln lc : Nat) (F : Nat → Prop) (g : Nat) (N : Int) (vs : List Vo) (w : World) (h : Tl w F g N vs) (ht : tyTakes N vs a r = false) :
    Calls Try.prog 15 #[.pointer (some ⟨g, 0, none⟩), .int .i64 a, .int .i64 r, .slice K kn kc, .slice L ln lc] w (PutP F g N vs ⟨a, r, key, load⟩ w) := by
  have HTL := Lib.hid h
  have HTK := Lib.hid ht
  obtain ⟨hgd, xs, A, n, c, h, rfl⟩ := h
  rw [takes_iff] at ht
  have hb1 := (Below.refl w.heap.size w).alloc (Nat.le_refl _) (.cells #[.int .i64 a] 3)
  have HF0 := find_any a F g N xs A n c _ (h.kept hb1)
  unfold FoundP at HF0
  have HF := Lib.hid HF0
  have HB1 := Lib.hid hb1
  have HK1 := Lib.hid (Bk.new w 3 [.int .i64 a])
  have HT := Lib.hid h
  have hcs : a < 0 ∨ (0 ≤ a ∧ N ≤ a) ∨ (0 ≤ a ∧ a < N ∧ r < 0) ∨ (0 ≤ a ∧ a < N ∧ 0 ≤ r ∧ (vcKnown xs a).isSome = true ∧ r ≤ ((vcKnown xs a).getD default).v.rank) := by
    by_cases h1 : 0 ≤ a
    · by_cases h2 : a < N
      · by_cases h3 : 0 ≤ r
        · cases e : vcKnown xs a with
          | none => rw [e] at ht; simp [h1, h2, h3] at ht
          | some x =>
            rw [e] at ht
            simp [h1, h2, h3] at ht
            exact .inr (.inr (.inr ⟨h1, h2, h3, rfl, ht⟩))
        · exact .inr (.inr (.inl ⟨h1, h2, by omega⟩))
      · exact .inr (.inl ⟨h1, by omega⟩)
    · exact .inl (by omega)
  generalize (vcKnown xs a).getD default = x at *
  generalize (vcKnown xs a).isSome = b at *
  clear ht hgd HF0 hb1 h
  go_enter Try.func15, Try.ntmps15
  go_wp2_with fail
  refine HF.out.mono ?_
  rintro e w2 ⟨rfl, hb2⟩
  have hk2 := HK1.out.kept hb2
  have hb3 := (below_next HB1.out hb2 HB1.out.size).alloc (below_next HB1.out hb2 HB1.out.size).size (.cells #[.int .i64 x.v.voter, .int .i64 x.v.rank, .slice x.ka x.kn x.kc, .slice x.la x.ln x.lc] 55)
  have hk3 := hk2.alloc (.cells #[.int .i64 x.v.voter, .int .i64 x.v.rank, .slice x.ka x.kn x.kc, .slice x.la x.ln x.lc] 55)
  have ho3 := Bk.new w2 55 [.int .i64 x.v.voter, .int .i64 x.v.rank, .slice x.ka x.kn x.kc, .slice x.la x.ln x.lc]
  have ht3 := HT.out.kept hb3
  obtain ⟨q0, q1⟩ := ht3.bk.two
  have hB := hk3.at_ (i := 0) rfl
  obtain ⟨_, o1, _, _⟩ := ho3.four
  have HB3 := Lib.hid hb3
  go_upto_region 2 with (fail)
  generalize hW : w2.alloc (.cells #[.int .i64 x.v.voter, .int .i64 x.v.rank, .slice x.ka x.kn x.kc, .slice x.la x.ln x.lc] 55) = W at q0 hB o1 HB3 ⊢
  clear hW hb2 hk2 hb3 hk3 ho3 ht3 q1
  have HEND := Lib.hid (show ∀ n, PutP F g N (xs.map (·.v)) ⟨a, r, key, load⟩ w (.returned (.bool false)) (W.drewN n) from fun n => by
    have ht : tyTakes N (xs.map (·.v)) a r = false := HTK.out
    refine ⟨by rw [show tyTakes N (xs.map (·.v)) (Vo.mk a r key load).voter (Vo.mk a r key load).rank = false from ht], F, ?_, fun i => .inl, Chg.of_below F (below_drewN HB3.out n)⟩
    rw [if_neg (by show ¬ tyTakes N (xs.map (·.v)) a r = true; rw [ht]; simp)]
    exact HTL.out.kept (below_drewN HB3.out n))
  rcases hcs with h1 | ⟨h1, h2⟩ | ⟨h1, h2, h3⟩ | ⟨h1, h2, h3, h4, h5⟩
  · have d1 : decide (a < 0) = true := by simpa using h1
    clear h1
    go_wp2_with fail
    go_quiet (fail)
    go_wp2_with fail
    go_ret
    exact HEND.out _
  · have d1 : decide (a < 0) = false := by simp; omega
    have d2 : decide (N ≤ a) = true := by simpa using h2
    clear h1 h2
    go_wp2_with fail
    go_quiet (fail)
    go_wp2_with fail
    go_ret
    exact HEND.out _
  · have d1 : decide (a < 0) = false := by simp; omega
    have d2 : decide (N ≤ a) = false := by simp; omega
    have d3 : decide (r < 0) = true := by simpa using h3
    clear h1 h2 h3
    go_wp2_with fail
    go_quiet (fail)
    go_wp2_with fail
    go_ret
    exact HEND.out _
  · subst h4
    have d1 : decide (a < 0) = false := by simp; omega
    have d2 : decide (N ≤ a) = false := by simp; omega
    have d3 : decide (r < 0) = false := by simp; omega
    have d4 : decide (r ≤ x.v.rank) = true := by simpa using h5
    clear h1 h2 h3 h5
    go_wp2_with fail
    go_quiet (fail)
    go_wp2_with fail
    go_ret
    exact HEND.out _
end Go.Proofs.Ytckmjpbkcpmdpaa
