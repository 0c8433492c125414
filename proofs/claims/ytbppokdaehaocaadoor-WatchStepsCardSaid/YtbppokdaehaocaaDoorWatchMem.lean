/-
  Watches as they lie in memory; rows of watches of a call's own; a table in memory. Plain lemmas; no statement.
-/
import Derived.Test.YtbppokdaehaocaaDoorWatchPlain
import Derived.Test.YtbppokdaehaocaaDoorRdrMem
import Derived.Test.YtbppokdaehaocaaDoorMRows
import Derived.Maps.AppendAt
namespace Go.Proofs.YtbppokdaehaocaaDoor
set_option maxRecDepth 100000
open Go.RowKit
set_option linter.unusedVariables false

def wtC (x : Wt) : List Value := [.int .i64 x.client, .int .i64 x.kind, .string ⟨x.path.toArray⟩]
/-- the cells of watches -/
def wtc : List Wt → List Value
  | [] => []
  | x :: r => .int .i64 x.client :: .int .i64 x.kind :: .string ⟨x.path.toArray⟩ :: wtc r
theorem wtc_append (a b : List Wt) : wtc (a ++ b) = wtc a ++ wtc b := by
  induction a with
  | nil => rfl
  | cons x r ih => simp [wtc, ih]
theorem wtc_len (l : List Wt) : (wtc l).length = l.length * 3 := by
  induction l with
  | nil => rfl
  | cons x r ih => simp only [wtc, List.length_cons, ih]; omega
theorem wtc_at : ∀ (l : List Wt) (k : Nat) (x : Wt), l[k]? = some x → (wtc l)[k * 3]? = some (.int .i64 x.client) ∧ (wtc l)[k * 3 + 1]? = some (.int .i64 x.kind) ∧ (wtc l)[k * 3 + 2]? = some (.string ⟨x.path.toArray⟩)
  | [], k, a, h => by simp at h
  | x :: r, 0, a, h => by obtain rfl := Option.some.inj h; exact ⟨rfl, rfl, rfl⟩
  | x :: r, k + 1, a, h => by
    have := wtc_at r k a h
    rw [show (k + 1) * 3 = k * 3 + 1 + 1 + 1 by omega]
    exact this
theorem one_wtc (l : List Wt) : ∀ v ∈ wtc l, v.oneCell' = true := by
  induction l with
  | nil => intro v h; cases h
  | cons x r ih =>
    intro v h
    simp only [wtc, List.mem_cons] at h
    rcases h with rfl | rfl | rfl | h
    · rfl
    · rfl
    · rfl
    · exact ih v h
theorem wtc_take : ∀ (l : List Wt) (k : Nat), (wtc l).take (k * 3) = wtc (l.take k)
  | l, 0 => by simp [wtc]
  | [], k + 1 => by simp [wtc]
  | x :: r, k + 1 => by
    rw [show (k + 1) * 3 = k * 3 + 1 + 1 + 1 by omega]
    simp only [wtc, List.take_succ_cons, wtc_take r k]
theorem wtc_drop : ∀ (l : List Wt) (k : Nat), (wtc l).drop (k * 3) = wtc (l.drop k)
  | l, 0 => by simp
  | [], k + 1 => by simp [wtc]
  | x :: r, k + 1 => by
    rw [show (k + 1) * 3 = k * 3 + 1 + 1 + 1 by omega]
    simp only [wtc, List.drop_succ_cons, wtc_drop r k]
theorem wtc_one (x : Wt) : wtc [x] = wtC x := rfl
/-- a watch -/
def RWt : Rdr Wt where
  sz := 3
  rd _ _ cs x := cs = wtC x
  len := by rintro F w cs x rfl; rfl
  keep := by rintro F F' w w' cs x rfl _ _; rfl
theorem info_watch : (Tryd.prog.info? 31).map (fun i => (i.zero, i.size, i.bytes)) = some (some (.agg #[.int .i64 0, .int .i64 0, .string ByteArray.empty]), 3, 32) := by kernel_rfl
theorem info_watch3 : (Tryd.prog.info? 31).map (·.size) = some 3 := by kernel_rfl
theorem RdS.wt3 {F : Nat → Prop} {w : World} {A : Option Addr} {c : Nat} {ls : List Wt} (h : RdS RWt F w A c ls) {k : Nat} {x : Wt} (hk : ls[k]? = some x) :
    ∃ a, A = some a ∧ a.block < w.heap.size ∧ w.cell? (a.add (k * 3)) = some (.int .i64 x.client) ∧ w.cell? ⟨(a.add (k * 3)).block, (a.add (k * 3)).off + 1, none⟩ = some (.int .i64 x.kind) ∧
      w.cell? ⟨(a.add (k * 3)).block, (a.add (k * 3)).off + 2, none⟩ = some (.string ⟨x.path.toArray⟩) := by
  obtain ⟨a, cs, e, hb, hc, rfl⟩ := h.at_ hk
  refine ⟨a, e, hb, hc 0 _ rfl, ?_, ?_⟩
  · rw [← add_at a (k * 3) 1 (by omega)]; exact hc 1 _ rfl
  · rw [← add_at a (k * 3) 2 (by omega)]; exact hc 2 _ rfl
theorem RdS.cap {α : Type} {R : Rdr α} {F : Nat → Prop} {w : World} {A : Option Addr} {c : Nat} {ls : List α} (h : RdS R F w A c ls) : ls.length ≤ c ∧ c ≤ maxLen := ⟨h.1, h.2.1⟩
/-- 'w owns the slice (A, n, c), which holds these watches' -/
def OwnW (w : World) (base : Nat) (A : Option Addr) (n c : Nat) (l : List Wt) : Prop := w.ownsRow base 31 3 (.slice A n c) n (wtc l)
section
variable {w w' : World} {base base' : Nat} {A : Option Addr} {n c : Nat} {l : List Wt}
theorem OwnW.len (h : OwnW w base A n c l) : l.length = n := by have := h.1; rw [wtc_len] at this; omega
theorem OwnW.below (h : OwnW w base A n c l) (hb : Below w.heap.size w w') : OwnW w' base A n c l :=
  World.ownsRow.kept h (grown_of_below hb none) (by cases (Value.slice A n c).ownBlock <;> simp)
theorem OwnW.alloc (h : OwnW w base A n c l) (o : Obj) : OwnW (w.alloc o) base A n c l := World.ownsRow.alloc h o
theorem OwnW.drewN (h : OwnW w base A n c l) (k : Nat) : OwnW (w.drewN k) base A n c l := h
theorem OwnW.nil_ (w : World) (base : Nat) : OwnW w base none 0 0 [] := World.ownsRow_nil w base _ 3
theorem OwnW.block (h : OwnW w base A n c l) : ∀ g, (Value.slice A n c).ownBlock = some g → base ≤ g := fun g hg => (World.ownsRow.lt h g hg).1
theorem OwnW.lt (h : OwnW w base A n c l) : ∀ g, (Value.slice A n c).ownBlock = some g → g < w.heap.size := fun g hg => (World.ownsRow.lt h g hg).2
theorem OwnW.more (h : OwnW w base A n c l) (hb : base' ≤ base) : OwnW w base' A n c l := by
  refine ⟨h.1, ?_⟩
  rcases h.2 with hn | ⟨g, cap, cur, e, hg, rest⟩
  · exact .inl hn
  · exact .inr ⟨g, cap, cur, e, Nat.le_trans hb hg, rest⟩
theorem OwnW.from_ (h : OwnW w base A n c l) (hb : ∀ g, (Value.slice A n c).ownBlock = some g → base' ≤ g) : OwnW w base' A n c l := by
  refine ⟨h.1, ?_⟩
  rcases h.2 with hn | ⟨g, cap, cur, e, hg, rest⟩
  · exact .inl hn
  · exact .inr ⟨g, cap, cur, e, hb g (by rw [e]; rfl), rest⟩
theorem OwnW.cap (h : OwnW w base A n c l) : n ≤ c ∧ c ≤ maxLen ∧ (A = none → c = 0) := by
  rcases h.2 with ⟨e1, e2⟩ | ⟨g, cap, cur, e1, _, _, hnc, hcm, _⟩
  · injection e1 with e3 _ e5
    subst e3 e5
    exact ⟨by omega, by simp [maxLen], fun _ => rfl⟩
  · injection e1 with e3 _ e5
    subst e3 e5
    exact ⟨hnc, hcm, fun e => by cases e⟩
/-- the cells of a watch in a row -/
theorem OwnW.at_ (h : OwnW w base A n c l) {k : Nat} {x : Wt} (hk : l[k]? = some x) :
    ∃ g, A = some ⟨g, 0, none⟩ ∧ g < w.heap.size ∧ w.cell? ⟨g, k * 3, none⟩ = some (.int .i64 x.client) ∧ w.cell? ⟨g, k * 3 + 1, none⟩ = some (.int .i64 x.kind) ∧ w.cell? ⟨g, k * 3 + 2, none⟩ = some (.string ⟨x.path.toArray⟩) := by
  have hl := h.len
  have hkn : k < n := by have := (List.getElem?_eq_some_iff.1 hk).1; omega
  obtain ⟨g, cap, hv, _, hlt⟩ := World.ownsRow.form h (by omega)
  injection hv with hA _ _
  subst hA
  obtain ⟨h0, h1, h2⟩ := wtc_at l k x hk
  have c0 := World.ownsRow.cells h (g := g) rfl _ _ h0
  have c1 := World.ownsRow.cells h (g := g) rfl _ _ h1
  have c2 := World.ownsRow.cells h (g := g) rfl _ _ h2
  rw [at_add] at c0 c1 c2
  exact ⟨g, rfl, hlt, by simpa using c0, by simpa using c1, by simpa using c2⟩
theorem OwnW.rds (h : OwnW w base A n c l) {F : Nat → Prop} (hF : ∀ b, base ≤ b → F b) : RdS RWt F w A c l := by
  have hl := h.len
  have hc := h.cap
  refine ⟨by omega, hc.2.1, hc.2.2, fun k x hk => ?_⟩
  obtain ⟨g, rfl, hlt, c0, c1, c2⟩ := h.at_ hk
  refine ⟨_, wtC x, rfl, hF g (h.block g rfl), hlt, fun j u hu => ?_, rfl⟩
  rw [at_add, Nat.zero_add]
  show w.cell? ⟨g, k * 3 + j, none⟩ = some u
  match j, hu with
  | 0, hu => obtain rfl := Option.some.inj hu; exact c0
  | 1, hu => obtain rfl := Option.some.inj hu; exact c1
  | 2, hu => obtain rfl := Option.some.inj hu; exact c2
/-- where watches of the call's own lie -/
theorem ownW_at (h : OwnW w base A n c l) (hn : 0 < n) :
    ∃ g, A = some ⟨g, 0, none⟩ ∧ base ≤ g ∧ n ≤ c ∧ c ≤ maxLen ∧ ∃ rest, Bk w g 31 (wtc l ++ rest) ∧ (wtc l ++ rest).length = c * 3 := by
  rcases h.2 with ⟨_, e2⟩ | ⟨g, cap, cur, e1, hb, hg, hnc, hcm, hsz, ht⟩
  · omega
  · injection e1 with e3 e4 e5
    subst e3 e5
    refine ⟨g, rfl, hb, hnc, hcm, cur.toList.drop (n * 3), ?_, ?_⟩
    · rw [← ht, List.take_append_drop]
      simpa [Bk] using hg
    · rw [← ht, List.take_append_drop]
      simpa using hsz
end
theorem ownW_back {w : World} {base g n c : Nat} {l : List Wt} {rest : List Value} (h : Bk w g 31 (wtc l ++ rest)) (hc : (wtc l ++ rest).length = c * 3) (hb : base ≤ g) (hn : l.length = n) (hnc : n ≤ c) (hm : c ≤ maxLen) :
    OwnW w base (some ⟨g, 0, none⟩) n c l :=
  ⟨by rw [wtc_len, hn], .inr ⟨g, c, _, rfl, hb, h, hnc, hm, by simpa using hc, by
    show List.take (n * 3) (wtc l ++ rest) = _
    have e : n * 3 = (wtc l).length := by rw [wtc_len, hn]
    rw [e, List.take_left]⟩⟩
theorem Chg.ownW {F : Nat → Prop} {w w' : World} {base n c : Nat} {A : Option Addr} {l : List Wt} (h : Chg F w w') (ho : OwnW w base A n c l) (hv : ∀ k, (Value.slice A n c).ownBlock = some k → ¬ F k) : OwnW w' base A n c l := h.owns ho hv
theorem ownW_empty (w : World) : OwnW (w.alloc (.cells #[] 31)) w.heap.size (some ⟨w.heap.size, 0, none⟩) 0 0 [] :=
  World.ownsRow_made (base := w.heap.size) (e := 31) (size := 3) w #[] 0 (Nat.le_refl _) (by simp [maxLen]) (by simp)
theorem news_wt (w : World) (x : Wt) : ∀ j u, (wtC x)[j]? = some u → (w.alloc (.cells #[.int .i64 x.client, .int .i64 x.kind, .string ⟨x.path.toArray⟩] 31)).cell? ((⟨w.heap.size, 0, none⟩ : Addr).add j) = some u := by
  intro j u hj
  have K := Bk.new w 31 (wtC x)
  rw [at_add, Nat.zero_add]
  exact (K.cell j).trans hj
/-- a watch behind a row of the call's own -/
theorem wpList_app_wt {w : World} {ops : Array Oper} {rest : List Oper} {o : Oper} {a : Act} {Q : Exit → Act → World → Prop} (hgd : o.guard = none) (s x : Operand)
    (ho : o.op = .call { callee := .builtin .append, args := #[s, x], argTypes := #[27, 27] }) (base : Nat) (A : Option Addr) (n c : Nat) (l : List Wt) (hs : a.eval s = .slice A n c) (hown : OwnW w base A n c l)
    (ad : Addr) (y : Wt) (hx : a.eval x = .slice (some ad) 1 1) (hnews : ∀ j u, (wtC y)[j]? = some u → w.cell? (ad.add j) = some u) (hn : n ≤ 100000) (hbase : base ≤ w.heap.size)
    (h : ∀ A' c' w', Hid (OwnW w' base A' (n + 1) c' (l ++ [y])) → Hid (w.grownBy w' (Value.slice A n c).ownBlock) → Hid ((Value.slice A' (n + 1) c').ownBlock = (Value.slice A n c).ownBlock ∨ (Value.slice A' (n + 1) c').ownBlock = some w.heap.size) → wpList Tryd.prog ops Q rest (a.put o.dst (.slice A' (n + 1) c')) w') : wpList Tryd.prog ops Q (o :: rest) a w := by
  obtain ⟨i0, hi, hz0, hz1, hz2⟩ := info_parts info_watch
  refine wpList_append_own_at _ hgd _ _ 27 ho base 31 i0 _ 3 32 Tryd.underlying27 hi hz0 hz1 hz2 rfl (by omega) (.slice A n c) n (wtc l) hs hown ad 1 1 (wtC y) hx rfl hnews (by simp [wtC, Value.oneCell']) (by simp only [maxLen]; omega) (by omega) hbase ?_
  intro v' w' h1 h2 _ h4
  obtain ⟨A', c', rfl⟩ : ∃ A' c', v' = .slice A' (n + 1) c' := by
    rcases h1.2 with ⟨_, e⟩ | ⟨g, cap, cur, e, _⟩
    · omega
    · exact ⟨_, _, e⟩
  exact h A' c' w' (Lib.hid (by unfold OwnW; rw [wtc_append]; exact h1)) (Lib.hid h2) (Lib.hid h4)
/-- new watches: all else is as it was -/
def FreshW (l : List Wt) (w : World) (e : Ending) (w' : World) : Prop :=
  ∃ A c, e = .returned (.slice A l.length c) ∧ OwnW w' w.heap.size A l.length c l ∧ Below w.heap.size w w'
/-- a table: its struct in block g, its row, all in blocks of F -/
def TbAt (F : Nat → Prop) (w : World) (g : Nat) (t : List Wt) : Prop :=
  ∃ A n c, Bk w g 59 [.slice A n c] ∧ F g ∧ OwnW w 0 A n c t ∧ ∀ b, (Value.slice A n c).ownBlock = some b → F b ∧ b ≠ g
section
variable {F F' : Nat → Prop} {w w' : World} {g : Nat} {t : List Wt}
theorem TbAt.chg {G : Nat → Prop} (h : TbAt F w g t) (hc : Chg G w w') (hG : ∀ k, F k → k < w.heap.size → ¬ G k) : TbAt F w' g t := by
  obtain ⟨A, n, c, h1, h2, h3, h4⟩ := h
  exact ⟨A, n, c, hc.bk h1 (hG g h2 h1.lt), h2, hc.ownW h3 fun k hk => hG k (h4 k hk).1 (h3.lt k hk), h4⟩
theorem TbAt.below (h : TbAt F w g t) (hb : Below w.heap.size w w') : TbAt F w' g t := h.chg (Chg.of_below (fun _ => False) hb) fun _ _ _ => id
theorem TbAt.more (h : TbAt F w g t) (hF : ∀ k, F k → k < w.heap.size → F' k) : TbAt F' w g t := by
  obtain ⟨A, n, c, h1, h2, h3, h4⟩ := h
  exact ⟨A, n, c, h1, hF g h2 h1.lt, h3, fun b hb => ⟨hF b (h4 b hb).1 (h3.lt b hb), (h4 b hb).2⟩⟩
theorem TbAt.lt (h : TbAt F w g t) : g < w.heap.size := by
  obtain ⟨A, n, c, h1, _⟩ := h
  exact h1.lt
end
/-- a call that changes the table: what it answers, and the table behind it -/
def WDid (F : Nat → Prop) (g : Nat) (t' : List Wt) (r : Value) (w : World) (e : Ending) (w' : World) : Prop :=
  e = .returned r ∧ ∃ F', TbAt F' w' g t' ∧ (∀ k, F' k → F k ∨ w.heap.size ≤ k) ∧ Chg F w w'
end Go.Proofs.YtbppokdaehaocaaDoor
