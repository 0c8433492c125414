/-
  Sessions as they lie in memory; rows of sessions of a call's own. Plain lemmas; no statement.
-/
import Derived.Test.YtfbdmemjojjgnaaSessPlain
import Derived.Test.YtfbdmemjojjgnaaRdrMem
import Derived.Test.YtfbdmemjojjgnaaMRows
import Derived.Maps.AppendAt
namespace Go.Proofs.Ytfbdmemjojjgnaa
set_option maxRecDepth 100000
open Go.RowKit
set_option linter.unusedVariables false

def seC (x : Se) : List Value := [.int .i64 x.client, .int .i64 x.span, .int .i64 x.seen]
/-- the cells of watches -/
def sec : List Se → List Value
  | [] => []
  | x :: r => .int .i64 x.client :: .int .i64 x.span :: .int .i64 x.seen :: sec r
theorem sec_append (a b : List Se) : sec (a ++ b) = sec a ++ sec b := by
  induction a with
  | nil => rfl
  | cons x r ih => simp [sec, ih]
theorem sec_len (l : List Se) : (sec l).length = l.length * 3 := by
  induction l with
  | nil => rfl
  | cons x r ih => simp only [sec, List.length_cons, ih]; omega
theorem sec_at : ∀ (l : List Se) (k : Nat) (x : Se), l[k]? = some x → (sec l)[k * 3]? = some (.int .i64 x.client) ∧ (sec l)[k * 3 + 1]? = some (.int .i64 x.span) ∧ (sec l)[k * 3 + 2]? = some (.int .i64 x.seen)
  | [], k, a, h => by simp at h
  | x :: r, 0, a, h => by obtain rfl := Option.some.inj h; exact ⟨rfl, rfl, rfl⟩
  | x :: r, k + 1, a, h => by
    have := sec_at r k a h
    rw [show (k + 1) * 3 = k * 3 + 1 + 1 + 1 by omega]
    exact this
theorem one_sec (l : List Se) : ∀ v ∈ sec l, v.oneCell' = true := by
  induction l with
  | nil => intro v h; cases h
  | cons x r ih =>
    intro v h
    simp only [sec, List.mem_cons] at h
    rcases h with rfl | rfl | rfl | h
    · rfl
    · rfl
    · rfl
    · exact ih v h
theorem sec_take : ∀ (l : List Se) (k : Nat), (sec l).take (k * 3) = sec (l.take k)
  | l, 0 => by simp [sec]
  | [], k + 1 => by simp [sec]
  | x :: r, k + 1 => by
    rw [show (k + 1) * 3 = k * 3 + 1 + 1 + 1 by omega]
    simp only [sec, List.take_succ_cons, sec_take r k]
theorem sec_drop : ∀ (l : List Se) (k : Nat), (sec l).drop (k * 3) = sec (l.drop k)
  | l, 0 => by simp
  | [], k + 1 => by simp [sec]
  | x :: r, k + 1 => by
    rw [show (k + 1) * 3 = k * 3 + 1 + 1 + 1 by omega]
    simp only [sec, List.drop_succ_cons, sec_drop r k]
theorem sec_one (x : Se) : sec [x] = seC x := rfl
/-- a watch -/
def RSe : Rdr Se where
  sz := 3
  rd _ _ cs x := cs = seC x
  len := by rintro F w cs x rfl; rfl
  keep := by rintro F F' w w' cs x rfl _ _; rfl
theorem info_sess : (Try.prog.info? 36).map (fun i => (i.zero, i.size, i.bytes)) = some (some (.agg #[.int .i64 0, .int .i64 0, .int .i64 0]), 3, 24) := by kernel_rfl
theorem info_sess3 : (Try.prog.info? 36).map (·.size) = some 3 := by kernel_rfl
theorem RdS.se3 {F : Nat → Prop} {w : World} {A : Option Addr} {c : Nat} {ls : List Se} (h : RdS RSe F w A c ls) {k : Nat} {x : Se} (hk : ls[k]? = some x) :
    ∃ a, A = some a ∧ a.block < w.heap.size ∧ w.cell? (a.add (k * 3)) = some (.int .i64 x.client) ∧ w.cell? ⟨(a.add (k * 3)).block, (a.add (k * 3)).off + 1, none⟩ = some (.int .i64 x.span) ∧
      w.cell? ⟨(a.add (k * 3)).block, (a.add (k * 3)).off + 2, none⟩ = some (.int .i64 x.seen) := by
  obtain ⟨a, cs, e, hb, hc, rfl⟩ := h.at_ hk
  refine ⟨a, e, hb, hc 0 _ rfl, ?_, ?_⟩
  · rw [← add_at a (k * 3) 1 (by omega)]; exact hc 1 _ rfl
  · rw [← add_at a (k * 3) 2 (by omega)]; exact hc 2 _ rfl
theorem RdS.capE {α : Type} {R : Rdr α} {F : Nat → Prop} {w : World} {A : Option Addr} {c : Nat} {ls : List α} (h : RdS R F w A c ls) : ls.length ≤ c ∧ c ≤ maxLen := ⟨h.1, h.2.1⟩
/-- 'w owns the slice (A, n, c), which holds these watches' -/
def OwnE (w : World) (base : Nat) (A : Option Addr) (n c : Nat) (l : List Se) : Prop := w.ownsRow base 36 3 (.slice A n c) n (sec l)
section
variable {w w' : World} {base base' : Nat} {A : Option Addr} {n c : Nat} {l : List Se}
theorem OwnE.len (h : OwnE w base A n c l) : l.length = n := by have := h.1; rw [sec_len] at this; omega
theorem OwnE.below (h : OwnE w base A n c l) (hb : Below w.heap.size w w') : OwnE w' base A n c l :=
  World.ownsRow.kept h (grown_of_below hb none) (by cases (Value.slice A n c).ownBlock <;> simp)
theorem OwnE.alloc (h : OwnE w base A n c l) (o : Obj) : OwnE (w.alloc o) base A n c l := World.ownsRow.alloc h o
theorem OwnE.drewN (h : OwnE w base A n c l) (k : Nat) : OwnE (w.drewN k) base A n c l := h
theorem OwnE.nil_ (w : World) (base : Nat) : OwnE w base none 0 0 [] := World.ownsRow_nil w base _ 3
theorem OwnE.block (h : OwnE w base A n c l) : ∀ g, (Value.slice A n c).ownBlock = some g → base ≤ g := fun g hg => (World.ownsRow.lt h g hg).1
theorem OwnE.lt (h : OwnE w base A n c l) : ∀ g, (Value.slice A n c).ownBlock = some g → g < w.heap.size := fun g hg => (World.ownsRow.lt h g hg).2
theorem OwnE.more (h : OwnE w base A n c l) (hb : base' ≤ base) : OwnE w base' A n c l := by
  refine ⟨h.1, ?_⟩
  rcases h.2 with hn | ⟨g, cap, cur, e, hg, rest⟩
  · exact .inl hn
  · exact .inr ⟨g, cap, cur, e, Nat.le_trans hb hg, rest⟩
theorem OwnE.from_ (h : OwnE w base A n c l) (hb : ∀ g, (Value.slice A n c).ownBlock = some g → base' ≤ g) : OwnE w base' A n c l := by
  refine ⟨h.1, ?_⟩
  rcases h.2 with hn | ⟨g, cap, cur, e, hg, rest⟩
  · exact .inl hn
  · exact .inr ⟨g, cap, cur, e, hb g (by rw [e]; rfl), rest⟩
theorem OwnE.cap (h : OwnE w base A n c l) : n ≤ c ∧ c ≤ maxLen ∧ (A = none → c = 0) := by
  rcases h.2 with ⟨e1, e2⟩ | ⟨g, cap, cur, e1, _, _, hnc, hcm, _⟩
  · injection e1 with e3 _ e5
    subst e3 e5
    exact ⟨by omega, by simp [maxLen], fun _ => rfl⟩
  · injection e1 with e3 _ e5
    subst e3 e5
    exact ⟨hnc, hcm, fun e => by cases e⟩
/-- the cells of a watch in a row -/
theorem OwnE.at_ (h : OwnE w base A n c l) {k : Nat} {x : Se} (hk : l[k]? = some x) :
    ∃ g, A = some ⟨g, 0, none⟩ ∧ g < w.heap.size ∧ w.cell? ⟨g, k * 3, none⟩ = some (.int .i64 x.client) ∧ w.cell? ⟨g, k * 3 + 1, none⟩ = some (.int .i64 x.span) ∧ w.cell? ⟨g, k * 3 + 2, none⟩ = some (.int .i64 x.seen) := by
  have hl := h.len
  have hkn : k < n := by have := (List.getElem?_eq_some_iff.1 hk).1; omega
  obtain ⟨g, cap, hv, _, hlt⟩ := World.ownsRow.form h (by omega)
  injection hv with hA _ _
  subst hA
  obtain ⟨h0, h1, h2⟩ := sec_at l k x hk
  have c0 := World.ownsRow.cells h (g := g) rfl _ _ h0
  have c1 := World.ownsRow.cells h (g := g) rfl _ _ h1
  have c2 := World.ownsRow.cells h (g := g) rfl _ _ h2
  rw [at_add] at c0 c1 c2
  exact ⟨g, rfl, hlt, by simpa using c0, by simpa using c1, by simpa using c2⟩
theorem OwnE.rds (h : OwnE w base A n c l) {F : Nat → Prop} (hF : ∀ b, base ≤ b → F b) : RdS RSe F w A c l := by
  have hl := h.len
  have hc := OwnE.cap h
  refine ⟨by omega, hc.2.1, hc.2.2, fun k x hk => ?_⟩
  obtain ⟨g, rfl, hlt, c0, c1, c2⟩ := h.at_ hk
  refine ⟨_, seC x, rfl, hF g (h.block g rfl), hlt, fun j u hu => ?_, rfl⟩
  rw [at_add, Nat.zero_add]
  show w.cell? ⟨g, k * 3 + j, none⟩ = some u
  match j, hu with
  | 0, hu => obtain rfl := Option.some.inj hu; exact c0
  | 1, hu => obtain rfl := Option.some.inj hu; exact c1
  | 2, hu => obtain rfl := Option.some.inj hu; exact c2
/-- where watches of the call's own lie -/
theorem ownE_at (h : OwnE w base A n c l) (hn : 0 < n) :
    ∃ g, A = some ⟨g, 0, none⟩ ∧ base ≤ g ∧ n ≤ c ∧ c ≤ maxLen ∧ ∃ rest, Bk w g 36 (sec l ++ rest) ∧ (sec l ++ rest).length = c * 3 := by
  rcases h.2 with ⟨_, e2⟩ | ⟨g, cap, cur, e1, hb, hg, hnc, hcm, hsz, ht⟩
  · omega
  · injection e1 with e3 e4 e5
    subst e3 e5
    refine ⟨g, rfl, hb, hnc, hcm, cur.toList.drop (n * 3), ?_, ?_⟩
    · rw [← ht, List.take_append_drop]
      simpa [Bk] using hg
    · rw [← ht, List.take_append_drop]
      simpa using hsz
end
theorem ownE_back {w : World} {base g n c : Nat} {l : List Se} {rest : List Value} (h : Bk w g 36 (sec l ++ rest)) (hc : (sec l ++ rest).length = c * 3) (hb : base ≤ g) (hn : l.length = n) (hnc : n ≤ c) (hm : c ≤ maxLen) :
    OwnE w base (some ⟨g, 0, none⟩) n c l :=
  ⟨by rw [sec_len, hn], .inr ⟨g, c, _, rfl, hb, h, hnc, hm, by simpa using hc, by
    show List.take (n * 3) (sec l ++ rest) = _
    have e : n * 3 = (sec l).length := by rw [sec_len, hn]
    rw [e, List.take_left]⟩⟩
theorem Chg.ownE {F : Nat → Prop} {w w' : World} {base n c : Nat} {A : Option Addr} {l : List Se} (h : Chg F w w') (ho : OwnE w base A n c l) (hv : ∀ k, (Value.slice A n c).ownBlock = some k → ¬ F k) : OwnE w' base A n c l := h.owns ho hv
theorem ownE_empty (w : World) : OwnE (w.alloc (.cells #[] 36)) w.heap.size (some ⟨w.heap.size, 0, none⟩) 0 0 [] :=
  World.ownsRow_made (base := w.heap.size) (e := 36) (size := 3) w #[] 0 (Nat.le_refl _) (by simp [maxLen]) (by simp)
theorem news_se (w : World) (x : Se) : ∀ j u, (seC x)[j]? = some u → (w.alloc (.cells #[.int .i64 x.client, .int .i64 x.span, .int .i64 x.seen] 36)).cell? ((⟨w.heap.size, 0, none⟩ : Addr).add j) = some u := by
  intro j u hj
  have K := Bk.new w 36 (seC x)
  rw [at_add, Nat.zero_add]
  exact (K.cell j).trans hj
/-- a watch behind a row of the call's own -/
theorem wpList_app_se {w : World} {ops : Array Oper} {rest : List Oper} {o : Oper} {a : Act} {Q : Exit → Act → World → Prop} (hgd : o.guard = none) (s x : Operand)
    (ho : o.op = .call { callee := .builtin .append, args := #[s, x], argTypes := #[23, 23] }) (base : Nat) (A : Option Addr) (n c : Nat) (l : List Se) (hs : a.eval s = .slice A n c) (hown : OwnE w base A n c l)
    (ad : Addr) (y : Se) (hx : a.eval x = .slice (some ad) 1 1) (hnews : ∀ j u, (seC y)[j]? = some u → w.cell? (ad.add j) = some u) (hn : n ≤ 100000) (hbase : base ≤ w.heap.size)
    (h : ∀ A' c' w', Hid (OwnE w' base A' (n + 1) c' (l ++ [y])) → Hid (w.grownBy w' (Value.slice A n c).ownBlock) → Hid ((Value.slice A' (n + 1) c').ownBlock = (Value.slice A n c).ownBlock ∨ (Value.slice A' (n + 1) c').ownBlock = some w.heap.size) → wpList Try.prog ops Q rest (a.put o.dst (.slice A' (n + 1) c')) w') : wpList Try.prog ops Q (o :: rest) a w := by
  obtain ⟨i0, hi, hz0, hz1, hz2⟩ := info_parts info_sess
  refine wpList_append_own_at _ hgd _ _ 23 ho base 36 i0 _ 3 24 Try.underlying23 hi hz0 hz1 hz2 rfl (by omega) (.slice A n c) n (sec l) hs hown ad 1 1 (seC y) hx rfl hnews (by simp [seC, Value.oneCell']) (by simp only [maxLen]; omega) (by omega) hbase ?_
  intro v' w' h1 h2 _ h4
  obtain ⟨A', c', rfl⟩ : ∃ A' c', v' = .slice A' (n + 1) c' := by
    rcases h1.2 with ⟨_, e⟩ | ⟨g, cap, cur, e, _⟩
    · omega
    · exact ⟨_, _, e⟩
  exact h A' c' w' (Lib.hid (by unfold OwnE; rw [sec_append]; exact h1)) (Lib.hid h2) (Lib.hid h4)
/-- new watches: all else is as it was -/
def FreshE (l : List Se) (w : World) (e : Ending) (w' : World) : Prop :=
  ∃ A c, e = .returned (.slice A l.length c) ∧ OwnE w' w.heap.size A l.length c l ∧ Below w.heap.size w w'
end Go.Proofs.Ytfbdmemjojjgnaa
