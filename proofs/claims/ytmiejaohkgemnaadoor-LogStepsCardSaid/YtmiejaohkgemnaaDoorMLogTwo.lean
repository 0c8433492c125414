import Derived.Test.YtmiejaohkgemnaaDoorLogLays
import Derived.Test.YtmiejaohkgemnaaDoorMRefLogD
import Derived.Test.YtmiejaohkgemnaaDoorMLaw
import Derived.Test.YtmiejaohkgemnaaDoorLogKeep
import Derived.Test.YtmiejaohkgemnaaDoorMLogIn

/-
  What stays true of a disk on which a log lies, through calls and losses of power. Plain lemmas; nothing of the program.
-/
namespace Go.Proofs.YtmiejaohkgemnaaDoor
open Go.RowKit
set_option linter.unusedVariables false
set_option maxRecDepth 100000
namespace Lg
/-- a front of an area that was laid and added to, of a generation up to N -/
def Wh (N : Nat) (b : List UInt8) : Prop := ∃ g n ls j, g ≤ N ∧ n < 4611686018427387904 ∧ (∀ l ∈ ls, l.length ≤ 65536) ∧ b = (whole g n ls).take j
theorem Wh.nil_ (N : Nat) : Wh N [] := ⟨0, 0, [], 0, Nat.zero_le _, by omega, by simp, by simp⟩
theorem Wh.take {N : Nat} {b : List UInt8} (h : Wh N b) (i : Nat) : Wh N (b.take i) := by
  obtain ⟨g, n, ls, j, h1, h2, h3, rfl⟩ := h
  exact ⟨g, n, ls, min i j, h1, h2, h3, by rw [List.take_take]⟩
theorem Wh.mono {N M : Nat} {b : List UInt8} (h : Wh N b) (hN : N ≤ M) : Wh M b := by
  obtain ⟨g, n, ls, j, h1, h2⟩ := h
  exact ⟨g, n, ls, j, by omega, h2⟩
theorem Wh.full {N g n : Nat} {ls : List (List UInt8)} (hg : g ≤ N) (hn : n < 4611686018427387904) (hl : ∀ l ∈ ls, l.length ≤ 65536) : Wh N (whole g n ls) := ⟨g, n, ls, (whole g n ls).length, hg, hn, hl, by rw [List.take_length]⟩
theorem Wh.gen {N : Nat} {b : List UInt8} {x : Ar} (h : Wh N b) (hN : N < 4611686018427387904) (hx : good b = some x) : x.gen ≤ N := by
  obtain ⟨g, n, ls, j, h1, h2, h3, rfl⟩ := h
  have ha := (good_some hx).1
  by_cases hj : (whole g n []).length ≤ j
  · obtain ⟨i, t, _, e, ht⟩ := whole_front g n ls j h3 hj
    rw [e, area_whole (by omega) h2 (fun l hl => h3 l (List.mem_of_mem_take hl)) ht] at ha
    injection ha with ha
    rw [← ha]
    exact h1
  · exfalso
    have e0 : (whole g n []).length = (frame g 0 (headB g n)).length := by simp [whole, frames]
    have e : (whole g n ls).take j = (frame g 0 (headB g n)).take j := by
      unfold whole
      rw [List.take_append_of_le_length (by omega)]
    rw [e, area_none (cut_front g 0 (headB g n) j (by have := headB_le (g := g) (n := n) (by omega) h2; omega) (by omega))] at ha
    cases ha
/-- both areas are such fronts -/
def WhD (N : Nat) (D : PD) : Prop := Wh N D.d0 ∧ Wh N D.d1
theorem WhD.mono {N M : Nat} {D : PD} (h : WhD N D) (hN : N ≤ M) : WhD M D := ⟨h.1.mono hN, h.2.mono hN⟩
theorem WhD.data {N : Nat} {D : PD} (h : WhD N D) (a : Int) : Wh N (D.data a) := by unfold PD.data; split; exact h.1; exact h.2
theorem WhD.set {N : Nat} {D : PD} (h : WhD N D) (a : Int) {b : List UInt8} (hb : Wh N b) : WhD N (D.setData a b) := by unfold PD.setData; split; exact ⟨hb, h.2⟩; exact ⟨h.1, hb⟩
theorem WhD.trim {N : Nat} {D : PD} (h : WhD N D) (a n : Int) : WhD N (D.trim a n).1 := by
  unfold PD.trim
  split
  · split
    · exact h
    · have hs : WhD N (D.drew.setData a ((D.data a).take n.toNat)) := WhD.set (D := D.drew) h a ((h.data a).take _)
      unfold PD.setSafe
      split <;> exact hs
  · exact h
theorem WhD.append {N : Nat} {D : PD} (h : WhD N D) (a : Int) (b : List UInt8) (hb : Wh N (D.data a ++ b)) : WhD N (D.append a [b]).1 := by
  unfold PD.append
  split
  · split
    · exact h
    · exact WhD.set (D := D.drew) h a (by simpa using hb)
  · exact h
theorem sync_same (D : PD) (l : List Int) : (D.sync l).1.d0 = D.d0 ∧ (D.sync l).1.d1 = D.d1 := by
  cases hl : l.all known
  · unfold PD.sync; rw [hl]; exact ⟨rfl, rfl⟩
  · by_cases hp : D.power = 0
    · unfold PD.sync; rw [hl, if_pos rfl, if_pos hp]; exact ⟨rfl, rfl⟩
    · rw [sync_eq D l hl hp]; exact ⟨rfl, rfl⟩
theorem WhD.sync {N : Nat} {D : PD} (h : WhD N D) (l : List Int) : WhD N (D.sync l).1 := by
  obtain ⟨h0, h1⟩ := sync_same D l
  exact ⟨by rw [h0]; exact h.1, by rw [h1]; exact h.2⟩
theorem trim_zero {D : PD} {a : Int} (h : (D.trim a 0).2 = 0) : (D.trim a 0).1.data a = [] := by
  unfold PD.trim at h ⊢
  split at h
  · rename_i hk
    split at h
    · cases h
    · rename_i hp
      rw [if_pos hk, if_neg hp]
      unfold PD.setSafe PD.setData PD.data
      split <;> simp_all
  · cases h
theorem WhD.lay {N : Nat} {D : PD} (h : WhD N D) (a : Int) {gen : Nat} {ls : List (List UInt8)} (hg : gen ≤ N) (hn : ls.length < 4611686018427387904) (hl : ∀ l ∈ ls, l.length ≤ 65536) : WhD N (lay D a gen ls).1 := by
  unfold Lg.lay
  split
  · exact h.trim a 0
  · rename_i h0
    have hz := trim_zero (D := D) (a := a) (by simpa using h0)
    have hA := (h.trim a 0).append a (whole gen ls.length ls) (by rw [hz, List.nil_append]; exact Wh.full hg hn hl)
    split
    · exact hA
    · exact hA.sync _
theorem WhD.crash {N : Nat} {D : PD} (h : WhD N D) (ks : List Int) (q : Int) : WhD N (D.crash ks q) := ⟨h.1.take _, h.2.take _⟩
theorem WhD.opn {N : Nat} {D : PD} (h : WhD N D) (hN : 1 ≤ N) : WhD N (opn D).1.D := by
  cases hb : best D with
  | none => rw [opn_none hb]; exact h.lay 0 hN (by simp) (by simp)
  | some y =>
    obtain ⟨a, x⟩ := y
    unfold Lg.opn
    rw [hb]
    show WhD N (if x.rest.length = 0 then ((⟨D, a, x.gen, x.laid, x.list⟩ : PL), (0 : Int)) else _).1.D
    split
    · exact h
    · exact h.trim _ _
theorem opn_gen {N : Nat} {D : PD} (h : WhD N D) (hN : 1 ≤ N) (hN' : N < 4611686018427387904) : (opn D).1.gen ≤ N := by
  cases hb : best D with
  | none => rw [opn_none hb]; exact hN
  | some y =>
    obtain ⟨a, x⟩ := y
    obtain ⟨_, hg⟩ := best_some hb
    have hx := (h.data a).gen hN' hg
    unfold Lg.opn
    rw [hb]
    show (if x.rest.length = 0 then ((⟨D, a, x.gen, x.laid, x.list⟩ : PL), (0 : Int)) else _).1.gen ≤ N
    split <;> exact hx
theorem WhD.add {N : Nat} {L : PL} {ls : List (List UInt8)} (h : WhD N L.D) (hG : Good L) (hg : L.gen ≤ N) : WhD N (L.add ls).1.D := by
  obtain ⟨e, ha, h1, h2, h3, h4, h5⟩ := hG
  unfold PL.add
  cases hl : longs ls
  · rw [if_neg (by simp)]
    split
    · exact h
    · have hA : WhD N (L.D.append L.a [frames L.gen (L.list.length + 1) ls]).1 := h.append L.a _ (by
        rw [e, Nat.add_comm, ← whole_append]
        exact Wh.full hg (by omega) (fun l hm => (List.mem_append.1 hm).elim (fun q => h5 l q) (fun q => longs_false hl l q)))
      split <;> exact hA
  · rw [if_pos rfl]; exact h
theorem rows_frames (g p : Nat) (ls : List (List UInt8)) : rowsW ls ≤ (frames g p ls).length := by
  induction ls generalizing p with
  | nil => simp [rowsW]
  | cons l r ih =>
    have := ih (p + 1)
    have := frame_len g p l
    simp only [rowsW, frames, List.length_append]
    omega
theorem list_rows {L : PL} (h : Good L) : rowsW L.list ≤ (L.D.data L.a).length := by
  rw [h.1]
  unfold whole
  rw [List.length_append]
  have := rows_frames L.gen 1 L.list
  omega
end Lg
end Go.Proofs.YtmiejaohkgemnaaDoor

/-
  What stays true of a log through a script's steps. Plain lemmas; nothing of the program.
-/
namespace Go.Proofs.YtmiejaohkgemnaaDoor
open Go.RowKit
set_option linter.unusedVariables false
set_option maxRecDepth 100000
namespace Lg
/-- a log's disk, whatever it answered: generations up to N, areas up to B bytes -/
structure Md (N B : Nat) (L : PL) : Prop where
  wh : WhD N L.D
  gen : L.gen ≤ N
  l0 : L.D.d0.length ≤ B
  l1 : L.D.d1.length ≤ B
  pw : L.D.Pw
theorem Md.more {N B N' B' : Nat} {L : PL} (h : Md N B L) (hN : N ≤ N') (hB : B ≤ B') : Md N' B' L := ⟨h.wh.mono hN, Nat.le_trans h.gen hN, Nat.le_trans h.l0 hB, Nat.le_trans h.l1 hB, h.pw⟩
theorem pw_lay {D : PD} (h : D.Pw) (a : Int) (gen : Nat) (ls : List (List UInt8)) : (lay D a gen ls).1.Pw := by
  unfold Lg.lay
  split
  · exact h.trim a 0
  · split
    · exact (h.trim a 0).append a _
    · exact ((h.trim a 0).append a _).sync _
theorem md_add {N B : Nat} {L : PL} {ls : List (List UInt8)} (h : Md N B L) (hG : Good L) : Md N (B + 13 * rowsW ls) (L.add ls).1 := by
  have hwh := h.wh.add (ls := ls) hG h.gen
  have h0 := h.l0
  have h1 := h.l1
  unfold PL.add at hwh ⊢
  cases hl : longs ls
  · rw [hl, if_neg (by simp)] at hwh
    rw [if_neg (by simp)]
    have hf := frames_le L.gen (L.list.length + 1) ls (longs_false hl)
    have ha := PD.len_append L.D L.a [frames L.gen (L.list.length + 1) ls]
    simp only [List.flatten_cons, List.flatten_nil, List.append_nil] at ha
    have hp := h.pw.append L.a [frames L.gen (L.list.length + 1) ls]
    by_cases h2 : ls.length = 0
    · rw [if_pos h2]
      exact h.more (Nat.le_refl _) (by omega)
    · rw [if_neg h2] at hwh ⊢
      by_cases h3 : (L.D.append L.a [frames L.gen (L.list.length + 1) ls]).2 = 0
      · rw [if_pos h3] at hwh ⊢
        exact ⟨hwh, h.gen, by dsimp only; omega, by dsimp only; omega, hp⟩
      · rw [if_neg h3] at hwh ⊢
        exact ⟨hwh, h.gen, by dsimp only; omega, by dsimp only; omega, hp⟩
  · rw [if_pos rfl]
    exact h.more (Nat.le_refl _) (by omega)
theorem md_sync {N B : Nat} {L : PL} (h : Md N B L) : Md N B L.sync.1 := by
  obtain ⟨h0, h1⟩ := sync_same L.D [L.a]
  exact ⟨h.wh.sync _, h.gen, by show (L.D.sync [L.a]).1.d0.length ≤ B; rw [h0]; exact h.l0, by show (L.D.sync [L.a]).1.d1.length ≤ B; rw [h1]; exact h.l1, h.pw.sync _⟩
theorem md_lay {N B : Nat} {L : PL} {ls : List (List UInt8)} (h : Md N B L) (hN : N + 1 < 4611686018427387904) (hn : ls.length < 4611686018427387904) : Md (N + 1) (B + 31 + 13 * rowsW ls) (L.lay ls).1 := by
  unfold PL.lay
  cases hl : longs ls
  · rw [if_neg (by simp)]
    have hgn := h.gen
    have hw := (h.wh.mono (Nat.le_succ N)).lay (1 - L.a) (gen := L.gen + 1) (ls := ls) (by omega) hn (longs_false hl)
    have hll := len_lay L.D (1 - L.a) (L.gen + 1) ls
    have hwl := whole_le (g := L.gen + 1) (n := ls.length) (ls := ls) (by omega) hn (longs_false hl)
    have hp := pw_lay h.pw (1 - L.a) (L.gen + 1) ls
    have h0 := h.l0
    have h1 := h.l1
    split
    · exact ⟨hw, by show L.gen + 1 ≤ N + 1; omega, by show (Lg.lay L.D (1 - L.a) (L.gen + 1) ls).1.d0.length ≤ _; omega, by show (Lg.lay L.D (1 - L.a) (L.gen + 1) ls).1.d1.length ≤ _; omega, hp⟩
    · exact ⟨hw, by show L.gen ≤ N + 1; omega, by show (Lg.lay L.D (1 - L.a) (L.gen + 1) ls).1.d0.length ≤ _; omega, by show (Lg.lay L.D (1 - L.a) (L.gen + 1) ls).1.d1.length ≤ _; omega, hp⟩
  · rw [if_pos rfl]
    exact h.more (Nat.le_succ N) (by omega)
theorem pw_opn {D : PD} (h : D.Pw) : (opn D).1.D.Pw := by
  cases hb : best D with
  | none => rw [opn_none hb]; exact pw_lay h 0 1 []
  | some y =>
    obtain ⟨a, x⟩ := y
    unfold Lg.opn
    rw [hb]
    show (if x.rest.length = 0 then ((⟨D, a, x.gen, x.laid, x.list⟩ : PL), (0 : Int)) else _).1.D.Pw
    split
    · exact h
    · exact h.trim _ _
theorem md_opn {N B : Nat} {D : PD} (hw : WhD N D) (h0 : D.d0.length ≤ B) (h1 : D.d1.length ≤ B) (hp : D.Pw) (hN : 1 ≤ N) (hN' : N < 4611686018427387904) : Md N (B + 31) (opn D).1 := by
  have hl := len_opn D
  exact ⟨hw.opn hN, opn_gen hw hN hN', by omega, by omega, pw_opn hp⟩
end Lg
/-- what stays true at the head of a round -/
def Bd (ops : List Step5) (k : Nat) : Nat := 31 + 62 * k + 13 * weight5 (ops.take k)
def Iv (ops : List Step5) (k : Nat) (L : Lg.PL) : Prop := Lg.Good L ∧ Lg.Md (k + 1) (Bd ops k) L
theorem bd_next {ops : List Step5} {k : Nat} (hk : k < ops.length) : Bd ops (k + 1) = Bd ops k + 62 + 13 * (rowsW ops[k].rows + ops[k].keeps.length) := by
  unfold Bd
  rw [weight5_next ops k hk]
  omega
theorem bd_le {ops : List Step5} {k : Nat} (hk : k ≤ 40) (hw : weight5 ops ≤ 3000) : Bd ops k ≤ 42000 := by
  unfold Bd
  have := weight5_take_le ops k
  omega
end Go.Proofs.YtmiejaohkgemnaaDoor

/-
  The program's log and the document's one, side by side. Plain lemmas and the document's calls in one; no statement.
-/
namespace Go.Proofs.YtmiejaohkgemnaaDoor
open Go.RowKit
set_option linter.unusedVariables false
set_option maxRecDepth 100000

/-- the document's log in the block gm, and that it has nothing in common with F -/
structure Ml (w : World) (F : Nat → Prop) (gm : Nat) (L : Lg.PL) (D0 : Option Addr) (m0 e0 : Nat) (D1 : Option Addr) (m1 e1 : Nat) (R : Option Addr) (rc : Nat) : Prop where
  bk : Bk w gm 39 (lgC L.D.power D0 m0 e0 D1 m1 e1 L.D.s0 L.D.s1 L.a L.gen L.n R L.list.length rc)
  s0 : Sl w D0 m0 e0 L.D.d0
  s1 : Sl w D1 m1 e1 L.D.d1
  off : ¬ F gm
  o0 : ∀ a, D0 = some a → ¬ F a.block ∧ a.block ≠ gm ∧ a.block < w.heap.size
  o1 : ∀ a, D1 = some a → ¬ F a.block ∧ a.block ≠ gm ∧ a.block < w.heap.size
  rw : RowsOff w (fun i => F i ∨ i = gm) R L.list.length L.list
section
variable {w w' X : World} {F F' : Nat → Prop} {gm m0 e0 m1 e1 rc : Nat} {L : Lg.PL} {D0 D1 R : Option Addr}
theorem Ml.kept (h : Ml w F gm L D0 m0 e0 D1 m1 e1 R rc) (hb : Below w.heap.size w w') : Ml w' F gm L D0 m0 e0 D1 m1 e1 R rc :=
  ⟨h.bk.kept hb, h.s0.below hb, h.s1.below hb, h.off, fun a e => ⟨(h.o0 a e).1, (h.o0 a e).2.1, Nat.lt_of_lt_of_le (h.o0 a e).2.2 hb.size⟩, fun a e => ⟨(h.o1 a e).1, (h.o1 a e).2.1, Nat.lt_of_lt_of_le (h.o1 a e).2.2 hb.size⟩, h.rw.below hb⟩
/-- behind a call on the other log -/
theorem Ml.chg (h : Ml w F gm L D0 m0 e0 D1 m1 e1 R rc) (hc : Chg F w w') (hF : ∀ i, F' i → F i ∨ w.heap.size ≤ i) : Ml w' F' gm L D0 m0 e0 D1 m1 e1 R rc := by
  have hg := h.bk.lt
  refine ⟨hc.bk h.bk h.off, hc.sl h.s0 (fun a e => (h.o0 a e).1), hc.sl h.s1 (fun a e => (h.o1 a e).1), fun hf => (hF gm hf).elim h.off (by omega), fun a e => ⟨fun hf => ?_, (h.o0 a e).2.1, Nat.lt_of_lt_of_le (h.o0 a e).2.2 hc.size⟩, fun a e => ⟨fun hf => ?_, (h.o1 a e).2.1, Nat.lt_of_lt_of_le (h.o1 a e).2.2 hc.size⟩, ?_⟩
  · have := h.o0 a e
    rcases hF _ hf with q | q
    · exact this.1 q
    · omega
  · have := h.o1 a e
    rcases hF _ hf with q | q
    · exact this.1 q
    · omega
  · exact h.rw.step (hc.more (G := fun i => F i ∨ i = gm) (fun i hi => .inl (.inl hi))) (fun i hi => hi.elim (fun q => (hF i q).imp .inl id) (fun q => .inl (.inr q)))
/-- the document's log stored into its block -/
theorem ml_put {x0 x1 x2 x3 x4 x5 x6 x7 x8 : Value} (kb : Bk X gm 39 [x0, x1, x2, x3, x4, x5, x6, x7, x8]) (s0 : Sl X D0 m0 e0 L.D.d0) (s1 : Sl X D1 m1 e1 L.D.d1) (hr : RowsOff X (fun i => F i ∨ i = gm) R L.list.length L.list) (off : ¬ F gm)
    (o0 : ∀ a, D0 = some a → ¬ F a.block ∧ a.block ≠ gm ∧ a.block < X.heap.size) (o1 : ∀ a, D1 = some a → ¬ F a.block ∧ a.block ≠ gm ∧ a.block < X.heap.size) :
    Ml (((((((((X.setCell ⟨gm, 0, none⟩ (.int .i64 L.D.power)).setCell ⟨gm, 1, none⟩ (.slice D0 m0 e0)).setCell ⟨gm, 2, none⟩ (.slice D1 m1 e1)).setCell ⟨gm, 3, none⟩ (.int .i64 L.D.s0)).setCell ⟨gm, 4, none⟩ (.int .i64 L.D.s1)).setCell ⟨gm, 5, none⟩ (.int .i64 L.a)).setCell ⟨gm, 6, none⟩ (.int .i64 (L.gen : Int))).setCell ⟨gm, 7, none⟩ (.int .i64 (L.n : Int))).setCell ⟨gm, 8, none⟩ (.slice R L.list.length rc)) F gm L D0 m0 e0 D1 m1 e1 R rc := by
  have hc : Chg (fun i => i = gm) X (((((((((X.setCell ⟨gm, 0, none⟩ (.int .i64 L.D.power)).setCell ⟨gm, 1, none⟩ (.slice D0 m0 e0)).setCell ⟨gm, 2, none⟩ (.slice D1 m1 e1)).setCell ⟨gm, 3, none⟩ (.int .i64 L.D.s0)).setCell ⟨gm, 4, none⟩ (.int .i64 L.D.s1)).setCell ⟨gm, 5, none⟩ (.int .i64 L.a)).setCell ⟨gm, 6, none⟩ (.int .i64 (L.gen : Int))).setCell ⟨gm, 7, none⟩ (.int .i64 (L.n : Int))).setCell ⟨gm, 8, none⟩ (.slice R L.list.length rc)) := nine_chg (F := fun i => i = gm) rfl _ _ _ _ _ _ _ _ _
  have hc2 := hc.more (G := fun i => F i ∨ i = gm) (fun i hi => .inl (.inr hi))
  exact ⟨nine_set kb _ _ _ _ _ _ _ _ _, hc.sl s0 (fun a e => (o0 a e).2.1), hc.sl s1 (fun a e => (o1 a e).2.1), off, fun a e => ⟨(o0 a e).1, (o0 a e).2.1, Nat.lt_of_lt_of_le (o0 a e).2.2 hc.size⟩, fun a e => ⟨(o1 a e).1, (o1 a e).2.1, Nat.lt_of_lt_of_le (o1 a e).2.2 hc.size⟩, hr.chg hc2⟩
end
/-- behind a call on the document's log: what it handed back is stored into its block -/
theorem ml_did {w w' : World} {F : Nat → Prop} {gm m0 e0 m1 e1 rc k0 d0 k1 d1 rc' : Nat} {L : Lg.PL} {r : Lg.PL × Int} {D0 D1 R E0 E1 R' : Option Addr} (h : Ml w F gm L D0 m0 e0 D1 m1 e1 R rc) (hF : ∀ i, F i → i < w.heap.size) (s0 : Sl w' E0 k0 d0 r.1.D.d0) (s1 : Sl w' E1 k1 d1 r.1.D.d1) (hb : Below w.heap.size w w')
    (ho : (R' = R ∧ rc' = rc ∧ r.1.list = L.list) ∨ OwnRs w' w.heap.size R' r.1.list.length rc' r.1.list) (f0 : E0 = D0 ∨ ∀ a, E0 = some a → w.heap.size ≤ a.block ∧ a.block < w'.heap.size) (f1 : E1 = D1 ∨ ∀ a, E1 = some a → w.heap.size ≤ a.block ∧ a.block < w'.heap.size) :
    Ml (((((((((w'.setCell ⟨gm, 0, none⟩ (.int .i64 r.1.D.power)).setCell ⟨gm, 1, none⟩ (.slice E0 k0 d0)).setCell ⟨gm, 2, none⟩ (.slice E1 k1 d1)).setCell ⟨gm, 3, none⟩ (.int .i64 r.1.D.s0)).setCell ⟨gm, 4, none⟩ (.int .i64 r.1.D.s1)).setCell ⟨gm, 5, none⟩ (.int .i64 r.1.a)).setCell ⟨gm, 6, none⟩ (.int .i64 (r.1.gen : Int))).setCell ⟨gm, 7, none⟩ (.int .i64 (r.1.n : Int))).setCell ⟨gm, 8, none⟩ (.slice R' r.1.list.length rc')) F gm r.1 E0 k0 d0 E1 k1 d1 R' rc' := by
  have hg := h.bk.lt
  refine ml_put (h.bk.kept hb) s0 s1 ?_ h.off ?_ ?_
  · rcases ho with ⟨rfl, rfl, e⟩ | ho
    · rw [e]; exact h.rw.below hb
    · exact ho.off' (fun i hi => hi.elim (hF i) (fun e => by omega))
  · intro a e
    rcases f0 with q | q
    · rw [q] at e; exact ⟨(h.o0 a e).1, (h.o0 a e).2.1, Nat.lt_of_lt_of_le (h.o0 a e).2.2 hb.size⟩
    · have := q a e; exact ⟨fun hf => by have := hF _ hf; omega, by omega, this.2⟩
  · intro a e
    rcases f1 with q | q
    · rw [q] at e; exact ⟨(h.o1 a e).1, (h.o1 a e).2.1, Nat.lt_of_lt_of_le (h.o1 a e).2.2 hb.size⟩
    · have := q a e; exact ⟨fun hf => by have := hF _ hf; omega, by omega, this.2⟩

end Go.Proofs.YtmiejaohkgemnaaDoor

/-
  A step of a script, half done: both logs have answered. Plain lemmas; no statement.
-/
namespace Go.Proofs.YtmiejaohkgemnaaDoor
open Go.RowKit
set_option linter.unusedVariables false
set_option maxRecDepth 100000

/-- the program's log's blocks, and the step's -/
def Fh (F : Nat → Prop) (g hop : Nat) : Nat → Prop := fun i => (F i ∨ i = g) ∨ i = hop
/-- where a step stands once both logs have answered -/
def Mid5 (w : World) (gm hop gd g N Bb : Nat) (n : Int) (rv kv : Value) (A5 : Option Addr) (n5 : Nat) (rows : List (List UInt8)) (ve vg : Value) (X : World) : Prop :=
  ∃ (r : Lg.PL × Int) (F : Nat → Prop) (D0 : Option Addr) (m0 e0 : Nat) (D1 : Option Addr) (m1 e1 : Nat) (R : Option Addr) (rc : Nat) (wh : Int), ve = .int .i64 r.2 ∧ vg = .int .i64 r.2 ∧ LOn w.heap.size w X F gd g r.1 ∧ Ml X (Fh F g hop) gm r.1 D0 m0 e0 D1 m1 e1 R rc ∧
    Bk X hop 44 [.int .i64 wh, .int .i64 n, rv, kv] ∧ ¬ F hop ∧ hop ≠ g ∧ hop ≠ gm ∧ (wh = 4 ∨ Lg.Good r.1) ∧ Lg.Md N Bb r.1 ∧ RowsOff X (fun i => Fh F g hop i ∨ i = gm) A5 n5 rows
/-- behind both calls: what the document's one handed back is stored into its block -/
theorem mid5_end {w w6 w7 : World} {F6 : Nat → Prop} {gm hop gd g N Bb m0 e0 m1 e1 rc k0 d0 k1 d1 rc' n5 : Nat} {n wh : Int} {rv kv : Value} {A5 D0 D1 R E0 E1 R' : Option Addr} {rows : List (List UInt8)} {L : Lg.PL} {r : Lg.PL × Int}
    (hl : LOn w.heap.size w w6 F6 gd g r.1) (hm : Ml w6 (Fh F6 g hop) gm L D0 m0 e0 D1 m1 e1 R rc) (hop6 : Bk w6 hop 44 [.int .i64 wh, .int .i64 n, rv, kv]) (h1 : ¬ F6 hop) (h2 : hop ≠ g) (h3 : hop ≠ gm) (hgm : w.heap.size ≤ gm) (hB : 0 < w.heap.size)
    (hro : RowsOff w6 (fun i => Fh F6 g hop i ∨ i = gm) A5 n5 rows) (s0 : Sl w7 E0 k0 d0 r.1.D.d0) (s1 : Sl w7 E1 k1 d1 r.1.D.d1) (hb : Below w6.heap.size w6 w7)
    (ho : (R' = R ∧ rc' = rc ∧ r.1.list = L.list) ∨ OwnRs w7 w6.heap.size R' r.1.list.length rc' r.1.list) (f0 : E0 = D0 ∨ ∀ a, E0 = some a → w6.heap.size ≤ a.block ∧ a.block < w7.heap.size) (f1 : E1 = D1 ∨ ∀ a, E1 = some a → w6.heap.size ≤ a.block ∧ a.block < w7.heap.size)
    (hmd : Lg.Md N Bb r.1) :
    ∃ F : Nat → Prop, LOn w.heap.size w (((((((((w7.setCell ⟨gm, 0, none⟩ (.int .i64 r.1.D.power)).setCell ⟨gm, 1, none⟩ (.slice E0 k0 d0)).setCell ⟨gm, 2, none⟩ (.slice E1 k1 d1)).setCell ⟨gm, 3, none⟩ (.int .i64 r.1.D.s0)).setCell ⟨gm, 4, none⟩ (.int .i64 r.1.D.s1)).setCell ⟨gm, 5, none⟩ (.int .i64 r.1.a)).setCell ⟨gm, 6, none⟩ (.int .i64 (r.1.gen : Int))).setCell ⟨gm, 7, none⟩ (.int .i64 (r.1.n : Int))).setCell ⟨gm, 8, none⟩ (.slice R' r.1.list.length rc')) F gd g r.1 ∧ Ml (((((((((w7.setCell ⟨gm, 0, none⟩ (.int .i64 r.1.D.power)).setCell ⟨gm, 1, none⟩ (.slice E0 k0 d0)).setCell ⟨gm, 2, none⟩ (.slice E1 k1 d1)).setCell ⟨gm, 3, none⟩ (.int .i64 r.1.D.s0)).setCell ⟨gm, 4, none⟩ (.int .i64 r.1.D.s1)).setCell ⟨gm, 5, none⟩ (.int .i64 r.1.a)).setCell ⟨gm, 6, none⟩ (.int .i64 (r.1.gen : Int))).setCell ⟨gm, 7, none⟩ (.int .i64 (r.1.n : Int))).setCell ⟨gm, 8, none⟩ (.slice R' r.1.list.length rc')) (Fh F g hop) gm r.1 E0 k0 d0 E1 k1 d1 R' rc' ∧ Bk (((((((((w7.setCell ⟨gm, 0, none⟩ (.int .i64 r.1.D.power)).setCell ⟨gm, 1, none⟩ (.slice E0 k0 d0)).setCell ⟨gm, 2, none⟩ (.slice E1 k1 d1)).setCell ⟨gm, 3, none⟩ (.int .i64 r.1.D.s0)).setCell ⟨gm, 4, none⟩ (.int .i64 r.1.D.s1)).setCell ⟨gm, 5, none⟩ (.int .i64 r.1.a)).setCell ⟨gm, 6, none⟩ (.int .i64 (r.1.gen : Int))).setCell ⟨gm, 7, none⟩ (.int .i64 (r.1.n : Int))).setCell ⟨gm, 8, none⟩ (.slice R' r.1.list.length rc')) hop 44 [.int .i64 wh, .int .i64 n, rv, kv] ∧ ¬ F hop ∧ hop ≠ g ∧ hop ≠ gm ∧ Lg.Md N Bb r.1 ∧ RowsOff (((((((((w7.setCell ⟨gm, 0, none⟩ (.int .i64 r.1.D.power)).setCell ⟨gm, 1, none⟩ (.slice E0 k0 d0)).setCell ⟨gm, 2, none⟩ (.slice E1 k1 d1)).setCell ⟨gm, 3, none⟩ (.int .i64 r.1.D.s0)).setCell ⟨gm, 4, none⟩ (.int .i64 r.1.D.s1)).setCell ⟨gm, 5, none⟩ (.int .i64 r.1.a)).setCell ⟨gm, 6, none⟩ (.int .i64 (r.1.gen : Int))).setCell ⟨gm, 7, none⟩ (.int .i64 (r.1.n : Int))).setCell ⟨gm, 8, none⟩ (.slice R' r.1.list.length rc')) (fun i => Fh F g hop i ∨ i = gm) A5 n5 rows := by
  have hlt : ∀ i, Fh F6 g hop i → i < w6.heap.size := fun i hi => by
    rcases hi with (hi | rfl) | rfl
    · exact hl.lt i hi
    · exact hl.lo.bk.lt
    · exact hop6.lt
  have hc : Chg (fun i => i = gm) w7 (((((((((w7.setCell ⟨gm, 0, none⟩ (.int .i64 r.1.D.power)).setCell ⟨gm, 1, none⟩ (.slice E0 k0 d0)).setCell ⟨gm, 2, none⟩ (.slice E1 k1 d1)).setCell ⟨gm, 3, none⟩ (.int .i64 r.1.D.s0)).setCell ⟨gm, 4, none⟩ (.int .i64 r.1.D.s1)).setCell ⟨gm, 5, none⟩ (.int .i64 r.1.a)).setCell ⟨gm, 6, none⟩ (.int .i64 (r.1.gen : Int))).setCell ⟨gm, 7, none⟩ (.int .i64 (r.1.n : Int))).setCell ⟨gm, 8, none⟩ (.slice R' r.1.list.length rc')) := nine_chg (F := fun i => i = gm) rfl _ _ _ _ _ _ _ _ _
  have hof := hm.off
  exact ⟨F6, (hl.kept hb).other hc (fun i e => by omega) (fun i hf e => hof (.inl (.inl (e ▸ hf)))) (fun e => hof (.inl (.inr e.symm))) hB, ml_did hm hlt s0 s1 hb ho f0 f1, nine_far (hop6.kept hb) h3 _ _ _ _ _ _ _ _ _, h1, h2, h3, hmd, (hro.below hb).chg (hc.more (G := fun i => Fh F6 g hop i ∨ i = gm) (fun i e => .inl (.inr e)))⟩
/-- the step's own kind is stored anew -/
theorem mid5_set {w X : World} {F : Nat → Prop} {gm hop gd g m0 e0 m1 e1 rc n5 : Nat} {n wh : Int} {rv kv : Value} {A5 D0 D1 R : Option Addr} {rows : List (List UInt8)} {L : Lg.PL}
    (hl : LOn w.heap.size w X F gd g L) (hm : Ml X (Fh F g hop) gm L D0 m0 e0 D1 m1 e1 R rc) (hop6 : Bk X hop 44 [.int .i64 wh, .int .i64 n, rv, kv]) (h1 : ¬ F hop) (h2 : hop ≠ g) (hgm : w.heap.size ≤ hop) (hB : 0 < w.heap.size)
    (hro : RowsOff X (fun i => Fh F g hop i ∨ i = gm) A5 n5 rows) (v : Int) :
    LOn w.heap.size w (X.setCell ⟨hop, 0, none⟩ (.int .i64 v)) F gd g L ∧ Ml (X.setCell ⟨hop, 0, none⟩ (.int .i64 v)) (Fh F g hop) gm L D0 m0 e0 D1 m1 e1 R rc ∧ Bk (X.setCell ⟨hop, 0, none⟩ (.int .i64 v)) hop 44 [.int .i64 v, .int .i64 n, rv, kv] ∧ RowsOff (X.setCell ⟨hop, 0, none⟩ (.int .i64 v)) (fun i => Fh F g hop i ∨ i = gm) A5 n5 rows := by
  have hc : Chg (fun i => i = hop) X (X.setCell ⟨hop, 0, none⟩ (.int .i64 v)) := (Chg.refl (fun i => i = hop) X).set (g := hop) (.inl rfl) 0 _
  exact ⟨hl.other hc (fun i e => by omega) (fun i hf e => h1 (e ▸ hf)) (fun e => h2 e.symm) hB, hm.chg (hc.more (G := Fh F g hop) (fun i e => .inl (.inr e))) (fun i hi => .inl hi), hop6.set 0 _, hro.chg (hc.more (G := fun i => Fh F g hop i ∨ i = gm) (fun i e => .inl (.inl (.inr e))))⟩
theorem lay_codes {D : PD} {a : Int} {gen : Nat} {ls : List (List UInt8)} (ha : known a = true) : (Lg.lay D a gen ls).2 = 0 ∨ (Lg.lay D a gen ls).2 = 40 := by
  have ht : (D.trim a 0).2 = 0 ∨ (D.trim a 0).2 = 40 := by
    unfold PD.trim
    rw [ha]
    simp only [Bool.true_and]
    split
    · split <;> simp
    · rename_i h; simp at h
  have hap : ∀ (P : PD) ps, (P.append a ps).2 = 0 ∨ (P.append a ps).2 = 40 := fun P ps => by
    unfold PD.append
    rw [if_pos ha]
    split <;> simp
  have hsy : ∀ (P : PD), (P.sync [a]).2 = 0 ∨ (P.sync [a]).2 = 40 := fun P => by
    unfold PD.sync
    rw [show [a].all known = true by simp [ha], if_pos rfl]
    split <;> simp
  unfold Lg.lay
  split
  · exact ht
  · split
    · exact hap _ _
    · exact hsy _
theorem lay_code {L : Lg.PL} {ls : List (List UInt8)} (ha : L.a = 0 ∨ L.a = 1) : (L.lay ls).2 = 0 ∨ (L.lay ls).2 = 13 ∨ (L.lay ls).2 = 40 := by
  have hk : known (1 - L.a) = true := by rcases ha with e | e <;> rw [e] <;> rfl
  unfold Lg.PL.lay
  split
  · exact .inr (.inl rfl)
  · rename_i h
    rcases lay_codes (D := L.D) (gen := L.gen + 1) (ls := ls) hk with e | e
    · rw [if_pos e]; exact .inl rfl
    · rw [if_neg (by rw [e]; simp)]; exact .inr (.inr e)
end Go.Proofs.YtmiejaohkgemnaaDoor
