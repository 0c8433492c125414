import Derived.Test.YtgppclmofphlfaaGreatDoorTreeOk
import Derived.Test.YtgppclmofphlfaaGreatDoorTreeOwned
import Derived.Test.YtgppclmofphlfaaGreatDoorMTreeE
import Derived.Test.YtgppclmofphlfaaGreatDoorOpenTree
import Derived.Test.YtgppclmofphlfaaGreatDoorMBase
import Derived.Test.YtgppclmofphlfaaGreatDoorMRows
import Derived.BigQuiet
import Derived.Deep.RegionHeld

/-
  What the laws of trees ask first: a tree of the law's own through its calls, that the calls answer, scripts that are too long. Walks; no statement.
-/
namespace Go.Proofs.YtgppclmofphlfaaGreatDoor
set_option maxRecDepth 100000
open Go.RowKit
set_option linter.unusedVariables false
set_option maxRecDepth 100000

/-- a tree of the law's own: its blocks F are new since w0 -/
structure TOn (F : Nat → Prop) (w0 : World) (g n : Nat) (t : List Lf) (w : World) : Prop where
  tree : TreeAt F w g t
  low : ∀ k, F k → w0.heap.size ≤ k ∧ k < w.heap.size
  be : Below w0.heap.size w0 w
  ok : TOk n t
/-- what a call that changes the tree leaves -/
def MvP (F : Nat → Prop) (w0 : World) (g n : Nat) (t' : List Lf) (r : Value) (w : World) (e : Ending) (w' : World) : Prop :=
  e = .returned r ∧ ∃ F', TOn F' w0 g n t' w' ∧ (∀ k, F' k → F k ∨ w.heap.size ≤ k) ∧ Chg F w w'
section
variable {F F' : Nat → Prop} {w0 w w' : World} {g n n' : Nat} {t t' : List Lf}
theorem TOn.kept (h : TOn F w0 g n t w) (hb : Below w.heap.size w w') : TOn F w0 g n t w' :=
  ⟨h.tree.below hb, fun k hk => ⟨(h.low k hk).1, Nat.lt_of_lt_of_le (h.low k hk).2 hb.size⟩, h.be.trans (hb.mono h.be.size), h.ok⟩
theorem TOn.did {r : Value} {e : Ending} (h : TOn F w0 g n t w) (hd : TDid F g t' r w e w') (hk : TOk n' t') : MvP F w0 g n' t' r w e w' := by
  obtain ⟨he, F', h1, h2, h3⟩ := hd
  refine ⟨he, Lw F' w', ⟨h1.low, fun k hk => ⟨?_, hk.2⟩, h.be.trans (h3.below (fun i hi => (h.low i hi).1) h.be.size), hk⟩, fun k hk => h2 k hk.1, h3⟩
  rcases h2 k hk.1 with q | q
  · exact (h.low k q).1
  · exact Nat.le_trans h.be.size q
theorem TOn.size (h : TOn F w0 g n t w) : w0.heap.size ≤ w.heap.size := h.be.size
theorem TOn.env (h : TOn F w0 g n t w) (hE : Env w0) : Env w := hE.below h.be
theorem TOn.of_new {w1 : World} {e : Ending} (hb : Below w0.heap.size w0 w) (h : TNew [lfRoot] w e w1) : ∃ g F, e = .returned (.pointer (some ⟨g, 0, none⟩)) ∧ TOn F w0 g 0 [lfRoot] w1 ∧ (∀ k, F k → w.heap.size ≤ k) ∧ Below w.heap.size w w1 := by
  obtain ⟨g, F, he, h1, h2, h3⟩ := h
  exact ⟨g, Lw F w1, he, ⟨h1.low, fun k hk => ⟨Nat.le_trans hb.size (h2 k hk.1), hk.2⟩, hb.trans (h3.mono hb.size), tOk_new⟩, fun k hk => h2 k hk.1, h3⟩
theorem TOn.make (h : TOn F w0 g n t w) (hE : Env w0) (p : List UInt8) (DA : Option Addr) (dc : Nat) (data : List UInt8) (FD : Nat → Prop) (own born : Int) (numbered : Bool) (hB : BF FD w DA dc data) (hDF : ∀ k, FD k → k < w.heap.size → ¬ F k) :
    Calls Tryz.prog 15 #[.pointer (some ⟨g, 0, none⟩), .string ⟨p.toArray⟩, .slice DA data.length dc, .int .i64 own, .int .i64 born, .bool numbered] w
      (MvP F w0 g n (tMake p data own born numbered t).1 (.tuple #[.string ⟨(tMake p data own born numbered t).2.1.toArray⟩, .int .i64 (tMake p data own born numbered t).2.2]) w) :=
  (make_any g t F ⟨p.toArray⟩ DA dc data FD own born numbered w (h.env hE) h.tree hB hDF (by have := h.ok.len; omega) h.ok.p64 h.ok.d1000 h.ok.wf).mono fun _ _ hd => h.did hd (h.ok.make ..)
theorem TOn.drop (h : TOn F w0 g n t w) (hE : Env w0) (p : List UInt8) (v : Int) :
    Calls Tryz.prog 17 #[.pointer (some ⟨g, 0, none⟩), .string ⟨p.toArray⟩, .int .i64 v] w (MvP F w0 g n (tDrop p v t).1 (.int .i64 (tDrop p v t).2) w) :=
  (drop_any g t F ⟨p.toArray⟩ v w (h.env hE) h.tree (by have := h.ok.len; omega)).mono fun _ _ hd => h.did hd (h.ok.drop ..)
theorem TOn.set (h : TOn F w0 g n t w) (hE : Env w0) (hn : n ≤ 100000) (p : List UInt8) (DA : Option Addr) (dc : Nat) (data : List UInt8) (FD : Nat → Prop) (v : Int) (hB : BF FD w DA dc data) :
    Calls Tryz.prog 19 #[.pointer (some ⟨g, 0, none⟩), .string ⟨p.toArray⟩, .slice DA data.length dc, .int .i64 v] w
      (MvP F w0 g (n + 1) (tSet p data v t).1 (.tuple #[.int .i64 (tSet p data v t).2.1, .int .i64 (tSet p data v t).2.2]) w) :=
  (set_any g t F ⟨p.toArray⟩ DA dc data FD v w (h.env hE) h.tree hB (by have := h.ok.len; omega) h.ok.p64).mono fun _ _ hd => h.did hd (h.ok.set hn ..)
theorem TOn.get (h : TOn F w0 g n t w) (hE : Env w0) (p : List UInt8) : Calls Tryz.prog 22 #[.pointer (some ⟨g, 0, none⟩), .string ⟨p.toArray⟩] w (GetP (tGet p t) w) :=
  get_any g t F ⟨p.toArray⟩ w (h.env hE) h.tree h.ok.p64 h.ok.d1000
theorem TOn.kids (h : TOn F w0 g n t w) (hE : Env w0) (p : List UInt8) : Calls Tryz.prog 24 #[.pointer (some ⟨g, 0, none⟩), .string ⟨p.toArray⟩] w (KidsP (tGet p t) (tKids p t) w) :=
  kidsM_any g t F ⟨p.toArray⟩ w (h.env hE) h.tree (by have := h.ok.len; omega)
theorem TOn.all (h : TOn F w0 g n t w) : Calls Tryz.prog 37 #[.pointer (some ⟨g, 0, none⟩)] w (AllP t w) :=
  all_any g t F w h.tree (by have := h.ok.len; omega) h.ok.p64 h.ok.d1000
theorem TOn.owned (h : TOn F w0 g n t w) (OA : Option Addr) (oc : Nat) (os : List Int) (ho : Rd w OA os.length (os.map (.int .i64 ·))) (hm : os.length ≤ maxLen) :
    Calls Tryz.prog 29 #[.pointer (some ⟨g, 0, none⟩), .slice OA os.length oc] w (FreshT (tOwned os t) w) :=
  owned_any g t F OA oc os w h.tree ho hm (by have := h.ok.len; omega) h.ok.p64
end
/-- rows between two worlds' ends, which the tree's blocks leave alone -/
def In (s e : Nat) : Nat → Prop := fun k => s ≤ k ∧ k < e
def Gap (F : Nat → Prop) (s e : Nat) : Prop := ∀ k, F k → k < s ∨ e ≤ k
theorem Gap.of {F : Nat → Prop} {s e : Nat} (h : ∀ k, F k → k < s) : Gap F s e := fun k hk => .inl (h k hk)
theorem Gap.did {F F' : Nat → Prop} {s e : Nat} {w : World} (h : Gap F s e) (hF : ∀ k, F' k → F k ∨ w.heap.size ≤ k) (he : e ≤ w.heap.size) : Gap F' s e := fun k hk => by
  rcases hF k hk with q | q
  · exact h k q
  · right; omega
theorem RdS.chg {α : Type} {R : Rdr α} {F : Nat → Prop} {s e c : Nat} {w w' : World} {A : Option Addr} {xs : List α} (h : RdS R (In s e) w A c xs) (hc : Chg F w w') (hg : Gap F s e) : RdS R (In s e) w' A c xs :=
  h.keep ⟨hc.size, fun k hk hl => hc.block k hl fun hf => by have h1 := hk.1; have h2 := hk.2; rcases hg k hf with q | q <;> omega⟩ fun _ h _ => h
theorem RdS.in_ {α : Type} {R : Rdr α} {s c : Nat} {w : World} {A : Option Addr} {xs : List α} (h : RdS R (From s) w A c xs) : RdS R (In s w.heap.size) w A c xs :=
  h.keep ⟨Nat.le_refl _, fun _ _ _ => rfl⟩ fun _ hk hl => ⟨hk, hl⟩
/-- a constant's bytes -/
theorem bf_mark (w : World) (l : List UInt8) (fr : Nat × Nat) (hl : l.length ≤ maxLen) : BF (From w.heap.size) (w.alloc (.cells (l.map bv).toArray 5 fr)) (some ⟨w.heap.size, 0, none⟩) l.length l :=
  ⟨Sl.marked w l fr hl, fun a e _ => by cases e; exact Nat.le_refl _⟩
set_option maxHeartbeats 6400000 in
theorem alive_ok (w : World) (hE : Env w) : Calls Tryz.prog 10 #[] w (Tr w) := by
  have HN := Lib.hid (new_any w)
  have HE := Lib.hid hE
  clear hE
  go_enter Tryz.func10, Tryz.ntmps10
  go_wp2_with fail
  refine (HN.out).mono ?_
  intro e w1 h1
  obtain ⟨g, F1, rfl, t1, -, -⟩ := TOn.of_new (Below.refl _ w) h1
  have T1 := Lib.hid t1
  clear h1 t1 HN
  go_wp2_with fail
  refine (show Calls _ _ _ _ (MvP F1 w g 0 [lfRoot, ⟨[47, 113], [], 0, -1, 0, 1⟩] (.tuple #[.string ⟨#[47, 113]⟩, .int .i64 0]) w1) from T1.out.make HE.out [47, 113] none 0 [] (fun _ => False) (-1) 1 false (BF.nil_ _ _) (fun _ h => h.elim)).mono ?_
  rintro e w2 ⟨rfl, F2, t2, -, -⟩
  have T2 := Lib.hid t2
  clear t2
  have hcc := conv_const w2 w2.heap.size rfl #[.int .u8 120] 1 1
  have HB := Lib.hid (show Below w2.heap.size w2 (w2.alloc (.cells #[.int .u8 120] 5 (1, 2))) from (Below.refl _ w2).alloc (Nat.le_refl _) _)
  go_wp2_with fail
  refine (show Calls _ _ _ _ (MvP F2 w g 0 [lfRoot, ⟨[47, 113], [], 0, -1, 1, 1⟩, ⟨[47, 113, 47, 116, 45, 48, 48, 48, 48, 48], [120], 0, 3, 0, 2⟩] (.tuple #[.string ⟨#[47, 113, 47, 116, 45, 48, 48, 48, 48, 48]⟩, .int .i64 0]) _) from (T2.out.kept HB.out).make HE.out [47, 113, 47, 116, 45] (some ⟨w2.heap.size, 0, none⟩) 1 [120] (From w2.heap.size) 3 2 true (bf_mark w2 [120] (1, 2) (by decide)) (fun k h _ hf => by have := (T2.out.low k hf).2; have h2 : w2.heap.size ≤ k := h; omega)).mono ?_
  rintro e w3 ⟨rfl, F3, t3, -, -⟩
  have T3 := Lib.hid t3
  clear t3
  go_wp2_with fail
  refine (T3.out.get HE.out [47, 113, 47, 116, 45, 48, 48, 48, 48, 48]).mono ?_
  intro e w4 h4
  obtain ⟨hb4, A, c, rfl, hbf⟩ := (show Below w3.heap.size w3 w4 ∧ ∃ A c, e = .returned (.tuple #[.agg (lfC ⟨[47, 113, 47, 116, 45, 48, 48, 48, 48, 48], [120], 0, 3, 0, 2⟩ A c).toArray, .int .i64 0]) ∧ BF (From w3.heap.size) w4 A c [120] from h4)
  clear h4
  have hcs := Lib.hid (fun W (h : Below w4.heap.size w4 W) => conv_rd A 1 c [120] W (hbf.below h).rd)
  have T4 := Lib.hid (T3.out.kept hb4)
  have HB4 := Lib.hid hbf
  have HD := Lib.hid (fun W (h : TOn F3 w g 0 [lfRoot, ⟨[47, 113], [], 0, -1, 1, 1⟩, ⟨[47, 113, 47, 116, 45, 48, 48, 48, 48, 48], [120], 0, 3, 0, 2⟩] W) => show Calls _ _ _ _ (MvP F3 w g 0 [lfRoot, ⟨[47, 113], [], 0, -1, 1, 1⟩, ⟨[47, 113, 47, 116, 45, 48, 48, 48, 48, 48], [120], 0, 3, 0, 2⟩] (.int .i64 103) W) from h.drop HE.out [47, 113] (-1))
  have HK4 := Lib.hid (Bk.new w4 50 [.string ⟨#[]⟩, .slice none 0 0, .int .i64 0, .int .i64 0, .int .i64 0, .int .i64 0])
  clear hb4 hbf hcc
  go_wp2_with (refine wpList_store_bkT rfl 50 _ _ rfl w4.heap.size (lfC ⟨[47, 113, 47, 116, 45, 48, 48, 48, 48, 48], [120], 0, 3, 0, 2⟩ A c) rfl rfl 50 [.string ⟨#[]⟩, .slice none 0 0, .int .i64 0, .int .i64 0, .int .i64 0, .int .i64 0] HK4.out rfl info_leaf1 rfl ?_; intro w5 hk5 hg5; have HB5 := Lib.hid (show Below w4.heap.size w4 w5 from ((Below.refl _ _).alloc (Nat.le_refl _) _).grown hg5.out (by simp) (fun k e => by injection e with e; omega)); have hc5 := hcs.out w5 HB5.out; have j1 : w5.cell? ⟨w4.heap.size, 3, none⟩ = some (.int .i64 3) := hk5.out.at_ rfl; have j2 : w5.cell? ⟨w4.heap.size, 1, none⟩ = some (.slice A 1 c) := hk5.out.at_ rfl; have T5 := Lib.hid (T4.out.kept HB5.out))
  refine (HD.out _ T5.out).mono ?_
  rintro e w6 ⟨rfl, F6, t6, -, -⟩
  have T6 := Lib.hid t6
  clear t6 j1 j2 hc5
  go_wp2_with fail
  refine T6.out.all.mono ?_
  rintro e w7 ⟨A7, c7, rfl, -, hb7⟩
  have T7 := Lib.hid (T6.out.kept hb7)
  clear hb7
  go_wp2_with fail
  have T8 := Lib.hid (T7.out.kept ((Below.refl w7.heap.size w7).alloc (Nat.le_refl _) (.cells #[.int .i64 3] 3)))
  refine (T8.out.owned (some ⟨w7.heap.size, 0, none⟩) 1 [3] (Rd.new w7 [.int .i64 3] 3) (by decide)).mono ?_
  rintro e w9 ⟨A9, n9, c9, rfl, ho9, hb9⟩
  have hl : n9 = 1 := by have := ho9.len; rw [← this]; rfl
  subst hl
  have HB9 := Lib.hid ((T8.out.kept hb9).be)
  clear hb9 ho9
  go_wp2_with fail
  go_ret
  exact ⟨rfl, HB9.out⟩
/-- how much a script is -/
def toW : List To → Nat
  | [] => 0
  | o :: r => 1 + o.path.length + o.data.length + toW r
theorem toW_append (a b : List To) : toW (a ++ b) = toW a + toW b := by
  induction a with
  | nil => simp [toW]
  | cons x r ih => simp [toW, ih]; omega
theorem toW_next (ops : List To) (k : Nat) (o : To) (h : ops[k]? = some o) : toW (ops.take (k + 1)) = toW (ops.take k) + (1 + o.path.length + o.data.length) := by
  obtain ⟨hk, rfl⟩ := List.getElem?_eq_some_iff.1 h
  rw [List.take_succ_eq_append_getElem hk, toW_append]
  simp [toW]
theorem toW_mem {ops : List To} {o : To} (h : o ∈ ops) : o.path.length ≤ toW ops ∧ o.data.length ≤ toW ops := by
  induction ops with
  | nil => cases h
  | cons x r ih =>
    unfold toW
    rcases List.mem_cons.1 h with e | e
    · subst e; omega
    · have := ih e; omega
/-- what the answer tells -/
def GreatV (ops : List To) (w : World) (e : Ending) (w' : World) : Prop := ∃ b q, e = .returned (.bool b) ∧ (b = false → toW ops ≤ 10000 ∧ ops.length ≤ 150) ∧ w' = w.drewN q
set_option maxHeartbeats 1600000 in
theorem great_any (A : Option Addr) (c : Nat) (ops : List To) (w : World) (h : RdS RTo AllB w A c ops) (hg : ∀ o ∈ ops, o.big) :
    Calls Tryz.prog 11 #[.slice A ops.length c] w (GreatV ops w) := by
  have hn : ops.length ≤ 9223372036854775807 := by have := h.1; have := h.2.1; unfold maxLen at this; omega
  have HR := Lib.hid h
  have HG := Lib.hid hg
  obtain ⟨n, hl⟩ : ∃ n, n = ops.length := ⟨_, rfl⟩
  rw [← hl] at hn ⊢
  have HL := Lib.hid hl.symm
  clear h hl hg
  go_enter Tryz.func11, Tryz.ntmps11
  go_wp2_with fail
  go_loopw [3, 4] (fun m i wr => ∃ (k acc q : Nat), k ≤ n ∧ i = .int .i64 k ∧ m = .int .i64 acc ∧ acc ≤ 281474976910657 ∧ (acc = toW (ops.take k) ∨ 10000 < acc) ∧ wr = w.drewN q) (fun _ i _ => n - (intOf i).toNat)
  case atStart => exact ⟨0, 0, 0, by omega, rfl, rfl, by omega, .inl rfl, rfl⟩
  case round =>
    obtain ⟨k, acc, q, hk, rfl, rfl, hab, hacc, rfl⟩ := hrel
    have HACC := Lib.hid hacc
    clear hacc
    by_cases hkn : k < n ∧ acc ≤ 100000
    · obtain ⟨hkn, ha⟩ := hkn
      have hkl : k < ops.length := by rw [HL.out]; exact hkn
      have hx : ops[k]? = some ops[k] := List.getElem?_eq_getElem hkl
      obtain ⟨x, C, rc, rfl, -, -, -, -, -, c4, c5, -, -⟩ := HR.out.to7 hx
      obtain ⟨hp, hr, -, -⟩ := HG.out _ (List.getElem_mem hkl)
      have HWN := Lib.hid (toW_next ops k _ hx)
      generalize ops[k] = o at *
      obtain ⟨p, hlB⟩ : ∃ p, p = o.path.length := ⟨_, rfl⟩
      obtain ⟨r, hlC⟩ : ∃ r, r = o.data.length := ⟨_, rfl⟩
      have hsz : (⟨o.path.toArray⟩ : ByteArray).size = p := by rw [hlB]; simp [ByteArray.size]
      rw [← hlC] at c5 hr
      rw [← hlB] at hp
      have HLN := Lib.hid (And.intro hlB.symm hlC.symm)
      have y1 : (0 : Int) ≤ (k : Int) := by omega
      have y2 : (k : Int) < (n : Int) := by omega
      have y3 : (acc : Int) ≤ 100000 := by omega
      have w1 : IntKind.i64.wrap ((k : Int) + 1) = (k : Int) + 1 := by simp only [IntKind.wrap, IntKind.bits, IntKind.signed]; simp; omega
      have w2 : IntKind.i64.wrap (1 + (p : Int)) = 1 + (p : Int) := by simp only [IntKind.wrap, IntKind.bits, IntKind.signed]; simp; omega
      have w3 : IntKind.i64.wrap (1 + (p : Int) + (r : Int)) = 1 + (p : Int) + (r : Int) := by simp only [IntKind.wrap, IntKind.bits, IntKind.signed]; simp; omega
      have w4 : IntKind.i64.wrap ((acc : Int) + (1 + (p : Int) + (r : Int))) = ((acc + (1 + p + r) : Nat) : Int) := by simp only [IntKind.wrap, IntKind.bits, IntKind.signed]; simp; omega
      clear hx hkl hlB hlC
      go_wp2_with fail
      go_quiet (fail)
      go_wp2_with fail
      go_roundw
      case rel =>
        refine ⟨k + 1, acc + (1 + p + r), _, by omega, by go_num, rfl, by omega, ?_, rfl⟩
        rcases HACC.out with e | e
        · left; rw [HWN.out, e, HLN.out.1, HLN.out.2]
        · right; omega
      case measure => simp [intOf]; omega
    · have HE := Lib.hid (show (decide (10000 < acc) || decide (150 < n)) = false → toW ops ≤ 10000 ∧ ops.length ≤ 150 from fun hb => by
        simp only [Bool.or_eq_false_iff, decide_eq_false_iff_not] at hb
        have hkn' : k = n := by omega
        rcases HACC.out with e | e
        · rw [hkn', List.take_of_length_le (by have := HL.out; omega)] at e
          have := HL.out
          omega
        · omega)
      by_cases hkn2 : k < n
      · have y2 : (k : Int) < (n : Int) := by omega
        have y3 : ¬ ((acc : Int) ≤ 100000) := by omega
        have y4 : (10000 : Int) < (acc : Int) := by omega
        clear hkn
        go_wp2_with fail
        go_ret
        exact ⟨true, q, rfl, (fun h => by cases h), rfl⟩
      · have y2 : ¬ ((k : Int) < (n : Int)) := by omega
        clear hkn
        by_cases h1 : 10000 < acc
        · have y4 : (10000 : Int) < (acc : Int) := by omega
          go_wp2_with fail
          go_ret
          exact ⟨true, q, rfl, (fun h => by cases h), rfl⟩
        · have y4 : ¬ ((10000 : Int) < (acc : Int)) := by omega
          by_cases h2 : 150 < n
          · have y5 : (150 : Int) < (n : Int) := by omega
            go_wp2_with fail
            go_ret
            exact ⟨true, q, rfl, (fun h => by cases h), rfl⟩
          · have y5 : ¬ ((150 : Int) < (n : Int)) := by omega
            have HE2 := Lib.hid (HE.out (by simp [h1, h2]))
            go_wp2_with fail
            go_ret
            exact ⟨false, q, rfl, (fun _ => HE2.out), rfl⟩
end Go.Proofs.YtgppclmofphlfaaGreatDoor

/-
  What a tree of the law's own comes to beside rows of the law's. Plain lemmas; no statement.
-/
namespace Go.Proofs.YtgppclmofphlfaaGreatDoor
set_option maxRecDepth 100000
open Go.RowKit
set_option linter.unusedVariables false
section
variable {F G : Nat → Prop} {w0 w w' : World} {g n : Nat} {t : List Lf}
theorem TOn.drew (h : TOn F w0 g n t w) : TOn F w0 g n t w.drew := h.kept ⟨rfl, rfl, rfl, Nat.le_refl _, fun _ _ => rfl⟩
theorem TOn.chg (h : TOn F w0 g n t w) (hc : Chg G w w') (hG : ∀ k, F k → ¬ G k) (h0 : ∀ k, G k → w0.heap.size ≤ k) : TOn F w0 g n t w' :=
  ⟨h.tree.chg hc fun k hk _ => hG k hk, fun k hk => ⟨(h.low k hk).1, Nat.lt_of_lt_of_le (h.low k hk).2 hc.size⟩, h.be.trans (hc.below h0 h.be.size), h.ok⟩
end
end Go.Proofs.YtgppclmofphlfaaGreatDoor

/-
  Nodes in a row of the call's own that is written. Plain lemmas; no statement.
-/
namespace Go.Proofs.YtgppclmofphlfaaGreatDoor
set_option maxRecDepth 100000
open Go.RowKit
set_option linter.unusedVariables false

/-- nodes in a row whose block is known: they can be written -/
def NRows (G : Nat → Prop) (w : World) (g c : Nat) (xs : List Lf) : Prop :=
  ∃ L : List Value, Bk w g 50 L ∧ L.length = c * 6 ∧ xs.length ≤ c ∧ c ≤ maxLen ∧ ∀ (k : Nat) (x : Lf), xs[k]? = some x → ∃ A d, (∀ (j : Nat) (u : Value), (lfC x A d)[j]? = some u → L[k * 6 + j]? = some u) ∧ BF (fun b => G b ∧ b ≠ g) w A d x.data
theorem NRows.of_own {G : Nat → Prop} {base n c : Nat} {w : World} {A : Option Addr} {xs : List Lf} (h : OwnS RLf 50 G base w A n c xs) (h0 : 0 < n) : ∃ g, A = some ⟨g, 0, none⟩ ∧ base ≤ g ∧ g < w.heap.size ∧ NRows G w g c xs := by
  obtain ⟨h1, css, h2, ⟨h3, h4⟩, h5⟩ := h
  rcases h4 with ⟨_, e⟩ | ⟨g, cap, cur, e, hb, hg, hnc, hcm, hcs, hct⟩
  · omega
  · injection e with e1 e2 e3
    subst e1; subst e3
    have hrd := fun (k : Nat) (x : Lf) (cs : List Value) (hx : xs[k]? = some x) (hc : css[k]? = some cs) => h5 k x cs hx hc
    refine ⟨g, rfl, hb, (Array.getElem?_eq_some_iff.1 hg).1, cur.toList, by rw [Bk]; simpa using hg, by simpa [RLf] using hcs, by omega, hcm, fun k x hx => ?_⟩
    have hk : k < css.length := by have := (List.getElem?_eq_some_iff.1 hx).1; omega
    obtain ⟨A', d, hcs', hbf⟩ := hrd k x _ hx (List.getElem?_eq_getElem hk)
    refine ⟨A', d, fun j u hu => ?_, hbf.keep ⟨Nat.le_refl _, fun _ _ _ => rfl⟩ fun b hb _ => ⟨hb.1, fun e => hb.2 (by rw [e]; rfl)⟩⟩
    have hlen : ∀ cs ∈ css, cs.length = 6 := fun cs hm => by
      obtain ⟨i, hi, rfl⟩ := List.getElem_of_mem hm
      obtain ⟨_, _, e2, _⟩ := hrd i _ _ (List.getElem?_eq_getElem (by omega)) (List.getElem?_eq_getElem hi)
      rw [e2]; rfl
    have hf := flat_at hlen (List.getElem?_eq_getElem hk) (show (css[k])[j]? = some u by rw [hcs']; exact hu)
    have hf2 : (cur.toList.take (n * RLf.sz))[k * 6 + j]? = some u := by rw [hct]; exact hf
    rw [List.getElem?_take] at hf2
    split at hf2
    · exact hf2
    · cases hf2
section
variable {G : Nat → Prop} {w w' : World} {g c : Nat} {xs : List Lf}
theorem NRows.at_ (h : NRows G w g c xs) {k : Nat} {x : Lf} (hx : xs[k]? = some x) : ∃ A d, w.cell? ⟨g, k * 6, none⟩ = some (.string ⟨x.path.toArray⟩) ∧ w.cell? ⟨g, k * 6 + 4, none⟩ = some (.int .i64 x.next) ∧ BF (fun b => G b ∧ b ≠ g) w A d x.data := by
  obtain ⟨L, h1, _, _, _, h4⟩ := h
  obtain ⟨A, d, h5, h6⟩ := h4 k x hx
  exact ⟨A, d, by rw [h1.cell]; exact h5 0 _ rfl, by rw [h1.cell]; exact h5 4 _ rfl, h6⟩
theorem NRows.bk (h : NRows G w g c xs) {k : Nat} {x : Lf} (hx : xs[k]? = some x) : ∃ L, Bk w g 50 L ∧ k * 6 + 4 < L.length := by
  obtain ⟨L, h1, hl, hc, _, _⟩ := h
  have := (List.getElem?_eq_some_iff.1 hx).1
  exact ⟨L, h1, by omega⟩
theorem NRows.set (h : NRows G w g c xs) {k : Nat} {x : Lf} (hx : xs[k]? = some x) (z : Int) (hg : w.grownBy w' (some g)) {L : List Value} (hL : Bk w g 50 L) (hb : Bk w' g 50 (L.set (k * 6 + 4) (.int .i64 z))) : NRows G w' g c (xs.set k { x with next := z }) := by
  obtain ⟨L0, h1, hl, hc, hm, h4⟩ := h
  have e : L0 = L := by
    have q : w.heap[g]? = _ := h1
    have q2 : w.heap[g]? = _ := hL
    rw [q] at q2
    injection q2 with q2
    injection q2 with q2
    simpa using q2
  subst e
  refine ⟨_, hb, by rw [List.length_set]; exact hl, by rw [List.length_set]; exact hc, hm, fun i y hy => ?_⟩
  by_cases hik : i = k
  · subst hik
    have hlt := (List.getElem?_eq_some_iff.1 hx).1
    rw [List.getElem?_set_self hlt] at hy
    obtain rfl := Option.some.inj hy
    obtain ⟨A, d, h5, h6⟩ := h4 i x hx
    refine ⟨A, d, fun j u hu => ?_, bf_set h6 hg fun b hb => hb.2⟩
    by_cases hj : j = 4
    · subst hj
      have hu' : some (Value.int .i64 z) = some u := hu
      obtain rfl := Option.some.inj hu'
      rw [List.getElem?_set_self (by omega)]
    · rw [List.getElem?_set_ne (by omega)]
      refine h5 j u ?_
      match j, hj with
      | 0, _ => exact hu
      | 1, _ => exact hu
      | 2, _ => exact hu
      | 3, _ => exact hu
      | 5, _ => exact hu
      | j + 6, _ => exact hu
  · rw [List.getElem?_set_ne (fun e => hik e.symm)] at hy
    obtain ⟨A, d, h5, h6⟩ := h4 i y hy
    refine ⟨A, d, fun j u hu => ?_, bf_set h6 hg fun b hb => hb.2⟩
    have hj6 : j < 6 := by have := (List.getElem?_eq_some_iff.1 hu).1; simpa [lfC] using this
    rw [List.getElem?_set_ne (by omega)]
    exact h5 j u hu
theorem NRows.below (h : NRows G w g c xs) (hb : Below w.heap.size w w') : NRows G w' g c xs := by
  obtain ⟨L, h1, hl, hc, hm, h4⟩ := h
  refine ⟨L, h1.kept hb, hl, hc, hm, fun k x hx => ?_⟩
  obtain ⟨A, d, h5, h6⟩ := h4 k x hx
  exact ⟨A, d, h5, h6.below hb⟩
theorem NRows.rds (h : NRows G w g c xs) (hG : G g) : RdS RLf G w (some ⟨g, 0, none⟩) c xs := by
  obtain ⟨L, h1, hl, hc, hm, h4⟩ := h
  refine ⟨hc, hm, (fun e => nomatch e), fun k x hx => ?_⟩
  obtain ⟨A, d, h5, h6⟩ := h4 k x hx
  refine ⟨⟨g, 0, none⟩, lfC x A d, rfl, hG, h1.lt, fun j u hu => ?_, A, d, rfl, h6.keep ⟨Nat.le_refl _, fun _ _ _ => rfl⟩ fun b hb _ => hb.1⟩
  rw [at_add0]
  show w.cell? ⟨g, k * RLf.sz + j, none⟩ = some u
  rw [h1.cell]
  exact h5 j u hu
end
/-- rows between s and e hold these nodes, and the tree's blocks leave them alone -/
def Kpt (A : Option Addr) (c : Nat) (t : List Lf) (s e : Nat) (F : Nat → Prop) (w : World) : Prop := RdS RLf (In s e) w A c t ∧ Gap F s e ∧ e ≤ w.heap.size
section
variable {A : Option Addr} {c s e : Nat} {t : List Lf} {F F' : Nat → Prop} {w w' : World}
theorem Kpt.below (h : Kpt A c t s e F w) (hb : Below w.heap.size w w') : Kpt A c t s e F w' := ⟨h.1.below hb, h.2.1, Nat.le_trans h.2.2 hb.size⟩
theorem Kpt.did (h : Kpt A c t s e F w) (hF : ∀ k, F' k → F k ∨ w.heap.size ≤ k) (hc : Chg F w w') : Kpt A c t s e F' w' := ⟨h.1.chg hc h.2.1, h.2.1.did hF h.2.2, Nat.le_trans h.2.2 hc.size⟩
end
end Go.Proofs.YtgppclmofphlfaaGreatDoor
