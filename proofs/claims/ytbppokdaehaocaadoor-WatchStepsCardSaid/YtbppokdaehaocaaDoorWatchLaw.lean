/-
  What the laws of watches ask first: that the calls answer, scripts that are too long. Walks; no statement.
-/
import Derived.Test.YtbppokdaehaocaaDoorWatchOn
import Derived.Test.YtbppokdaehaocaaDoorOpenWatch
import Derived.BigQuiet
namespace Go.Proofs.YtbppokdaehaocaaDoor
set_option maxRecDepth 100000
open Go.RowKit
set_option linter.unusedVariables false
set_option maxRecDepth 100000

abbrev wA : Wt := ⟨1, 1, [47, 97]⟩
theorem rd_texts (w : World) (ls : List (List UInt8)) : RdT (w.alloc (.cells (ls.map sv).toArray 9)) (some ⟨w.heap.size, 0, none⟩) ls.length ls := by
  have h := Rd.new w (ls.map sv) 9
  simpa [RdT] using h
set_option maxHeartbeats 6400000 in
theorem alive_ok (w : World) (hE : Env w) : Calls Tryd.prog 8 #[] w (Tr w) := by
  have HN := Lib.hid (newW_any w)
  have HE := Lib.hid hE
  clear hE
  go_enter Tryd.func8, Tryd.ntmps8
  go_wp2_with fail
  refine (HN.out).mono ?_
  intro e w1 h1
  obtain ⟨g, F1, rfl, t1, -, -⟩ := WOn.of_new (Below.refl _ w) h1
  have hbx : Box3 w1.heap.size wA (w1.alloc (.cells #[.int .i64 1, .int .i64 1, .string ⟨#[47, 97]⟩] 31)) := (Bk.new w1 31 (wtC wA)).three
  have HNF := Lib.hid (show ¬ F1 w1.heap.size from fun h => by have := (t1.low _ h).2; omega)
  have T1 := Lib.hid (t1.kept ((Below.refl w1.heap.size w1).alloc (Nat.le_refl _) (.cells #[.int .i64 1, .int .i64 1, .string ⟨#[47, 97]⟩] 31)))
  have HB := Lib.hid hbx
  clear h1 t1 HN hbx
  go_wp2_with fail
  refine (show Calls _ _ _ _ (MvW F1 w g [wA] (.int .i64 0) _) from T1.out.add HE.out wA).mono ?_
  rintro e w2 ⟨rfl, F2, t2, f2, c2⟩
  have HB2 := Lib.hid (HB.out.did c2 HNF.out)
  have HNF2 := Lib.hid (show ¬ F2 w1.heap.size from fun h => (f2 _ h).elim HNF.out fun q => by have := HB.out.lt; omega)
  have T2 := Lib.hid t2
  obtain ⟨j0, j1, j2⟩ := HB2.out
  clear t2 f2 c2
  go_wp2_with fail
  refine (show Calls _ _ _ _ (MvW F2 w g [wA] (.int .i64 0) w2) from T2.out.add HE.out wA).mono ?_
  rintro e w3 ⟨rfl, F3, t3, f3, c3⟩
  have HB3 := Lib.hid (HB2.out.did c3 HNF2.out)
  have HNF3 := Lib.hid (show ¬ F3 w1.heap.size from fun h => (f3 _ h).elim HNF2.out fun q => by have := HB2.out.lt; omega)
  have T3 := Lib.hid t3
  clear t3 f3 c3 j0 j1 j2
  go_wp2_with fail
  refine (show Calls _ _ _ _ (FreshW [wA] w3) from T3.out.all).mono ?_
  rintro e w4 ⟨A4, c4, rfl, -, hb4⟩
  have T4 := Lib.hid (T3.out.kept hb4)
  have HB4 := Lib.hid (HB3.out.kept hb4)
  clear hb4
  go_wp2_with fail
  have hba := (Below.refl w4.heap.size w4).alloc (Nat.le_refl _) (.cells #[.string ⟨#[47, 98]⟩, .string ⟨#[47, 97]⟩] 9)
  have HBA := Lib.hid hba
  refine (show Calls _ _ _ _ (FireW F3 w g [] [wA] _) from (T4.out.kept hba).fire 1 (some ⟨w4.heap.size, 0, none⟩) 2 2 [[47, 98], [47, 97]] (rd_texts w4 [[47, 98], [47, 97]]) (by decide)).mono ?_
  rintro e w5 ⟨A5, c5, F5, rfl, ho5, hn5, t5, f5, cg5⟩
  have hbx4 := HB4.out.kept hba
  have hbx5 := hbx4.did cg5 HNF3.out
  have HB5 := Lib.hid hbx5
  have HNF5 := Lib.hid (show ¬ F5 w1.heap.size from fun h => (f5 _ h).elim HNF3.out fun q => by have := hbx4.lt; omega)
  have T5 := Lib.hid t5
  have HO5 := Lib.hid (show RdS RWt AllB w5 A5 c5 [wA] from ho5.rds fun _ _ => trivial)
  obtain ⟨j0, j1, j2⟩ := hbx5
  clear t5 f5 cg5 hbx4 hba ho5 hn5
  go_wp2_with fail
  have hb6 := (Below.refl w5.heap.size w5).alloc (Nat.le_refl _) (.cells #[.int .i64 1, .int .i64 1, .string ⟨#[47, 97]⟩] 31)
  have HN6 := Lib.hid (show RdS RWt AllB (w5.alloc (.cells #[.int .i64 1, .int .i64 1, .string ⟨#[47, 97]⟩] 31)) (some ⟨w5.heap.size, 0, none⟩) 1 [wA] from (ownW_back (rest := []) (Bk.new w5 31 (wtC wA)) rfl (Nat.zero_le _) rfl (Nat.le_refl _) (by decide) : OwnW _ 0 _ 1 1 [wA]).rds fun _ _ => trivial)
  refine (show Calls _ _ _ _ (Ans (.bool true) _) from by have := sameW_any A5 (some ⟨w5.heap.size, 0, none⟩) c5 1 _ AllB AllB [wA] [wA] (HO5.out.below hb6) HN6.out (by decide); rw [decide_eq_true rfl] at this; exact this).mono ?_
  rintro e w7 ⟨rfl, hb7⟩
  have T7 := Lib.hid ((T5.out.kept hb6).kept hb7)
  have HB7 := Lib.hid ((HB5.out.kept hb6).kept hb7)
  clear hb6 hb7 j0 j1 j2
  go_wp2_with fail
  have hba := (Below.refl w7.heap.size w7).alloc (Nat.le_refl _) (.cells #[.string ⟨#[47, 97]⟩] 9)
  refine (show Calls _ _ _ _ (FireW F5 w g [] [] _) from (T7.out.kept hba).fire 1 (some ⟨w7.heap.size, 0, none⟩) 1 1 [[47, 97]] (rd_texts w7 [[47, 97]]) (by decide)).mono ?_
  rintro e w8 ⟨A8, c8, F8, rfl, -, -, t8, f8, cg8⟩
  have hbx8 := (HB7.out.kept hba).did cg8 HNF5.out
  have T8 := Lib.hid t8
  obtain ⟨j0, j1, j2⟩ := hbx8
  clear t8 f8 cg8 hba
  go_wp2_with fail
  refine (show Calls _ _ _ _ (Ans (.bool true) w8) from right_any wA w8 (T8.out.env HE.out)).mono ?_
  rintro e w9 ⟨rfl, hb9⟩
  have HB9 := Lib.hid ((T8.out.kept hb9).be)
  clear hb9
  go_wp2_with fail
  go_ret
  exact ⟨rfl, HB9.out⟩
/-- how much a script is -/
def woW : List Wo → Nat
  | [] => 0
  | o :: r => 1 + o.paths.length + o.clients.length + o.wt.path.length + woW r
theorem woW_append (a b : List Wo) : woW (a ++ b) = woW a + woW b := by
  induction a with
  | nil => simp [woW]
  | cons x r ih => simp [woW, ih]; omega
theorem woW_next (ops : List Wo) (k : Nat) (o : Wo) (h : ops[k]? = some o) : woW (ops.take (k + 1)) = woW (ops.take k) + (1 + o.paths.length + o.clients.length + o.wt.path.length) := by
  obtain ⟨hk, rfl⟩ := List.getElem?_eq_some_iff.1 h
  rw [List.take_succ_eq_append_getElem hk, woW_append]
  simp [woW]
theorem woW_mem {ops : List Wo} {o : Wo} (h : o ∈ ops) : o.paths.length + o.clients.length + o.wt.path.length ≤ woW ops := by
  induction ops with
  | nil => cases h
  | cons x r ih =>
    unfold woW
    rcases List.mem_cons.1 h with e | e
    · subst e; omega
    · have := ih e; omega
theorem woW_len (ops : List Wo) : ops.length ≤ woW ops := by
  induction ops with
  | nil => exact Nat.le_refl _
  | cons x r ih => unfold woW; simp only [List.length_cons]; omega
/-- what the answer tells -/
def GreatW (ops : List Wo) (w : World) (e : Ending) (w' : World) : Prop := ∃ b q, e = .returned (.bool b) ∧ (b = false → woW ops ≤ 5000) ∧ w' = w.drewN q
set_option maxHeartbeats 1600000 in
theorem great_any (A : Option Addr) (c : Nat) (ops : List Wo) (w : World) (h : RdS RWo AllB w A c ops) (hg : ∀ o ∈ ops, o.big) :
    Calls Tryd.prog 9 #[.slice A ops.length c] w (GreatW ops w) := by
  have hn : ops.length ≤ 9223372036854775807 := by have := h.1; have := h.2.1; unfold maxLen at this; omega
  have HR := Lib.hid h
  have HG := Lib.hid hg
  obtain ⟨n, hl⟩ : ∃ n, n = ops.length := ⟨_, rfl⟩
  rw [← hl] at hn ⊢
  have HL := Lib.hid hl.symm
  clear h hl hg
  go_enter Tryd.func9, Tryd.ntmps9
  go_wp2_with fail
  go_loopw [3, 4] (fun m i wr => ∃ (k acc q : Nat), k ≤ n ∧ i = .int .i64 k ∧ m = .int .i64 acc ∧ acc ≤ 562949953521314 ∧ (acc = woW (ops.take k) ∨ 5000 < acc) ∧ wr = w.drewN q) (fun _ i _ => n - (intOf i).toNat)
  case atStart => exact ⟨0, 0, 0, by omega, rfl, rfl, by omega, .inl rfl, rfl⟩
  case round =>
    obtain ⟨k, acc, q, hk, rfl, rfl, hab, hacc, rfl⟩ := hrel
    have HACC := Lib.hid hacc
    clear hacc
    by_cases hkn : k < n ∧ acc ≤ 100000
    · obtain ⟨hkn, ha⟩ := hkn
      have hkl : k < ops.length := by rw [HL.out]; exact hkn
      have hx : ops[k]? = some ops[k] := List.getElem?_eq_getElem hkl
      obtain ⟨x, B, d, C, e, rfl, -, -, -, -, c3, c4, c5, -, -⟩ := HR.out.wo6 hx
      obtain ⟨hp, hr, hs⟩ := HG.out _ (List.getElem_mem hkl)
      have HWN := Lib.hid (woW_next ops k _ hx)
      generalize ops[k] = o at *
      obtain ⟨p, hlB⟩ : ∃ p, p = o.wt.path.length := ⟨_, rfl⟩
      obtain ⟨r, hlC⟩ : ∃ r, r = o.paths.length := ⟨_, rfl⟩
      obtain ⟨s, hlD⟩ : ∃ s, s = o.clients.length := ⟨_, rfl⟩
      have hsz : (⟨o.wt.path.toArray⟩ : ByteArray).size = p := by rw [hlB]; simp [ByteArray.size]
      rw [← hlC] at c4 hr
      rw [← hlD] at c5 hs
      rw [← hlB] at hp
      have HLN := Lib.hid (And.intro hlB.symm (And.intro hlC.symm hlD.symm))
      have y1 : (0 : Int) ≤ (k : Int) := by omega
      have y2 : (k : Int) < (n : Int) := by omega
      have y3 : (acc : Int) ≤ 100000 := by omega
      have w1 : IntKind.i64.wrap ((k : Int) + 1) = (k : Int) + 1 := by simp only [IntKind.wrap, IntKind.bits, IntKind.signed]; simp; omega
      have w2 : IntKind.i64.wrap (1 + (r : Int)) = 1 + (r : Int) := by simp only [IntKind.wrap, IntKind.bits, IntKind.signed]; simp; omega
      have w3 : IntKind.i64.wrap (1 + (r : Int) + (s : Int)) = 1 + (r : Int) + (s : Int) := by simp only [IntKind.wrap, IntKind.bits, IntKind.signed]; simp; omega
      have w4 : IntKind.i64.wrap (1 + (r : Int) + (s : Int) + (p : Int)) = 1 + (r : Int) + (s : Int) + (p : Int) := by simp only [IntKind.wrap, IntKind.bits, IntKind.signed]; simp; omega
      have w5 : IntKind.i64.wrap ((acc : Int) + (1 + (r : Int) + (s : Int) + (p : Int))) = ((acc + (1 + r + s + p) : Nat) : Int) := by simp only [IntKind.wrap, IntKind.bits, IntKind.signed]; simp; omega
      clear hx hkl hlB hlC hlD
      go_wp2_with fail
      go_quiet (fail)
      go_wp2_with fail
      go_roundw
      case rel =>
        refine ⟨k + 1, acc + (1 + r + s + p), _, by omega, by go_num, rfl, by omega, ?_, rfl⟩
        rcases HACC.out with e | e
        · left; rw [HWN.out, e, HLN.out.1, HLN.out.2.1, HLN.out.2.2]
        · right; omega
      case measure => simp [intOf]; omega
    · have HE := Lib.hid (show decide (5000 < acc) = false → woW ops ≤ 5000 from fun hb => by
        simp only [decide_eq_false_iff_not] at hb
        have hkn' : k = n := by omega
        rcases HACC.out with e | e
        · rw [hkn', List.take_of_length_le (by have := HL.out; omega)] at e
          omega
        · omega)
      by_cases hkn2 : k < n
      · have y2 : (k : Int) < (n : Int) := by omega
        have y3 : ¬ ((acc : Int) ≤ 100000) := by omega
        have y4 : (5000 : Int) < (acc : Int) := by omega
        clear hkn
        go_wp2_with fail
        go_ret
        exact ⟨true, q, rfl, (fun h => by cases h), rfl⟩
      · have y2 : ¬ ((k : Int) < (n : Int)) := by omega
        clear hkn
        by_cases h1 : 5000 < acc
        · have y4 : (5000 : Int) < (acc : Int) := by omega
          go_wp2_with fail
          go_ret
          exact ⟨true, q, rfl, (fun h => by cases h), rfl⟩
        · have y4 : ¬ ((5000 : Int) < (acc : Int)) := by omega
          have HE2 := Lib.hid (HE.out (by simp [h1]))
          go_wp2_with fail
          go_ret
          exact ⟨false, q, rfl, (fun _ => HE2.out), rfl⟩
end Go.Proofs.YtbppokdaehaocaaDoor
