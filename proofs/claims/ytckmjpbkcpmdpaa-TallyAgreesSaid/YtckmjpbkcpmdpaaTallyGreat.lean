/-
  Votes that came in; the laws' own 'great'. A walk; no statement.
-/
import Derived.Test.YtckmjpbkcpmdpaaOpenVotes
import Derived.Test.YtckmjpbkcpmdpaaMRows
namespace Go.Proofs.Ytckmjpbkcpmdpaa
open Go.RowKit
set_option linter.unusedVariables false
set_option maxRecDepth 100000

theorem InBz.below {w w' : World} {v : Value} {l : List UInt8} (h : InBz w v l) (hb : Below w.heap.size w w') : InBz w' v l := by
  obtain ⟨⟨A, n, c, e, h1, h2, h3, h4⟩, h5⟩ := h
  exact ⟨⟨A, n, c, e, h1, h2, h3.below hb, h4⟩, h5⟩
/-- where a vote's cells are, and what its key and load are -/
structure OvFour (w : World) (y : Addr) (o : Ov) (B : Option Addr) (p pc : Nat) (C : Option Addr) (q qc : Nat) : Prop where
  c0 : w.cell? y = some (.int .i64 o.voter)
  c1 : w.cell? ⟨y.block, y.off + 1, none⟩ = some (.int .i64 o.rank)
  c2 : w.cell? ⟨y.block, y.off + 2, none⟩ = some (.slice B p pc)
  c3 : w.cell? ⟨y.block, y.off + 3, none⟩ = some (.slice C q qc)
  kB : Sl w B p pc o.key
  kC : Sl w C q qc o.load
theorem OvFour.below {w w' : World} {y : Addr} {o : Ov} {B C : Option Addr} {p pc q qc : Nat} (h : OvFour w y o B p pc C q qc) (hb : Below w.heap.size w w') : OvFour w' y o B p pc C q qc := by
  have st : ∀ {a v}, w.cell? a = some v → w'.cell? a = some v := fun h => (hb.cell (cell_lt h)).trans h
  exact ⟨st h.c0, st h.c1, st h.c2, st h.c3, h.kB.below hb, h.kC.below hb⟩
theorem wf_i64 {n : Int} (h : (Lit.int .i64 n).wf = true) : -9223372036854775808 ≤ n ∧ n ≤ 9223372036854775807 := by
  simpa [Lit.wf, IntKind.min, IntKind.max, IntKind.signed, IntKind.bits] using h
/-- what is known of a vote's numbers -/
def OvOk (o : Ov) : Prop := (-9223372036854775808 ≤ o.voter ∧ o.voter ≤ 9223372036854775807) ∧ (-9223372036854775808 ≤ o.rank ∧ o.rank ≤ 9223372036854775807) ∧ o.key.length ≤ 140737488355328 ∧ o.load.length ≤ 140737488355328
theorem RdOvs.at_ {w : World} {A : Option Addr} {n : Nat} {ops : List Ov} (h : RdOvs w A n ops) {k : Nat} {o : Ov} (hk : ops[k]? = some o) : ∃ x B p pc C q qc, A = some x ∧ OvFour w (x.add (k * 4)) o B p pc C q qc ∧ OvOk o := by
  obtain ⟨x, e, hlt, B, p, pc, C, q, qc, h0, h1, h2, h3, k0, k1, hB, hC⟩ := h.2 k o hk
  exact ⟨x, B, p, pc, C, q, qc, e, ⟨by simpa [Addr.add] using h0, by simpa [Addr.add] using h1, by simpa [Addr.add] using h2, by simpa [Addr.add] using h3, Sl.of_in hB.1, Sl.of_in hC.1⟩, wf_i64 k0, wf_i64 k1, hB.2, hC.2⟩
def ovW : List Ov → Nat
  | [] => 0
  | o :: r => 1 + o.key.length + o.load.length + ovW r
theorem ovW_append (a b : List Ov) : ovW (a ++ b) = ovW a + ovW b := by
  induction a with
  | nil => simp [ovW]
  | cons x r ih => simp [ovW, ih]; omega
theorem ovW_next (ops : List Ov) (k : Nat) (o : Ov) (h : ops[k]? = some o) : ovW (ops.take (k + 1)) = ovW (ops.take k) + (1 + o.key.length + o.load.length) := by
  obtain ⟨hk, rfl⟩ := List.getElem?_eq_some_iff.1 h
  rw [List.take_succ_eq_append_getElem hk, ovW_append]
  simp [ovW]
theorem ovW_mem {ops : List Ov} {o : Ov} (h : o ∈ ops) : o.key.length ≤ ovW ops ∧ o.load.length ≤ ovW ops := by
  induction ops with
  | nil => cases h
  | cons x r ih =>
    unfold ovW
    rcases List.mem_cons.1 h with e | e
    · subst e; omega
    · have := ih e; omega
/-- what the answer tells -/
def GreatV (ops : List Ov) (w : World) (e : Ending) (w' : World) : Prop := ∃ b q, e = .returned (.bool b) ∧ (b = false → ovW ops ≤ 4000 ∧ ops.length ≤ 200) ∧ w' = w.drewN q
set_option maxHeartbeats 1600000 in
theorem great_votes (A : Option Addr) (n c : Nat) (ops : List Ov) (w : World) (h : RdOvs w A n ops) (hn : n ≤ 9223372036854775807) :
    Calls Try.prog 10 #[.slice A n c] w (GreatV ops w) := by
  have hl := h.1
  have HR := Lib.hid h
  have HL := Lib.hid hl
  clear h hl
  go_enter Try.func10, Try.ntmps10
  go_wp2_with fail
  go_loopw [3, 4] (fun m i wr => ∃ (k acc q : Nat), k ≤ n ∧ i = .int .i64 k ∧ m = .int .i64 acc ∧ acc ≤ 281474976910657 ∧ (acc = ovW (ops.take k) ∨ 4000 < acc) ∧ wr = w.drewN q) (fun _ i _ => n - (intOf i).toNat)
  case atStart => exact ⟨0, 0, 0, by omega, rfl, rfl, by omega, .inl rfl, rfl⟩
  case round =>
    obtain ⟨k, acc, q, hk, rfl, rfl, hab, hacc, rfl⟩ := hrel
    have HACC := Lib.hid hacc
    clear hacc
    by_cases hkn : k < n ∧ acc ≤ 100000
    · obtain ⟨hkn, ha⟩ := hkn
      have hkl : k < ops.length := by rw [HL.out]; exact hkn
      have hx : ops[k]? = some ops[k] := List.getElem?_eq_getElem hkl
      obtain ⟨x, B, p, pc, C, r, rc, rfl, ⟨_, _, c2, c3, hB, hC⟩, _, _, hp, hr⟩ := HR.out.at_ hx
      have HWN := Lib.hid (ovW_next ops k _ hx)
      have hlB := hB.len
      have hlC := hC.len
      rw [hlB] at hp
      rw [hlC] at hr
      have HLN := Lib.hid (And.intro hlB hlC)
      generalize ops[k] = o at *
      have y1 : (0 : Int) ≤ (k : Int) := by omega
      have y2 : (k : Int) < (n : Int) := by omega
      have y3 : (acc : Int) ≤ 100000 := by omega
      have w1 : IntKind.i64.wrap ((k : Int) + 1) = (k : Int) + 1 := by simp only [IntKind.wrap, IntKind.bits, IntKind.signed]; simp; omega
      have w2 : IntKind.i64.wrap (1 + (p : Int)) = 1 + (p : Int) := by simp only [IntKind.wrap, IntKind.bits, IntKind.signed]; simp; omega
      have w3 : IntKind.i64.wrap (1 + (p : Int) + (r : Int)) = 1 + (p : Int) + (r : Int) := by simp only [IntKind.wrap, IntKind.bits, IntKind.signed]; simp; omega
      have w4 : IntKind.i64.wrap ((acc : Int) + (1 + (p : Int) + (r : Int))) = ((acc + (1 + p + r) : Nat) : Int) := by simp only [IntKind.wrap, IntKind.bits, IntKind.signed]; simp; omega
      clear hx hkl hB hC hlB hlC
      go_wp2_with fail
      go_quiet (fail)
      go_wp2_with fail
      go_roundw
      case rel =>
        refine ⟨k + 1, acc + (1 + p + r), _, by omega, by go_num, rfl, by omega, ?_, rfl⟩
        rcases HACC.out with e | e
        · left; rw [HWN.out, e, HLN.out.1, HLN.out.2]
        · right; omega
      case measure => simp [intOf]; omega
    · have HE := Lib.hid (show (decide (4000 < acc) || decide (200 < n)) = false → ovW ops ≤ 4000 ∧ ops.length ≤ 200 from fun hb => by
        simp only [Bool.or_eq_false_iff, decide_eq_false_iff_not] at hb
        have hkn' : k = n := by omega
        rcases HACC.out with e | e
        · rw [hkn', List.take_of_length_le (by have := HL.out; omega)] at e
          have := HL.out
          omega
        · omega)
      by_cases hkn2 : k < n
      · have y2 : (k : Int) < (n : Int) := by omega
        have y3 : ¬ ((acc : Int) ≤ 100000) := by omega
        have y4 : (4000 : Int) < (acc : Int) := by omega
        clear hkn
        go_wp2_with fail
        go_ret
        exact ⟨true, q, rfl, (fun h => by cases h), rfl⟩
      · have y2 : ¬ ((k : Int) < (n : Int)) := by omega
        clear hkn
        by_cases h1 : 4000 < acc
        · have y4 : (4000 : Int) < (acc : Int) := by omega
          go_wp2_with fail
          go_ret
          exact ⟨true, q, rfl, (fun h => by cases h), rfl⟩
        · have y4 : ¬ ((4000 : Int) < (acc : Int)) := by omega
          by_cases h2 : 200 < n
          · have y5 : (200 : Int) < (n : Int) := by omega
            go_wp2_with fail
            go_ret
            exact ⟨true, q, rfl, (fun h => by cases h), rfl⟩
          · have y5 : ¬ ((200 : Int) < (n : Int)) := by omega
            have HE2 := Lib.hid (HE.out (by simp [h1, h2]))
            go_wp2_with fail
            go_ret
            exact ⟨false, q, rfl, (fun _ => HE2.out), rfl⟩
end Go.Proofs.Ytckmjpbkcpmdpaa
