import Derived.Test.YtmiejaohkgemnaaDoorMOpen
import Derived.Test.YtmiejaohkgemnaaDoorMDisks
import Derived.Test.YtmiejaohkgemnaaDoorMFacts
import Derived.Test.YtmiejaohkgemnaaDoorMRows

/-
  The laws' own 'cut' and 'great' of scripts of steps on a log. Walks; no statement.
-/
namespace Go.Proofs.YtmiejaohkgemnaaDoor
open Go.RowKit
set_option linter.unusedVariables false
set_option maxRecDepth 100000

/-- a call's cells, as the walk names them -/
theorem StepAt.four {w : World} {x : Addr} {o : Step5} (h : StepAt w x o) :
    ∃ B p pc C q qc, w.cell? x = some (.int .i64 o.what) ∧ w.cell? ⟨x.block, x.off + 1, none⟩ = some (.int .i64 o.n) ∧ w.cell? ⟨x.block, x.off + 2, none⟩ = some (.slice B p pc) ∧ w.cell? ⟨x.block, x.off + 3, none⟩ = some (.slice C q qc) ∧
      (Lit.int .i64 o.what).wf = true ∧ (Lit.int .i64 o.n).wf = true ∧ InR w (.slice B p pc) o.rows ∧ InI w (.slice C q qc) o.keeps ∧ o.keeps.length ≤ 140737488355328 := by
  obtain ⟨B, p, pc, C, q, qc, h0, h1, h2, h3, r⟩ := h
  refine ⟨B, p, pc, C, q, qc, ?_, ?_, ?_, ?_, r⟩
  · simpa [Addr.add] using h0
  · simpa [Addr.add] using h1
  · simpa [Addr.add] using h2
  · simpa [Addr.add] using h3
theorem RdSteps.front {w : World} {A : Option Addr} {n m : Nat} {ops : List Step5} (h : RdSteps w A n ops) (hm : m ≤ n) : RdSteps w A m (ops.take m) :=
  ⟨by have := h.1; simp; omega, fun k o hk => h.2 k o (by rw [List.getElem?_take] at hk; split at hk <;> simp_all)⟩
theorem cut5 (A : Option Addr) (n c : Nat) (ops : List Step5) (w : World) (h : RdSteps w A n ops) (hnc : n ≤ c) (hcm : c ≤ maxLen) :
    Calls Tryd.prog 11 #[.slice A n c] w (fun e w' => ∃ m, e = .returned (.slice A m c) ∧ RdSteps w A m (ops.take 40) ∧ m ≤ 40 ∧ m ≤ n ∧ w' = w) := by
  have HR := Lib.hid h
  have hl := h.1
  clear h
  by_cases h40 : 40 < n
  · have g1 : (40 : Int) < (n : Int) := by omega
    have HM := Lib.hid h40
    have y : (40 : Int) ≤ (c : Int) := by omega
    clear h40 hl
    go_enter Tryd.func11, Tryd.ntmps11
    go_wp2_with fail
    go_ret
    exact ⟨40, rfl, HR.out.front (by have := HM.out; omega), Nat.le_refl _, by have := HM.out; omega, rfl⟩
  · have g1 : ¬ (40 : Int) < (n : Int) := by omega
    have HM := Lib.hid (show n ≤ 40 by omega)
    have HE := Lib.hid (show ops.take 40 = ops from List.take_of_length_le (by omega))
    clear h40 hl
    go_enter Tryd.func11, Tryd.ntmps11
    go_wp2_with fail
    go_ret
    exact ⟨n, rfl, by rw [HE.out]; exact HR.out, HM.out, Nat.le_refl _, rfl⟩
def weight5 : List Step5 → Nat
  | [] => 0
  | o :: r => rowsW o.rows + o.keeps.length + weight5 r
theorem weight5_append (a b : List Step5) : weight5 (a ++ b) = weight5 a + weight5 b := by
  induction a with
  | nil => simp [weight5]
  | cons x r ih => simp [weight5, ih]; omega
theorem weight5_next (ops : List Step5) (k : Nat) (h : k < ops.length) : weight5 (ops.take (k + 1)) = weight5 (ops.take k) + (rowsW ops[k].rows + ops[k].keeps.length) := by
  rw [List.take_succ_eq_append_getElem h, weight5_append]
  simp [weight5]
/-- what the answer tells -/
def Great5 (ops : List Step5) (w : World) (e : Ending) (w' : World) : Prop := ∃ b, e = .returned (.bool b) ∧ (b = false → weight5 ops ≤ 3000) ∧ w' = w
theorem great5 (A : Option Addr) (n c : Nat) (ops : List Step5) (w : World) (h : RdSteps w A n ops) (hn : n ≤ 40) :
    Calls Tryd.prog 12 #[.slice A n c] w (Great5 ops w) := by
  have hl := h.1
  have HR := Lib.hid h
  have HL := Lib.hid hl
  have HN := Lib.hid hn
  clear h hl
  go_enter Tryd.func12, Tryd.ntmps12
  go_wp2_with fail
  go_loop [3, 4] (fun m i => ∃ k : Nat, ∃ acc : Nat, k ≤ n ∧ i = .int .i64 k ∧ m = .int .i64 acc ∧ acc ≤ 281474976810657 ∧ (acc = weight5 (ops.take k) ∨ 3000 < acc)) (fun _ i => n - (intOf i).toNat)
  case atStart => exact ⟨0, 0, by omega, rfl, rfl, by omega, .inl rfl⟩
  case round =>
    obtain ⟨k, acc, hk, rfl, rfl, hab, hacc⟩ := hrel
    have HACC := Lib.hid hacc
    have HAB := Lib.hid hab
    clear hab hacc
    by_cases hkn : k < n
    · have hkl : k < ops.length := by rw [HL.out]; exact hkn
      obtain ⟨a, rfl, _, hca⟩ := HR.out.2 k ops[k] (List.getElem?_eq_getElem hkl)
      have HWN := Lib.hid (weight5_next ops k hkl)
      obtain ⟨B, p, pc, C, q0, qc, x0, x1, x2, x3, _, _, hRr, hI, hIz⟩ := hca.four
      generalize ops[k] = o at *
      obtain ⟨B', p', pc', eB, hp1, hp2, hRd, _, hRz⟩ := hRr
      injection eB with eB1 eB2 eB3
      subst eB1 eB2 eB3
      obtain ⟨C', q0', qc', eC, hq1, hq2, hRi, _, _⟩ := hI
      injection eC with eC1 eC2 eC3
      subst eC1 eC2 eC3
      have HP := Lib.hid hRd.1
      have HQ := Lib.hid (show o.keeps.length = q0 by simpa using hRi.1)
      have HRd := Lib.hid hRd
      have HB1 := Lib.hid (show p ≤ maxLen ∧ q0 ≤ 140737488355328 from ⟨by omega, by have := HQ.out; omega⟩)
      have HRZ := Lib.hid hRz
      have HKN := Lib.hid hkn
      have y1 : (0 : Int) ≤ (k : Int) := by omega
      have y2 : (k : Int) < (n : Int) := by omega
      have y3 : (n : Int) ≤ 40 := by omega
      have w1 : IntKind.i64.wrap ((k : Int) + 1) = (k : Int) + 1 := by simp only [IntKind.wrap, IntKind.bits, IntKind.signed]; simp; omega
      clear hRd hRi hca hIz hRz hp1 hp2 hq1 hq2 hkl
      by_cases ha : acc ≤ 100000
      · have ha' : (acc : Int) ≤ 100000 := by omega
        have HST := Lib.hid ha
        go_wp2_with fail
        go_loop [3, 5] (fun m j => ∃ q : Nat, ∃ acc' : Nat, q ≤ p ∧ j = .int .i64 q ∧ m = .int .i64 acc' ∧ acc' ≤ 140737488455329 ∧ (acc' = weight5 (ops.take k) + rowsW (o.rows.take q) ∨ 3000 < acc')) (fun _ j => p - (intOf j).toNat)
        case atStart => exact ⟨0, acc, by omega, rfl, rfl, by omega, by rcases HACC.out with h | h; (left; simp [rowsW]; omega); (right; exact h)⟩
        case round =>
          obtain ⟨q, acc', hq, rfl, rfl, hab', hacc'⟩ := hrel
          have HACC' := Lib.hid hacc'
          have HAB' := Lib.hid hab'
          clear hab' hacc'
          have hfin : ∀ m : Nat, (q = p ∨ 100000 < acc') → (acc' + q0 = weight5 (ops.take (k + 1)) ∨ 3000 < acc' + q0) := by
            intro _ hc
            rcases HACC'.out with h | h
            · rcases hc with hc | hc
              · left
                have e : o.rows.take q = o.rows := List.take_of_length_le (by have := HP.out; omega)
                rw [HWN.out, h, e, HQ.out]
                omega
              · right; omega
            · right; omega
          have HFIN := Lib.hid (hfin 0)
          have w3 : IntKind.i64.wrap ((acc' : Int) + (q0 : Int)) = ((acc' + q0 : Nat) : Int) := by
            have := HAB'.out; have := HB1.out
            simp only [maxLen] at *
            simp only [IntKind.wrap, IntKind.bits, IntKind.signed]; simp; omega
          clear hfin
          by_cases hqp : q < p
          · by_cases ha2 : acc' ≤ 100000
            · obtain ⟨b, E, e, rfl, _, hc, _, hem, _, _⟩ := HRd.out.at_ hqp
              have HRN := Lib.hid (rowsW_next o.rows q (by rw [HP.out]; exact hqp))
              have hzl : (o.rows.getD q []).length ≤ 140737488355328 := HRZ.out _ (getD_mem (by have := HP.out; omega))
              generalize o.rows.getD q [] = z at *
              have z0 : (acc' : Int) ≤ 100000 := by omega
              have z1 : (0 : Int) ≤ (q : Int) := by omega
              have z2 : (q : Int) < (p : Int) := by omega
              have HZ := Lib.hid hzl
              have HQP := Lib.hid hqp
              have z3 : (z.length : Int) ≤ 140737488355328 := by have := HZ.out; omega
              have HA2 := Lib.hid ha2
              have w5 : IntKind.i64.wrap ((q : Int) + 1) = (q : Int) + 1 := by
                have := HB1.out
                simp only [maxLen] at *
                simp only [IntKind.wrap, IntKind.bits, IntKind.signed]; simp; omega
              clear hem hzl
              go_wp2_with fail
              go_round
              case rel => exact ⟨q + 1, acc' + (1 + z.length), by have := HQP.out; omega, by go_num, by go_num, by have := HZ.out; have := HA2.out; omega, by rw [HRN.out]; rcases HACC'.out with h | h; (left; omega); (right; omega)⟩
              case measure => have := HQP.out; simp [intOf]; omega
            · have z0 : ¬ (acc' : Int) ≤ 100000 := by omega
              have HQP := Lib.hid (show 100000 < acc' by omega)
              have z2 : (q : Int) < (p : Int) := by omega
              clear ha2
              go_wp2_with fail
              go_round
              case rel => exact ⟨k + 1, acc' + q0, by have := HKN.out; omega, by go_num, by go_num, by have := HAB'.out; have := HB1.out; omega, HFIN.out (.inr HQP.out)⟩
              case measure => have := HKN.out; simp [intOf]; omega
          · have HQP := Lib.hid (show q = p by omega)
            have z2 : ¬ (q : Int) < (p : Int) := by omega
            go_wp2_with fail
            go_round
            case rel => exact ⟨k + 1, acc' + q0, by have := HKN.out; omega, by go_num, by go_num, by have := HAB'.out; have := HB1.out; omega, HFIN.out (.inl HQP.out)⟩
            case measure => have := HKN.out; simp [intOf]; omega
      · have z0 : ¬ (acc : Int) ≤ 100000 := by omega
        have z1 : (3000 : Int) < (acc : Int) := by omega
        go_wp2_with fail
        go_ret
        exact ⟨true, rfl, by simp, rfl⟩
    · have z0 : ¬ (k : Int) < (n : Int) := by omega
      have HKE := Lib.hid (show ops.take k = ops from List.take_of_length_le (by have := HL.out; omega))
      by_cases hb : 3000 < acc
      · have z1 : (3000 : Int) < (acc : Int) := by omega
        go_wp2_with fail
        go_ret
        exact ⟨true, rfl, by simp, rfl⟩
      · have z1 : ¬ (3000 : Int) < (acc : Int) := by omega
        have HW := Lib.hid (show weight5 ops ≤ 3000 by
          have e := HKE.out
          rcases HACC.out with h | h
          · rw [e] at h; omega
          · omega)
        go_wp2_with fail
        go_ret
        exact ⟨false, rfl, fun _ => HW.out, rfl⟩
theorem StepAt.below {w w' : World} {a : Addr} {o : Step5} (h : StepAt w a o) (hb : Below w.heap.size w w') : StepAt w' a o := by
  obtain ⟨B, p, pc, C, q, qc, h0, h1, h2, h3, k0, k1, hr, hi, hl⟩ := h
  have st : ∀ {j v}, w.cell? (a.add j) = some v → w'.cell? (a.add j) = some v := fun h => (hb.cell (cell_lt h)).trans h
  exact ⟨B, p, pc, C, q, qc, st h0, st h1, st h2, st h3, k0, k1, hr.below hb, hi.below hb, hl⟩
theorem RdSteps.below {w w' : World} {A : Option Addr} {n : Nat} {ops : List Step5} (h : RdSteps w A n ops) (hb : Below w.heap.size w w') : RdSteps w' A n ops :=
  ⟨h.1, fun k o hk => by
    obtain ⟨a, e, hlt, hc⟩ := h.2 k o hk
    exact ⟨a, e, Nat.lt_of_lt_of_le hlt hb.size, hc.below hb⟩⟩
theorem weight5_take_le (ops : List Step5) (k : Nat) : weight5 (ops.take k) ≤ weight5 ops := by
  have e : ops = ops.take k ++ ops.drop k := (List.take_append_drop k ops).symm
  have := weight5_append (ops.take k) (ops.drop k)
  rw [← e] at this
  omega
theorem weight5_at (ops : List Step5) (k : Nat) (hk : k < ops.length) : weight5 (ops.take k) + rowsW ops[k].rows + ops[k].keeps.length ≤ weight5 ops := by
  have e := weight5_next ops k hk
  have := weight5_take_le ops (k + 1)
  omega
end Go.Proofs.YtmiejaohkgemnaaDoor

/-
  Words for the laws on logs; the laws' own 'alive'; 'great' of lists of rows. Walks; no statement.
-/
namespace Go.Proofs.YtmiejaohkgemnaaDoor
open Go.RowKit
open Pk Sh
set_option linter.unusedVariables false
set_option maxRecDepth 100000

/-- the log in g on the disk in gd is L, all their blocks are from B on, and below B nothing has turned since w0 -/
structure LOn (B : Nat) (w0 w : World) (F : Nat → Prop) (gd g : Nat) (L : Lg.PL) : Prop where
  lo : Lo w F gd g L
  up : ∀ i, F i → B ≤ i
  gb : B ≤ g
  be : Below B w0 w
  sz : B ≤ w.heap.size
section
variable {B gd g : Nat} {w0 w w' : World} {F : Nat → Prop} {L : Lg.PL} {r : Lg.PL × Int} {e : Ending}
theorem LOn.kept (h : LOn B w0 w F gd g L) (hb : Below w.heap.size w w') : LOn B w0 w' F gd g L := ⟨h.lo.kept hb, h.up, h.gb, below_next h.be hb h.sz, Nat.le_trans h.sz hb.size⟩
theorem LOn.alloc (h : LOn B w0 w F gd g L) (o : Obj) : LOn B w0 (w.alloc o) F gd g L := h.kept ((Below.refl _ _).alloc (Nat.le_refl _) o)
theorem LOn.lt (h : LOn B w0 w F gd g L) : ∀ i, F i → i < w.heap.size := h.lo.dk.lt
theorem LOn.on (h : LOn B w0 w F gd g L) : On B w0 w F gd L.D := ⟨h.lo.dk, h.up, h.be, h.sz⟩
/-- behind a call on the log -/
theorem LOn.did (h : LOn B w0 w F gd g L) (hd : LDid F gd g r w e w') : e = .returned (.int .i64 r.2) ∧ ∃ F', LOn B w0 w' F' gd g r.1 ∧ (∀ i, F' i → F i ∨ w.heap.size ≤ i) ∧ Chg (fun i => F i ∨ i = g) w w' := by
  obtain ⟨he, F', hl, hF, hc⟩ := hd
  exact ⟨he, F', ⟨hl, fun i hi => (hF i hi).elim (h.up i) (Nat.le_trans h.sz), h.gb, h.be.trans (hc.below (fun i hi => hi.elim (h.up i) (fun e => e ▸ h.gb)) h.sz), Nat.le_trans h.sz hc.size⟩, hF, hc⟩
theorem Tab.on {P : PD} (hT : Tab w0) (h : On B w0 w F gd P) (hB : 0 < B) : Tab w := hT.below h.be hB
/-- an opening -/
theorem On.open_ {P : PD} (h : On B w0 w F gd P) (hd : OpenP F gd r w e w') :
    (r.2 ≠ 0 ∧ e = .returned (.tuple #[.pointer none, .int .i64 r.2]) ∧ ∃ F', On B w0 w' F' gd r.1.D ∧ (∀ i, F' i → F i ∨ w.heap.size ≤ i) ∧ Chg F w w') ∨
    (r.2 = 0 ∧ ∃ g F', e = .returned (.tuple #[.pointer (some ⟨g, 0, none⟩), .int .i64 0]) ∧ LOn B w0 w' F' gd g r.1 ∧ (∀ i, F' i → F i ∨ w.heap.size ≤ i) ∧ Chg F w w' ∧ w.heap.size ≤ g) := by
  rcases hd with ⟨hz, he, F', hd, hF, hc⟩ | ⟨hz, g, F', he, hl, hF, hc, hg⟩
  · exact .inl ⟨hz, he, F', ⟨hd, fun i hi => (hF i hi).elim (h.up i) (Nat.le_trans h.sz), h.be.trans (hc.below h.up h.sz), Nat.le_trans h.sz hc.size⟩, hF, hc⟩
  · exact .inr ⟨hz, g, F', he, ⟨hl, fun i hi => (hF i hi).elim (h.up i) (Nat.le_trans h.sz), Nat.le_trans h.sz hg, h.be.trans (hc.below h.up h.sz), Nat.le_trans h.sz hc.size⟩, hF, hc, hg⟩
end
theorem below_pos {B : Nat} {w0 w : World} {F : Nat → Prop} {gd : Nat} {P : PD} (h : On B w0 w F gd P) (hB : 0 < B) : ¬ F 0 := fun hf => by have := h.up 0 hf; omega
/-- rows that came in, as steps' rows -/
theorem step_new (W : World) (g o : Nat) (B : Option Addr) (p pc : Nat) (ls : List (List UInt8)) (h0 : W.cell? ⟨g, o, none⟩ = some (.int .i64 0)) (h1 : W.cell? ⟨g, o + 1, none⟩ = some (.int .i64 0)) (h2 : W.cell? ⟨g, o + 2, none⟩ = some (.slice B p pc)) (h3 : W.cell? ⟨g, o + 3, none⟩ = some (.slice none 0 0))
    (hR : InR W (.slice B p pc) ls) : StepAt W ⟨g, o, none⟩ ⟨0, 0, ls, []⟩ :=
  ⟨B, p, pc, none, 0, 0, by rw [at_add]; exact h0, by rw [at_add]; exact h1, by rw [at_add]; exact h2, by rw [at_add]; exact h3, rfl, rfl, hR, ⟨none, 0, 0, rfl, Nat.le_refl _, by simp [maxLen], Rd.nil_ _ _, by simp, fun _ => rfl⟩, by simp⟩
def opsB (A B : Option Addr) (n c m d : Nat) : Obj := .cells #[.int .i64 0, .int .i64 0, .slice A n c, .slice none 0 0, .int .i64 0, .int .i64 0, .slice B m d, .slice none 0 0] 44
theorem great_two (A B : Option Addr) (n c m d : Nat) (a b : List (List UInt8)) (w : World) (hA : InR w (.slice A n c) a) (hB : InR w (.slice B m d) b) :
    Calls Tryd.prog 12 #[.slice (some ⟨w.heap.size, 0, none⟩) 2 2] (w.alloc (opsB A B n c m d)) (fun e w' => ∃ x, e = .returned (.bool x) ∧ (x = false → rowsW a + rowsW b ≤ 3000) ∧ w' = w.alloc (opsB A B n c m d)) := by
  have hb : Below w.heap.size w (w.alloc (opsB A B n c m d)) := (Below.refl _ _).alloc (Nat.le_refl _) _
  have hk : Bk (w.alloc (opsB A B n c m d)) w.heap.size 44 [.int .i64 0, .int .i64 0, .slice A n c, .slice none 0 0, .int .i64 0, .int .i64 0, .slice B m d, .slice none 0 0] := Bk.new _ _ _
  refine (great5 (some ⟨w.heap.size, 0, none⟩) 2 2 [⟨0, 0, a, []⟩, ⟨0, 0, b, []⟩] _ ⟨rfl, fun k o hk' => ⟨_, rfl, by simp, ?_⟩⟩ (by omega)).mono fun e w' ⟨x, he, hx, hw⟩ => ⟨x, he, fun h => by have := hx h; simp [weight5] at this; omega, hw⟩
  match k, hk' with
  | 0, hk' =>
    simp only [List.getElem?_cons_zero, Option.some.injEq] at hk'
    subst hk'
    rw [at_add]
    exact step_new _ _ _ A n c a (hk.at_ rfl) (hk.at_ rfl) (hk.at_ rfl) (hk.at_ rfl) (hA.below hb)
  | 1, hk' =>
    simp only [List.getElem?_cons_succ, List.getElem?_cons_zero, Option.some.injEq] at hk'
    subst hk'
    rw [at_add]
    exact step_new _ _ _ B m d b (hk.at_ rfl) (hk.at_ rfl) (hk.at_ rfl) (hk.at_ rfl) (hB.below hb)
def ops1 (A : Option Addr) (n c : Nat) : Obj := .cells #[.int .i64 0, .int .i64 0, .slice A n c, .slice none 0 0] 44
theorem great_one (A : Option Addr) (n c : Nat) (a : List (List UInt8)) (w : World) (hA : InR w (.slice A n c) a) :
    Calls Tryd.prog 12 #[.slice (some ⟨w.heap.size, 0, none⟩) 1 1] (w.alloc (ops1 A n c)) (fun e w' => ∃ x, e = .returned (.bool x) ∧ (x = false → rowsW a ≤ 3000) ∧ w' = w.alloc (ops1 A n c)) := by
  have hb : Below w.heap.size w (w.alloc (ops1 A n c)) := (Below.refl _ _).alloc (Nat.le_refl _) _
  have hk : Bk (w.alloc (ops1 A n c)) w.heap.size 44 [.int .i64 0, .int .i64 0, .slice A n c, .slice none 0 0] := Bk.new _ _ _
  refine (great5 (some ⟨w.heap.size, 0, none⟩) 1 1 [⟨0, 0, a, []⟩] _ ⟨rfl, fun k o hk' => ⟨_, rfl, by simp, ?_⟩⟩ (by omega)).mono fun e w' ⟨x, he, hx, hw⟩ => ⟨x, he, fun h => by have := hx h; simp [weight5] at this; omega, hw⟩
  match k, hk' with
  | 0, hk' =>
    simp only [List.getElem?_cons_zero, Option.some.injEq] at hk'
    subst hk'
    rw [at_add]
    exact step_new _ _ _ A n c a (hk.at_ rfl) (hk.at_ rfl) (hk.at_ rfl) (hk.at_ rfl) (hA.below hb)
/-- the example's log, call by call -/
def lx1 : Lg.PL := ⟨⟨-1, Lg.H0, Lg.whole 2 1 [[120]], Lg.H0.length, (Lg.whole 2 1 [[120]]).length⟩, 1, 2, 1, [[120]]⟩
def lx2 : Lg.PL := ⟨⟨-1, Lg.H0, Lg.whole 2 1 [[120]] ++ Lg.frames 2 2 [[121], []], Lg.H0.length, (Lg.whole 2 1 [[120]]).length⟩, 1, 2, 1, [[120], [121], []]⟩
theorem lx1_is : Lg.L0.lay [[120]] = (lx1, 0) := Lg.layL0 rfl (Int.le_refl _)
theorem lx2_is : lx1.add [[121], []] = (lx2, 0) := Lg.add1 rfl
theorem lx1_len : (Lg.whole 2 1 [[120]]).length ≤ 57 := by have := Lg.whole_le (g := 2) (n := 1) (ls := [[120]]) (by omega) (by omega) (by simp); simpa [rowsW] using this
theorem lx2_len : (Lg.frames 2 2 [[121], []]).length ≤ 39 := by have := Lg.frames_le 2 2 [[121], []] (by simp); simpa [rowsW] using this
theorem lx2_good : Lg.Good lx2 := ⟨by show Lg.whole 2 1 [[120]] ++ Lg.frames 2 2 [[121], []] = Lg.whole 2 1 ([[120]] ++ [[121], []]); rw [Lg.whole_append]; rfl, .inr rfl, by decide, by decide, by decide, by decide, by simp [lx2]⟩
end Go.Proofs.YtmiejaohkgemnaaDoor

/-
  The laws' own 'alive' of logs. A walk; no statement.
-/
namespace Go.Proofs.YtmiejaohkgemnaaDoor
open Go.RowKit
open Pk Sh
set_option linter.unusedVariables false
set_option maxRecDepth 100000

theorem rows_off_1 {F : Nat → Prop} {W : World} {B : Option Addr} {n c : Nat} {l : List UInt8} (h : Sl W B n c l) (hB : ∀ a, B = some a → 0 < l.length → ¬ F a.block) (hF : ∀ i, F i → i < W.heap.size) (s : Nat) (hs : s = W.heap.size) :
    RowsOff (W.alloc (.cells #[.slice B n c] 32)) F (some ⟨s, 0, none⟩) 1 [l] := by
  subst hs
  refine ⟨rfl, _, Rd.new W [.slice B n c] _, fun a e _ hf => by injection e with e; subst e; exact absurd (hF _ hf) (Nat.lt_irrefl _), fun k u x hu hx => ?_⟩
  match k, hu, hx with
  | 0, hu, hx =>
    simp only [List.getElem?_cons_zero, Option.some.injEq] at hu hx
    subst hu hx
    have := h.len
    subst this
    exact ⟨B, c, rfl, h.alloc _, hB⟩
theorem rows_off_2 {F : Nat → Prop} {W : World} {B B' : Option Addr} {n c n' c' : Nat} {l l' : List UInt8} (h : Sl W B n c l) (hB : ∀ a, B = some a → 0 < l.length → ¬ F a.block) (h' : Sl W B' n' c' l') (hB' : ∀ a, B' = some a → 0 < l'.length → ¬ F a.block) (hF : ∀ i, F i → i < W.heap.size) (s : Nat) (hs : s = W.heap.size) :
    RowsOff (W.alloc (.cells #[.slice B n c, .slice B' n' c'] 32)) F (some ⟨s, 0, none⟩) 2 [l, l'] := by
  subst hs
  refine ⟨rfl, _, Rd.new W [.slice B n c, .slice B' n' c'] _, fun a e _ hf => by injection e with e; subst e; exact absurd (hF _ hf) (Nat.lt_irrefl _), fun k u x hu hx => ?_⟩
  match k, hu, hx with
  | 0, hu, hx =>
    simp only [List.getElem?_cons_zero, Option.some.injEq] at hu hx
    subst hu hx
    have := h.len
    subst this
    exact ⟨B, c, rfl, h.alloc _, hB⟩
  | 1, hu, hx =>
    simp only [List.getElem?_cons_succ, List.getElem?_cons_zero, Option.some.injEq] at hu hx
    subst hu hx
    have := h'.len
    subst this
    exact ⟨B', c', rfl, h'.alloc _, hB'⟩
theorem rows_3 {w : World} {X B0 B1 B2 : Option Addr} {n0 c0 n1 c1 n2 c2 : Nat} {l0 l1 l2 : List UInt8} (hr : Rd w X 3 [.slice B0 n0 c0, .slice B1 n1 c1, .slice B2 n2 c2]) (h0 : Sl w B0 n0 c0 l0) (h1 : Sl w B1 n1 c1 l1) (h2 : Sl w B2 n2 c2 l2) : RdRows w X 3 [l0, l1, l2] := by
  refine ⟨rfl, _, hr, fun k u x hu hx => ?_⟩
  match k, hu, hx with
  | 0, hu, hx =>
    simp only [List.getElem?_cons_zero, Option.some.injEq] at hu hx
    subst hu hx
    exact h0.row
  | 1, hu, hx =>
    simp only [List.getElem?_cons_succ, List.getElem?_cons_zero, Option.some.injEq] at hu hx
    subst hu hx
    exact h1.row
  | 2, hu, hx =>
    simp only [List.getElem?_cons_succ, List.getElem?_cons_zero, Option.some.injEq] at hu hx
    subst hu hx
    exact h2.row
theorem sl_const1 (w : World) (x : UInt8) (s : Nat) (hs : s = w.heap.size) (v : Value) (hv : v = bv x) : Sl (w.alloc (.cells #[v] 5 (1, 2))) (some ⟨s, 0, none⟩) 1 1 [x] := by
  subst hs hv
  exact Sl.const w [x] _ 1 _ rfl rfl rfl (1, 2) (by simp [maxLen])
set_option maxHeartbeats 3200000 in
theorem alive5 (w : World) (hT : Tab w) : Calls Tryd.prog 10 #[] w (Tr w) := by
  have HN := Lib.hid (disk_new (-1) w (by omega))
  have HT := Lib.hid hT
  clear hT
  go_enter Tryd.func10, Tryd.ntmps10
  go_wp2_with fail
  refine HN.out.mono ?_
  rintro e w1 hm
  obtain ⟨gd, F, rfl, hon, hF, hb1⟩ := Made.on (Below.refl w.heap.size w) (Nat.le_refl _) hm
  have hop := log_open gd (PD.new (-1)) F w1 hon.dk (Tab.on HT.out hon HT.out.1) (below_pos hon HT.out.1) (by simp [PD.new]) (by simp [PD.new])
  rw [Lg.opn_new] at hop
  have HOP := Lib.hid hop
  have HON := Lib.hid hon
  clear hm hon hF hb1 hop
  go_wp2_with fail
  refine HOP.out.mono ?_
  rintro e w2 ho
  rcases HON.out.open_ ho with ⟨hz, _⟩ | ⟨_, g, F2, rfl, hl2, _⟩
  · exact absurd rfl hz
  have kc1 := conv_const w2 w2.heap.size rfl #[.int .u8 120] 1 1
  have hs1 := sl_const1 w2 120 w2.heap.size rfl (.int .u8 120) rfl
  have hl3 := hl2.alloc (.cells #[.int .u8 120] 5 (1, 2))
  have hro := rows_off_1 (F := F2) hs1 (fun a e _ hf => by injection e with e; subst e; exact absurd (hl2.lt _ hf) (Nat.lt_irrefl _)) hl3.lt (w2.heap.size + 1) (by simp)
  have hl4 := hl3.alloc (.cells #[.slice (some ⟨w2.heap.size, 0, none⟩) 1 1] 32)
  have hH := Lg.H0_le
  have hx1 := lx1_len
  have hx2 := lx2_len
  have hla := lay_any gd g Lg.L0 F2 (some ⟨w2.heap.size + 1, 0, none⟩) 1 1 [[120]] _ hl4.lo hro (by simp [Lg.L0]) (by simp [Lg.L0]) (by omega) (by show Lg.H0.length + (Lg.whole 2 1 [[120]]).length ≤ _; omega) (by show 0 + (Lg.whole 2 1 [[120]]).length ≤ _; omega)
  rw [lx1_is] at hla
  have HLA := Lib.hid hla
  have HL4 := Lib.hid hl4
  have HXL := Lib.hid (And.intro hH (And.intro hx1 hx2))
  clear ho hl2 hs1 hl3 hro hl4 hH hx1 hx2 hla
  go_wp2_with fail
  refine HLA.out.mono ?_
  rintro e w3 hd
  obtain ⟨rfl, F3, hl5, _, _⟩ := HL4.out.did hd
  have kc2 := conv_const w3 w3.heap.size rfl #[.int .u8 121] 1 1
  have hs1 := sl_const1 w3 121 w3.heap.size rfl (.int .u8 121) rfl
  have hl6 := hl5.alloc (.cells #[.int .u8 121] 5 (1, 2))
  have hro := rows_off_2 (F := F3) hs1 (fun a e _ hf => by injection e with e; subst e; exact absurd (hl5.lt _ hf) (Nat.lt_irrefl _)) (Sl.nil_ _) (fun a e => by cases e) hl6.lt (w3.heap.size + 1) (by simp)
  have hl7 := hl6.alloc (.cells #[.slice (some ⟨w3.heap.size, 0, none⟩) 1 1, .slice none 0 0] 32)
  have had := add_any gd g lx1 F3 (some ⟨w3.heap.size + 1, 0, none⟩) 2 2 [[121], []] _ hl7.lo hro (by decide) (by omega) (by decide) (by have := HXL.out; show Lg.H0.length + (Lg.frames 2 2 [[121], []]).length ≤ _; omega) (by have := HXL.out; show (Lg.whole 2 1 [[120]]).length + (Lg.frames 2 2 [[121], []]).length ≤ _; omega)
  rw [lx2_is] at had
  have HAD := Lib.hid had
  have HL7 := Lib.hid hl7
  clear hd hl5 hs1 hl6 hro hl7 had kc1 HLA HL4
  go_wp2_with fail
  refine HAD.out.mono ?_
  rintro e w4 hd
  obtain ⟨rfl, F4, hl8, _, _⟩ := HL7.out.did hd
  have HRC := Lib.hid (records_any gd g lx2 F4 w4 hl8.lo lx2_good (by have := HXL.out; show Lg.H0.length ≤ _; omega) (by have := HXL.out; show (Lg.whole 2 1 [[120]] ++ Lg.frames 2 2 [[121], []]).length ≤ _; simp; omega) (by decide))
  have HL8 := Lib.hid hl8
  clear hd hl8 kc2 HAD HL7
  go_wp2_with fail
  refine HRC.out.mono ?_
  rintro e w5 ⟨A5, n5, c5, rfl, hr5, hb5⟩
  have hn5 : n5 = 3 := hr5.1.symm
  subst hn5
  have kc3 := conv_const w5 w5.heap.size rfl #[.int .u8 120] 1 1
  have kc4 := conv_const (w5.alloc (.cells #[.int .u8 120] 5 (1, 2))) (w5.heap.size + 1) (by simp) #[.int .u8 121] 1 1
  obtain ⟨wy, hwy⟩ : ∃ wy, wy = (w5.alloc (.cells #[.int .u8 120] 5 (1, 2))).alloc (.cells #[.int .u8 121] 5 (1, 2)) := ⟨_, rfl⟩
  have hs1 : Sl wy (some ⟨w5.heap.size, 0, none⟩) 1 1 [120] := by rw [hwy]; exact (sl_const1 w5 120 _ rfl _ rfl).alloc _
  have hs2 : Sl wy (some ⟨w5.heap.size + 1, 0, none⟩) 1 1 [121] := by rw [hwy]; exact sl_const1 _ 121 _ (by simp) _ rfl
  have hby : Below w5.heap.size w5 wy := by rw [hwy]; exact ((Below.refl _ _).alloc (Nat.le_refl _) _).alloc (by simp) _
  have hzs : w5.heap.size + 1 + 1 = wy.heap.size := by rw [hwy]; simp
  obtain ⟨wz, hwz⟩ : ∃ wz, wz = wy.alloc (.cells #[.slice (some ⟨w5.heap.size, 0, none⟩) 1 1, .slice (some ⟨w5.heap.size + 1, 0, none⟩) 1 1, .slice none 0 0] 32) := ⟨_, rfl⟩
  have hbz : Below w5.heap.size w5 wz := by rw [hwz]; exact hby.alloc hby.size _
  have hrr : RdRows wz (some ⟨w5.heap.size + 1 + 1, 0, none⟩) 3 [[120], [121], []] := by
    rw [hzs, hwz]
    exact rows_3 (Rd.new wy _ _) (hs1.alloc _) (hs2.alloc _) (Sl.nil_ _)
  have HSR := Lib.hid (sameRows_self A5 (some ⟨w5.heap.size + 1 + 1, 0, none⟩) 3 3 c5 3 wz [[120], [121], []] (hr5.rd.below hbz) hrr (by simp [maxLen]))
  have HL9 := Lib.hid ((HL8.out.kept hb5).kept hbz)
  have HLD := Lib.hid (fun n => laid_any gd g lx2 F4 (wz.drewN n) (HL9.out.lo.kept (below_drewN (Below.refl _ _) n)))
  clear hr5 hb5 hs1 hs2 hby hbz hrr hzs
  go_wp2_with fail
  rw [← hwy, ← hwz]
  clear hwz hwy kc3 kc4
  refine HSR.out.mono ?_
  rintro e w6 ⟨rfl, m, rfl⟩
  go_wp2_with fail
  refine (HLD.out m).mono ?_
  rintro e w7 ⟨rfl, rfl⟩
  have y : ((lx2.n : Nat) : Int) = 1 := rfl
  go_wp2_with fail
  go_ret
  exact ⟨rfl, below_drewN HL9.out.be _⟩
end Go.Proofs.YtmiejaohkgemnaaDoor

/-
  Some more words for the laws on logs. Plain lemmas; no statement.
-/
namespace Go.Proofs.YtmiejaohkgemnaaDoor
open Go.RowKit
set_option linter.unusedVariables false
set_option maxRecDepth 100000

theorem OwnRs.parts {w : World} {B0 base : Nat} {F : Nat → Prop} {A : Option Addr} {n c : Nat} {ls : List (List UInt8)} (h : OwnRs w base A n c ls) (hb : B0 ≤ base) : ∃ us, Parts B0 F w A n c us ls := by
  obtain ⟨h1, us, h2, h3⟩ := h.more hb
  refine ⟨us, h2, h1, fun k u l hu hl => ?_⟩
  obtain ⟨A', c', e, ho⟩ := h3 k u l hu hl
  exact ⟨A', c', e, .inr ho⟩
theorem Parts.cells {w : World} {B0 : Nat} {F : Nat → Prop} {A : Option Addr} {n c : Nat} {us : List Value} {ls : List (List UInt8)} (h : Parts B0 F w A n c us ls) : ∀ u ∈ us, u.oneCell' = true := fun u hu => by
  obtain ⟨k, hk, e⟩ := List.getElem_of_mem hu
  have hl : us.length = n := by simpa using h.1.1
  obtain ⟨A', c', e2, _⟩ := h.2.2 k u (ls[k]'(by have := h.2.1; omega)) (by rw [← e]; exact List.getElem?_eq_getElem hk) (List.getElem?_eq_getElem _)
  rw [e2]; rfl
/-- rows' first ones: what the walk makes of them -/
theorem rows_h (A : Option Addr) (n c k : Nat) (hk : k ≤ c) (hc : c ≤ maxLen) (wx : World) : (Instr.slice 37 (.slice A n c) none (some (.int .i64 (k : Int))) none).run Tryd.prog wx = .ok (.slice A k c) wx := by
  rw [run_slice_h wx _ _ _ _ (by kernel_rfl) .i64 (k : Int) (by simp only [maxLen] at hc; omega) (by simp only [maxLen] at hc; omega)]
  have e : Tryd.prog.elem 37 = 32 := by kernel_rfl
  have es : (sizeOf 32).run Tryd.prog wx = .ok 1 wx := by kernel_rfl
  rw [e, es]
  simp [Result.andThen, sliced, map_add_zero]
theorem RdRows.fst {w : World} {A : Option Addr} {n k : Nat} {ls : List (List UInt8)} (h : RdRows w A n ls) (hk : k ≤ n) : RdRows w A k (ls.take k) := by
  obtain ⟨h1, us, h2, h3⟩ := h
  refine ⟨by simp; omega, us.take k, h2.front hk, fun j u l hu hl => ?_⟩
  rw [List.getElem?_take] at hu hl
  split at hu
  · rename_i hj
    rw [if_pos hj] at hl
    exact h3 j u l hu hl
  · cases hu
theorem LOn.other {B gd g : Nat} {w0 w w' : World} {F G : Nat → Prop} {L : Lg.PL} (h : LOn B w0 w F gd g L) (hc : Chg G w w') (hG : ∀ i, G i → B ≤ i) (hd : ∀ i, F i → ¬ G i) (hg : ¬ G g) (hB : 0 < B) : LOn B w0 w' F gd g L :=
  ⟨⟨h.lo.dk.keep hc hd, hc.bk h.lo.bk hg, h.lo.off, h.lo.tab.chg hc (fun hz => by have := hG 0 hz; omega), h.lo.nz, h.lo.g0⟩, h.up, h.gb, h.be.trans (hc.below hG h.sz), Nat.le_trans h.sz hc.size⟩
end Go.Proofs.YtmiejaohkgemnaaDoor
