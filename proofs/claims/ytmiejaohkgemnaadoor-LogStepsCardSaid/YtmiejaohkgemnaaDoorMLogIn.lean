import Derived.Test.YtmiejaohkgemnaaDoorMOpen
import Derived.Test.YtmiejaohkgemnaaDoorMRefDisk
import Derived.Test.YtmiejaohkgemnaaDoorMDisks

/-
  Bytes that came in lie in a block that is there. A plain lemma on the reading of arguments; no statement.
-/
namespace Go.Proofs.YtmiejaohkgemnaaDoor
open Go.ChangeShapes Go.WideShapes Go.ChangeAt Go.RowKit Go.Deep
set_option linter.unusedVariables false
set_option maxRecDepth 100000

/-- bytes that came in, and their block is there -/
def InBh (w : World) (v : Value) (l : List UInt8) : Prop := InBs w v l ∧ ∀ a n c, v = .slice (some a) n c → a.block < w.heap.size
theorem shape_lt {w : World} {b : Nat} {x : TypeId × Nat} (h : w.shape? b = some x) : b < w.heap.size := by
  by_cases hb : b < w.heap.size
  · exact hb
  · have e : w.heap[b]? = none := by simp; omega
    unfold World.shape? at h
    rw [e] at h
    cases h
theorem open_bytes_in {H : Type} {enc : TypeId × Value → H} {W : World} {base : Nat} {v : Value} {d : DataW H} {p : List MemPlace}
    (hv : Value.okWide Tryd.prog W .any base 32 v) (h : DataW.Trod enc Tryd.prog W 0 (fun _ => true) true 32 v d p) (hwt : ∀ m ∈ d.weights Tryd.prog 32, m ≤ reachBytes) : ∃ l, InBh W v l := by
  obtain ⟨l, hl⟩ := open_bytes_sz hv h hwt
  refine ⟨l, hl, ?_⟩
  rintro a n c rfl
  simp only [Value.okWide, Tryd.underlying32, Cell.okWide, Cell.ok] at hv
  obtain ⟨_, _, _, _, row, cells, hs, _⟩ := hv
  exact shape_lt hs
end Go.Proofs.YtmiejaohkgemnaaDoor

/-
  The law's own sameDisk, and the document's Crash for a disk with marks within. Walks; no statement.
-/
namespace Go.Proofs.YtmiejaohkgemnaaDoor
open Go.RowKit
set_option linter.unusedVariables false
set_option maxRecDepth 100000

set_option maxHeartbeats 1600000 in
theorem same5_any (g : Nat) (P : PD) (F : Nat → Prop) (A0 A1 : Option Addr) (n0 c0 n1 c1 : Nat) (w : World) (h : Dk w F g P) (h0 : Sl w A0 n0 c0 P.d0) (h1 : Sl w A1 n1 c1 P.d1) (b0 : P.d0.length ≤ 1099511627776) (b1 : P.d1.length ≤ 1099511627776) :
    Calls Tryd.prog 24 #[.pointer (some ⟨g, 0, none⟩), .agg #[.int .i64 P.power, .slice A0 n0 c0, .slice A1 n1 c1, .int .i64 P.s0, .int .i64 P.s1]] w (Tr w) := by
  have hb := (Below.refl w.heap.size w).alloc (Nat.le_refl _) (.cells #[.int .i64 P.power, .slice A0 n0 c0, .slice A1 n1 c1, .int .i64 P.s0, .int .i64 P.s1] 36)
  have HAT := Lib.hid (show Below w.heap.size w (w.alloc (.cells #[.int .i64 P.power, .slice A0 n0 c0, .slice A1 n1 c1, .int .i64 P.s0, .int .i64 P.s1] 36)) ∧ Bk (w.alloc (.cells #[.int .i64 P.power, .slice A0 n0 c0, .slice A1 n1 c1, .int .i64 P.s0, .int .i64 P.s1] 36)) w.heap.size 36 [.int .i64 P.power, .slice A0 n0 c0, .slice A1 n1 c1, .int .i64 P.s0, .int .i64 P.s1] from ⟨hb, Bk.new _ _ _⟩)
  have HH := Lib.hid h
  have HS0 := Lib.hid h0
  have HS1 := Lib.hid h1
  have HL := Lib.hid (And.intro b0 b1)
  clear h h0 h1 hb b0 b1
  go_enter Tryd.func24, Tryd.ntmps24
  go_wp2_with fail
  go_loopw [5] (fun i wr => ∃ a : Int, 0 ≤ a ∧ a ≤ 2 ∧ i = .int .i64 a ∧ Below w.heap.size w wr ∧ Bk wr w.heap.size 36 [.int .i64 P.power, .slice A0 n0 c0, .slice A1 n1 c1, .int .i64 P.s0, .int .i64 P.s1]) (fun i _ => (2 - intOf i).toNat)
  case atStart => exact ⟨0, by omega, by omega, rfl, HAT.out⟩
  case round =>
    clear HAT
    obtain ⟨a, ha1, ha2, rfl, hbr, kb⟩ := hrel
    by_cases ha : a < 2
    · have HRD := Lib.hid (disk_read g a P F wr (HH.out.kept hbr) HL.out.1 HL.out.2)
      obtain ⟨q0, q1, q2, q3, q4⟩ := kb.five
      have HBR := Lib.hid hbr
      have HKB := Lib.hid kb
      have HA := Lib.hid (And.intro ha1 ha)
      have w1' : IntKind.i64.wrap (a + 1) = a + 1 := by simp only [IntKind.wrap, IntKind.bits, IntKind.signed]; simp; omega
      obtain ⟨rd, hrd⟩ : ∃ rd, rd = P.read a := ⟨_, rfl⟩
      have HRDE := Lib.hid hrd
      rw [← hrd] at HRD
      clear kb hbr hrd
      go_wp2_with fail
      refine HRD.out.mono ?_
      rintro e w3 ⟨A3, n3, c3, rfl, ho3, hb3⟩
      have hb := below_next HBR.out hb3 HBR.out.size
      have kb := HKB.out.kept hb3
      have HRR := Lib.hid (refRead P.power P.s0 P.s1 a A0 A1 n0 c0 n1 c1 P.d0 P.d1 w3 (HS0.out.below hb) (HS1.out.below hb) (by rw [← HS0.out.len]; exact HL.out.1) (by rw [← HS1.out.len]; exact HL.out.2))
      rw [show PD.read ⟨P.power, P.d0, P.d1, P.s0, P.s1⟩ a = rd from HRDE.out.symm] at HRR
      clear q0 q1 q2 q3 q4
      obtain ⟨q0, q1, q2, q3, q4⟩ := kb.five
      have HO3 := Lib.hid ho3
      have HB3 := Lib.hid hb
      have HK3 := Lib.hid kb
      clear ho3 hb3 hb kb HRD
      go_wp2_with fail
      refine HRR.out.mono ?_
      rintro e w4 ⟨A4, n4, c4, rfl, hs4, hb4⟩
      have ho3 := HO3.out.below hb4
      have HSB := Lib.hid (sameBytes_self A3 A4 n3 n4 c3 c4 w4 rd.1 ho3.rd hs4.rd (Nat.le_trans (own_cap ho3).1 (own_cap ho3).2))
      have HB4 := Lib.hid (below_next HB3.out hb4 HB3.out.size)
      have HK4 := Lib.hid (HK3.out.kept hb4)
      have hne : (rd.2 != rd.2) = false := by simp
      clear ho3 hs4 hb4 HRR q0 q1 q2 q3 q4
      go_wp2_with fail
      refine HSB.out.mono ?_
      rintro e w5 ⟨rfl, kq, rfl⟩
      go_wp2_with fail
      go_roundw
      case rel => exact ⟨a + 1, by have := HA.out; omega, by have := HA.out; omega, by go_num, below_drewN HB4.out kq, HK4.out.drewN kq⟩
      case measure => have := HA.out; simp [intOf]; omega
    · have y : ¬ a < 2 := ha
      have HBR := Lib.hid hbr
      clear kb hbr ha
      go_wp2_with fail
      go_ret
      exact ⟨rfl, HBR.out⟩
/-- the document's Crash, of a disk whose marks lie within -/
theorem refCrash_any (P : PD) (pw : Int) (A0 A1 : Option Addr) (n0 c0 n1 c1 : Nat) (C : Option Addr) (q qc : Nat) (ks : List Int) (w : World) (hf : P.Fine) (h0 : Sl w A0 n0 c0 P.d0) (h1 : Sl w A1 n1 c1 P.d1) (hC : Rd w C q (ks.map iv)) (hq : q ≤ maxLen)
    (hks : ∀ x ∈ ks, -9223372036854775808 ≤ x ∧ x ≤ 9223372036854775807) (b0 : P.d0.length ≤ 1099511627776) (b1 : P.d1.length ≤ 1099511627776) :
    Calls Tryd.prog 27 #[.agg #[.int .i64 P.power, .slice A0 n0 c0, .slice A1 n1 c1, .int .i64 P.s0, .int .i64 P.s1], .slice C q qc, .int .i64 pw] w (DiskN (P.crash ks pw) w) := by
  obtain ⟨p, l0, l1, s0, s1⟩ := P
  obtain ⟨f1, f2, f3, f4⟩ := hf
  dsimp only at *
  obtain ⟨a0, rfl⟩ : ∃ a : Nat, s0 = a := ⟨s0.toNat, by omega⟩
  obtain ⟨a1, rfl⟩ : ∃ a : Nat, s1 = a := ⟨s1.toNat, by omega⟩
  have e0 := h0.len
  have e1 := h1.len
  exact refCrash p pw a0 a1 A0 A1 n0 c0 n1 c1 l0 l1 C q qc ks w h0 h1 hC hq hks (by omega) (by omega) (by omega) (by omega)
end Go.Proofs.YtmiejaohkgemnaaDoor
