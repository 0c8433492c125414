/-
  Words for the laws on disks; the laws' own 'alive'. Walks; no statement.
-/
import Derived.Test.YtcibjdodkcfpeaaDiskAct
namespace Go.Proofs.Ytcibjdodkcfpeaa
open Go.RowKit
set_option linter.unusedVariables false

/-- the disk g is P, all its blocks are from B on, and below B nothing has turned since w0 -/
structure On (B : Nat) (w0 w : World) (F : Nat → Prop) (g : Nat) (P : PD) : Prop where
  dk : Dk w F g P
  up : ∀ i, F i → B ≤ i
  be : Below B w0 w
  sz : B ≤ w.heap.size
section
variable {B g : Nat} {w0 w w' : World} {F : Nat → Prop} {P : PD} {r : PD × Int} {e : Ending}
theorem On.kept (h : On B w0 w F g P) (hb : Below w.heap.size w w') : On B w0 w' F g P := ⟨h.dk.kept hb, h.up, below_next h.be hb h.sz, Nat.le_trans h.sz hb.size⟩
theorem On.alloc (h : On B w0 w F g P) (o : Obj) : On B w0 (w.alloc o) F g P := h.kept ((Below.refl _ _).alloc (Nat.le_refl _) o)
theorem On.drewN (h : On B w0 w F g P) (n : Nat) : On B w0 (w.drewN n) F g P := h.kept (below_drewN (Below.refl _ _) n)
theorem On.lt (h : On B w0 w F g P) : ∀ i, F i → i < w.heap.size := h.dk.lt
theorem On.chg (h : On B w0 w F g P) (hc : Chg F w w') : Below B w0 w' := h.be.trans (hc.below h.up h.sz)
/-- behind a call that does something -/
theorem On.did (h : On B w0 w F g P) (hd : Did F g r w e w') : e = .returned (.int .i64 r.2) ∧ ∃ F', On B w0 w' F' g r.1 ∧ (∀ i, F' i → F i ∨ w.heap.size ≤ i) ∧ Chg F w w' := by
  obtain ⟨he, F', hk, hF, hc⟩ := hd
  exact ⟨he, F', ⟨hk, fun i hi => (hF i hi).elim (h.up i) (Nat.le_trans h.sz), h.chg hc, Nat.le_trans h.sz hc.size⟩, hF, hc⟩
end
theorem Made.on {B : Nat} {w0 w w' : World} {P : PD} {e : Ending} (hb : Below B w0 w) (hs : B ≤ w.heap.size) (h : Made P w e w') : ∃ g F, e = .returned (.pointer (some ⟨g, 0, none⟩)) ∧ On B w0 w' F g P ∧ (∀ i, F i → w.heap.size ≤ i) ∧ Below w.heap.size w w' := by
  obtain ⟨g, F, he, hk, hF, hbb⟩ := h
  exact ⟨g, F, he, ⟨hk, fun i hi => Nat.le_trans hs (hF i hi), below_next hb hbb hs, Nat.le_trans hs hbb.size⟩, hF, hbb⟩
theorem stay_2 {F : Nat → Prop} {W : World} {B B' : Option Addr} {n c n' c' base : Nat} {l l' : List UInt8} (h : Sl W B n c l) (hB : ∀ a, B = some a → base ≤ a.block) (h' : Sl W B' n' c' l') (hB' : ∀ a, B' = some a → base ≤ a.block) (hF : ∀ i, F i → i < base) (hb : base ≤ W.heap.size) (s : Nat) (hs : s = W.heap.size) :
    ∀ w', Chg F (W.alloc (.cells #[.slice B n c, .slice B' n' c'] 28)) w' → RdRows w' (some ⟨s, 0, none⟩) 2 [l, l'] := fun w' hc => by
  subst hs
  exact rows_of_2 (hc.rd (Rd.new W [.slice B n c, .slice B' n' c'] _) (fun a e _ hf => by injection e with e; subst e; have h2 : W.heap.size < base := hF _ hf; omega)) (hc.sl (h.alloc _) (fun a e hf => by have := hF _ hf; have := hB a e; omega)) (hc.sl (h'.alloc _) (fun a e hf => by have := hF _ hf; have := hB' a e; omega))
theorem Sl.const (w : World) (l : List UInt8) (cs : Array Value) (n s : Nat) (hc : cs = (l.map bv).toArray) (hn : n = l.length) (hs : s = w.heap.size) (fr : Nat × Nat) (h : l.length ≤ maxLen) : Sl (w.alloc (.cells cs 5 fr)) (some ⟨s, 0, none⟩) n n l := by
  subst hc hn hs
  exact Sl.marked w l fr h
theorem stay_1' {F : Nat → Prop} {W : World} {B : Option Addr} {n c base : Nat} {l : List UInt8} (h : Sl W B n c l) (hB : ∀ a, B = some a → base ≤ a.block) (hF : ∀ i, F i → i < base) (hb : base ≤ W.heap.size) (s : Nat) (hs : s = W.heap.size) :
    ∀ w', Chg F (W.alloc (.cells #[.slice B n c] 28)) w' → RdRows w' (some ⟨s, 0, none⟩) 1 [l] := by
  subst hs
  exact stay_1 h hB hF hb
/-- the example's disk, call by call -/
def ex1 : PD := ((PD.new (-1)).append 1 [[97, 98], [99]]).1
def ex2 : PD := (ex1.sync []).1
def ex3 : PD := (ex2.append 1 [[100, 101]]).1
theorem ex_ok : ((PD.new (-1)).append 1 [[97, 98], [99]]).2 = 0 ∧ (ex1.sync []).2 = 0 ∧ (ex2.append 1 [[100, 101]]).2 = 0 ∧ (ex3.crash [9, 1] (-1)).read 1 = ([97, 98, 99, 100], 0) := by decide
theorem ex_lens : ex1.d0.length = 0 ∧ ex1.d1.length = 3 ∧ ex2.d0.length = 0 ∧ ex2.d1.length = 3 ∧ ex3.d0.length = 0 ∧ ex3.d1.length = 5 ∧ (ex3.crash [9, 1] (-1)).d0.length = 0 ∧ (ex3.crash [9, 1] (-1)).d1.length = 4 := by decide
set_option maxHeartbeats 1600000 in
theorem alive_ok (w : World) : Calls Try.prog 9 #[] w (Tr w) := by
  have HN := Lib.hid (disk_new (-1) w (by omega))
  have HOK := Lib.hid ex_ok
  have HLN := Lib.hid ex_lens
  go_enter Try.func9, Try.ntmps9
  go_wp2_with fail
  refine HN.out.mono ?_
  rintro e w1 hm
  obtain ⟨g, F, rfl, hon, hF, hb1⟩ := Made.on (Below.refl w.heap.size w) (Nat.le_refl _) hm
  have kc1 := conv_const w1 w1.heap.size rfl #[.int .u8 97, .int .u8 98] 2 2
  have kc2 := conv_const (w1.alloc (.cells #[.int .u8 97, .int .u8 98] 5 (2, 3))) (w1.heap.size + 1) (by simp) #[.int .u8 99] 1 1
  have hs1 := (Sl.const w1 [97, 98] #[.int .u8 97, .int .u8 98] 2 w1.heap.size rfl rfl rfl (2, 3) (by simp [maxLen])).alloc (.cells #[.int .u8 99] 5 (1, 2))
  have hs2 := Sl.const (w1.alloc (.cells #[.int .u8 97, .int .u8 98] 5 (2, 3))) [99] #[.int .u8 99] 1 (w1.heap.size + 1) rfl rfl (by simp) (1, 2) (by simp [maxLen])
  have hon2 := ((hon.alloc (.cells #[.int .u8 97, .int .u8 98] 5 (2, 3))).alloc (.cells #[.int .u8 99] 5 (1, 2)))
  have hst := stay_2 (F := F) (base := w1.heap.size) hs1 (fun a e => by injection e with e; subst e; exact Nat.le_refl _) hs2 (fun a e => by injection e with e; subst e; simp) hon.lt (by simp; omega) (w1.heap.size + 1 + 1) (by simp)
  have hon3 := hon2.alloc (.cells #[.slice (some ⟨w1.heap.size, 0, none⟩) 2 2, .slice (some ⟨w1.heap.size + 1, 0, none⟩) 1 1] 28)
  have HON := Lib.hid hon3
  have HAP := Lib.hid (disk_append g 1 (PD.new (-1)) F (some ⟨w1.heap.size + 1 + 1, 0, none⟩) 2 2 [[97, 98], [99]] _ hon3.dk hst (by simp [PD.new]) (by simp [PD.new]) (by omega))
  clear hm hon hF hb1 hs1 hs2 hon2 hst hon3
  go_wp2_with fail
  refine HAP.out.mono ?_
  rintro e w2 hd
  obtain ⟨rfl, F2, hon, _, _⟩ := HON.out.did hd
  rw [show ((PD.new (-1)).append 1 [[97, 98], [99]]).1 = ex1 from rfl] at hon
  rw [HOK.out.1]
  have HSY := Lib.hid (disk_sync g ex1 F2 none 0 0 [] w2 hon.dk (fun w' _ => Rd.nil_ _ _) (by simp [maxLen]))
  have HON := Lib.hid hon
  clear hd hon kc1 kc2
  go_wp2_with fail
  refine HSY.out.mono ?_
  rintro e w3 hd
  obtain ⟨rfl, F3, hon, _, _⟩ := HON.out.did hd
  rw [show (ex1.sync []).1 = ex2 from rfl] at hon
  rw [HOK.out.2.1]
  have kc3 := conv_const w3 w3.heap.size rfl #[.int .u8 100, .int .u8 101] 2 2
  have hs3 := (Sl.const w3 [100, 101] #[.int .u8 100, .int .u8 101] 2 w3.heap.size rfl rfl rfl (2, 3) (by simp [maxLen]))
  have hst := stay_1' (F := F3) (base := w3.heap.size) hs3 (fun a e => by injection e with e; subst e; exact Nat.le_refl _) hon.lt (by simp) (w3.heap.size + 1) (by simp)
  have hon3 := (hon.alloc (.cells #[.int .u8 100, .int .u8 101] 5 (2, 3))).alloc (.cells #[.slice (some ⟨w3.heap.size, 0, none⟩) 2 2] 28)
  have HON := Lib.hid hon3
  have HAP := Lib.hid (disk_append g 1 ex2 F3 (some ⟨w3.heap.size + 1, 0, none⟩) 1 1 [[100, 101]] _ hon3.dk hst (by decide) (by decide) (by omega))
  clear hd hon hs3 hst hon3
  go_wp2_with fail
  refine HAP.out.mono ?_
  rintro e w4 hd
  obtain ⟨rfl, F4, hon, _, _⟩ := HON.out.did hd
  rw [show (ex2.append 1 [[100, 101]]).1 = ex3 from rfl] at hon
  rw [HOK.out.2.2.1]
  have hon3 := hon.alloc (.cells #[.int .i64 9, .int .i64 1] 3)
  have HCR := Lib.hid (disk_crash g ex3 F4 (some ⟨w4.heap.size, 0, none⟩) 2 2 [9, 1] (-1) _ hon3.dk (Rd.new w4 ([9, 1].map iv) 3) (by simp [maxLen]) (by simp) (by omega) (by decide) (by decide))
  have HON := Lib.hid hon3
  clear hd hon hon3 kc3
  go_wp2_with fail
  refine HCR.out.mono ?_
  rintro e w5 hm
  obtain ⟨g5, F5, rfl, hon, hF, hb5⟩ := Made.on HON.out.be HON.out.sz hm
  have HRD := Lib.hid (disk_read g5 1 _ F5 w5 hon.dk (by rw [HLN.out.2.2.2.2.2.2.1]; omega) (by rw [HLN.out.2.2.2.2.2.2.2]; omega))
  have HON := Lib.hid hon
  clear hm hon hF hb5
  go_wp2_with fail
  refine HRD.out.mono ?_
  rintro e w6 ⟨A, n, c, rfl, hs, hb⟩
  replace hs := Sl.own hs
  rw [HOK.out.2.2.2] at hs ⊢
  have hcv := conv_rd A n c [97, 98, 99, 100] w6 hs.rd
  have HON := Lib.hid (HON.out.kept hb)
  have hlit : ((⟨#[97, 98, 99, 100]⟩ : ByteArray) == ⟨#[97, 98, 99, 100]⟩) = true := by decide
  clear hs hb
  go_wp2_with fail
  go_ret
  exact ⟨rfl, HON.out.be⟩
end Go.Proofs.Ytcibjdodkcfpeaa
