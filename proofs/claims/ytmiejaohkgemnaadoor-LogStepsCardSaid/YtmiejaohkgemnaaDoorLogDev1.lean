/-
  The program's frames: digest, stands, cut. Walks; no statement.
-/
import Derived.Test.YtmiejaohkgemnaaDoorLogPlain
import Derived.Test.YtmiejaohkgemnaaDoorSum
import Derived.Test.YtmiejaohkgemnaaDoorMRows
import Derived.Test.YtmiejaohkgemnaaDoorMDisk
import Derived.Deep.QuietTactic
import Derived.BigQuiet
namespace Go.Proofs.YtmiejaohkgemnaaDoor
open Go.RowKit
open Pk Sh
set_option linter.unusedVariables false
set_option maxRecDepth 100000

theorem numsN_two (g p : Nat) : numsN [(g : Int), (p : Int)] = Lg.headB g p := by simp [numsN, Lg.headB]
theorem numsBad_two (g p : Nat) (hg : g < 4611686018427387904) (hp : p < 4611686018427387904) : numsBad [(g : Int), (p : Int)] = false := by unfold numsBad; simp; omega
theorem Tab.still {w w' : World} (h : Tab w) (hb : Below w.heap.size w w') : Tab w' := h.below hb h.1
/-- two numbers one behind the other -/
theorem nums_two (W : World) (g p : Nat) (hg : g < 4611686018427387904) (hp : p < 4611686018427387904) :
    Calls Tryd.prog 54 #[.slice (some ⟨W.heap.size, 0, none⟩) 2 2] (W.alloc (.cells #[.int .i64 g, .int .i64 p] 3)) (Fresh2 (W.heap.size + 1) (Lg.headB g p) (W.alloc (.cells #[.int .i64 g, .int .i64 p] 3))) := by
  refine (nums_any _ 2 2 [(g : Int), (p : Int)] _ (Rd.new W ([(g : Int), (p : Int)].map iv) 3) (by omega)).mono ?_
  rintro e w' ⟨hb, ⟨hbad, _⟩ | ⟨_, A, n, c, rfl, ho⟩⟩
  · rw [numsBad_two g p hg hp] at hbad; cases hbad
  · rw [numsN_two] at ho
    exact ⟨A, n, c, rfl, by simpa using ho, hb⟩
set_option maxHeartbeats 1600000 in
theorem digest_any (g p : Nat) (B : Option Addr) (n c : Nat) (l : List UInt8) (w : World) (h : Sl w B n c l) (hT : Tab w) (hn : n ≤ 1099511627700) (hg : g < 4611686018427387904) (hp : p < 4611686018427387904) :
    Calls Tryd.prog 64 #[.int .i64 g, .int .i64 p, .slice B n c] w (Fresh1 (Lg.dig g p l) w) := by
  have HB := Lib.hid h
  have HT := Lib.hid hT
  have HN := Lib.hid (nums_two w g p hg hp)
  have HHL := Lib.hid (Lg.headB_le hg hp)
  have HNB := Lib.hid hn
  clear h hT hn
  go_enter Tryd.func64, Tryd.ntmps64
  go_wp2_with fail
  refine HN.out.mono ?_
  rintro e w2 ⟨A2, n2, c2, rfl, ho2, hb2⟩
  have hbw := below_next ((Below.refl w.heap.size w).alloc (Nat.le_refl _) (.cells #[.int .i64 g, .int .i64 p] 3)) hb2 (by simp)
  have hS := sum_any (some ⟨w2.heap.size, 0, none⟩) 2 2 [Lg.headB g p, l] _ (rows_two w2 A2 B n2 c2 n c _ l (Sl.own ho2) (HB.out.below hbw)) ((HT.out.still hbw).still ((Below.refl _ _).alloc (Nat.le_refl _) _)) (by have := HB.out.len; have := HHL.out; have := HNB.out; simp [total]; omega)
  rw [show sum [Lg.headB g p, l].flatten = sum (encN g ++ encN p ++ l) by simp [Lg.headB]] at hS
  have HS := Lib.hid hS
  have HBW := Lib.hid (hbw.alloc hbw.size (.cells #[.slice A2 n2 c2, .slice B n c] 32))
  clear hb2 ho2 hbw hS
  go_wp2_with fail
  refine HS.out.mono ?_
  rintro e w3 ⟨A3, n3, c3, rfl, ho3, hb3⟩
  have hn3 : n3 = 32 := by rw [← ho3.len, sum_len]
  subst hn3
  have hc3 := (own_cap ho3).1
  have hf := own_front (k := 4) ho3 (by omega)
  have HFR := Lib.hid (show OwnB w3 w.heap.size A3 4 c3 (Lg.dig g p l) from hf.more (HBW.out.size))
  have HB3 := Lib.hid (below_next HBW.out hb3 HBW.out.size)
  obtain ⟨g3, rfl, _⟩ := own_at ho3 (by omega)
  have hsl : ∀ wx, (Instr.slice 32 (.slice (some ⟨g3, 0, none⟩) 32 c3) none (some (.int .i64 4)) none).run Tryd.prog wx = .ok (.slice (some ⟨g3, 0, none⟩) 4 c3) wx := by
    intro wx
    rw [run_slice_h wx _ _ _ _ (by kernel_rfl) .i64 4 (by omega) (by omega)]
    have e : Tryd.prog.elem 32 = 5 := by kernel_rfl
    rw [e, size_u8]
    have e0 : (⟨g3, 0, none⟩ : Addr).add 0 = ⟨g3, 0, none⟩ := at_add g3 0 0
    simp [Result.andThen, sliced, e0]
  clear ho3 hb3 hf
  go_wp2_with fail
  go_ret
  exact ⟨_, 4, c3, rfl, HFR.out, HB3.out⟩
theorem rd_take : ∀ (l : List UInt8) (i v : Nat), i ≤ 8 → rd i v (l.take (9 - i)) = rd i v l := by
  intro l
  induction l with
  | nil => intro i v _; simp
  | cons c r ih =>
    intro i v hi
    rw [show 9 - i = (8 - i) + 1 by omega, List.take_succ_cons, rd, rd]
    by_cases hc : (i = 8 ∧ (128 ≤ c.toNat ∨ 63 < c.toNat % 128)) ∨ (c.toNat = 0 ∧ 0 < i)
    · rw [if_pos hc, if_pos hc]
    · rw [if_neg hc, if_neg hc]
      by_cases hl : c.toNat < 128
      · rw [if_pos hl, if_pos hl]
      · rw [if_neg hl, if_neg hl]
        have h8 : i ≠ 8 := fun e => hc (.inl ⟨e, .inl (by omega)⟩)
        have := ih (i + 1) (v + c.toNat % 128 * 2 ^ (7 * i)) (by omega)
        rw [show 9 - (i + 1) = 8 - i by omega] at this
        exact this
theorem rdN_take (l : List UInt8) : rdN (l.take 9) = rdN l := rd_take l 0 0 (by omega)
theorem add_zero (a : Addr) : a.add 0 = a := by unfold Addr.add; simp
theorem map_add_zero (A : Option Addr) : A.map (fun x => x.add 0) = A := by cases A <;> simp [add_zero]
/-- a slice's first bytes, its others: what the walk makes of them -/
theorem slice_h (A : Option Addr) (n c k : Nat) (hk : k ≤ c) (hc : c ≤ maxLen) (wx : World) : (Instr.slice 32 (.slice A n c) none (some (.int .i64 (k : Int))) none).run Tryd.prog wx = .ok (.slice A k c) wx := by
  rw [run_slice_h wx _ _ _ _ (by kernel_rfl) .i64 (k : Int) (by simp only [maxLen] at hc; omega) (by simp only [maxLen] at hc; omega)]
  have e : Tryd.prog.elem 32 = 5 := by kernel_rfl
  rw [e, size_u8]
  simp [Result.andThen, sliced, map_add_zero]
theorem slice_l (A : Option Addr) (n c k : Nat) (hk : k ≤ n) (hn : n ≤ c) (hc : c ≤ maxLen) (wx : World) : (Instr.slice 32 (.slice A n c) (some (.int .i64 (k : Int))) none none).run Tryd.prog wx = .ok (.slice (cutA A c k) (n - k) (c - k)) wx := by
  rw [run_slice_l wx _ _ _ _ (by kernel_rfl) .i64 (k : Int) (by simp only [maxLen] at hc; omega) (by simp only [maxLen] at hc; omega)]
  have e : Tryd.prog.elem 32 = 5 := by kernel_rfl
  rw [e, size_u8]
  simp [Result.andThen, sliced, cutA]
theorem Sl.snd {w : World} {A : Option Addr} {n c k : Nat} {l : List UInt8} (h : Sl w A n c l) (hk : k ≤ n) : Sl w (cutA A c k) (n - k) (c - k) (l.drop k) := by
  obtain ⟨h1, h2, h3, h4⟩ := h
  refine ⟨by omega, by omega, by rw [List.map_drop]; exact h3.cut hk h1, fun e => ?_⟩
  unfold cutA at e
  split at e
  · omega
  · have : A = none := by cases A <;> simp_all
    have := h4 this
    omega
theorem Sl.fst {w : World} {A : Option Addr} {n c k : Nat} {l : List UInt8} (h : Sl w A n c l) (hk : k ≤ n) : Sl w A k c (l.take k) :=
  ⟨Nat.le_trans hk h.1, h.2.1, by rw [List.map_take]; exact h.2.2.1.front hk, h.2.2.2⟩
/-- what a call hands back that has a struct and two values -/
theorem results_cell_tmp2 {fn : Func} {p u v : Tmp} {ty : TypeId} (h : fn.results = #[.cell p ty, .tmp u, .tmp v]) (tmps : Array Value) (P : Program) (w : World) :
    (results fn tmps).run P w = ((asAddr (tmps.getD p undef)).run P w).andThen fun a w1 => ((loadVar ty a).run P w1).andThen fun x w2 => .ok (.tuple #[x, tmps.getD u undef, tmps.getD v undef]) w2 := by
  simp only [results, h]
  simp [Sem.run_bind, Result.andThen]
theorem results_row_tmp2 {P : Program} {fn : Func} {p u v : Tmp} {ty : TypeId} (h : fn.results = #[.cell p ty, .tmp u, .tmp v]) (tmps : Array Value) (w : World) (g : Nat) (t : TypeId) (cs : List Value) (d : TypeDesc)
    (hp : tmps.getD p undef = .pointer (some ⟨g, 0, none⟩)) (hg : Bk w g t cs)
    (hu : P.underlying ty = some d) (hd : (match d with | .struct _ | .array _ _ => true | _ => false) = true) (hi : (P.info? ty).map (·.size) = some cs.toArray.size) :
    (results fn tmps).run P w = .ok (.tuple #[.agg cs.toArray, tmps.getD u undef, tmps.getD v undef]) w := by
  rw [results_cell_tmp2 h, hp]
  simp only [asAddr, Sem.run_pure, Result.andThen_ok, run_loadVar_row w g t ty cs.toArray (0, 0) d hg hu hd hi]
theorem info_frame : (Tryd.prog.info? 89).map (·.size) = some 2 := by kernel_rfl
theorem two_set {X : World} {g : Nat} {t : TypeId} {x0 x1 : Value} (k : Bk X g t [x0, x1]) (a b : Value) : Bk ((X.setCell ⟨g, 0, none⟩ a).setCell ⟨g, 1, none⟩ b) g t [a, b] := (k.set 0 a).set 1 b
theorem two_below {B g : Nat} {w X : World} (h : Below B w X) (hg : B ≤ g) (a b : Value) : Below B w ((X.setCell ⟨g, 0, none⟩ a).setCell ⟨g, 1, none⟩ b) := below_set (below_set h hg 0 a) hg 1 b
/-- cut's answer -/
def CutP (A : Option Addr) (n c : Nat) (b : List UInt8) (w : World) (e : Ending) (w' : World) : Prop :=
  Below w.heap.size w w' ∧ ((Lg.cut b = none ∧ e = .returned (.tuple #[.agg #[.slice none 0 0, .slice none 0 0], .slice none 0 0, .bool false])) ∨
    ∃ s p r A1 c1 A2 c2 A3 c3, Lg.cut b = some (s, p, r) ∧ e = .returned (.tuple #[.agg #[.slice A1 4 c1, .slice A2 p.length c2], .slice A3 r.length c3, .bool true]) ∧
      ∀ W, Sl W A n c b → Sl W A1 4 c1 s ∧ Sl W A2 p.length c2 p ∧ Sl W A3 r.length c3 r)
set_option maxHeartbeats 1600000 in
theorem cut_log (A : Option Addr) (n c : Nat) (b : List UInt8) (w : World) (h : Sl w A n c b) (hn : n ≤ 1099511627776) :
    Calls Tryd.prog 48 #[.slice A n c] w (CutP A n c b w) := by
  have hl := h.len
  obtain ⟨nf, hnf⟩ : ∃ nf : Nat, nf = min n 9 := ⟨_, rfl⟩
  have hfr := h.fst (k := nf) (by omega)
  have et : b.take nf = b.take 9 := by rw [hnf, ← hl, Nat.min_comm, ← List.take_take, List.take_length]
  rw [et] at hfr
  have hcm := h.2.1
  have hnc := h.1
  have HSH := Lib.hid (slice_h A n c nf (by omega) hcm)
  have hsh := HSH.out
  have hmin : ∀ (ts : Array TypeId) (t : TypeId) (W : World), (Builtin.min_ ts t #[.int .i64 (n : Int), .int .i64 9]).run Tryd.prog W = .ok (.int .i64 (nf : Int)) W := fun ts t W => by
    rw [run_min_int2]
    have : (if (9 : Int) < (n : Int) then (9 : Int) else (n : Int)) = (nf : Int) := by split <;> omega
    rw [this]
  have HL := Lib.hid hl
  have HNF := Lib.hid hnf
  have HA := Lib.hid h
  have HFR := Lib.hid hfr
  have HNC := Lib.hid hnc
  have HCM := Lib.hid hcm
  have HN := Lib.hid hn
  have y2 : (0 : Int) ≤ (nf : Int) := by omega
  have hRD : ∀ W, Below w.heap.size w W → Calls Tryd.prog 68 #[.slice A nf c] W (ReadPost (b.take 9) W) := fun W hW =>
    read_any A nf c (b.take 9) W (hfr.rd.below hW) hfr.1 hfr.2.1 (by omega)
  have HRD := Lib.hid hRD
  clear hl hnf h hfr hnc hcm hn hRD et
  go_enter Tryd.func48, Tryd.ntmps48
  go_wp2_with fail
  refine (HRD.out _ ((Below.refl _ _).alloc (Nat.le_refl _) _)).mono ?_
  rintro e w1 ⟨A1, n1, c1, rfl, ho1, hb1⟩
  have hb := below_next ((Below.refl w.heap.size w).alloc (Nat.le_refl _) (.cells #[.slice none 0 0, .slice none 0 0] 89)) hb1 (by simp)
  have kb := (Bk.new w 89 [.slice none 0 0, .slice none 0 0]).kept hb1
  have HB := Lib.hid hb
  have HKB := Lib.hid kb
  have hn1 := ho1.len
  rw [rdN_take] 
  have er : restN (b.take 9) = if (rdN b).2.2 = 0 then (b.take 9).drop (rdN b).2.1 else [] := by unfold restN; rw [rdN_take]
  rw [er] at hn1
  clear hb1 kb ho1 er
  have hlt := rdN_lt b
  by_cases h0 : (rdN b).2.2 = 0
  · rw [if_pos h0] at hn1
    have hcnt := rdN_count (l := b.take 9) (by rw [rdN_take]; exact h0)
    rw [rdN_take] at hcnt
    have hk1 : (rdN b).2.1 ≤ nf := by have := HNF.out; have := HL.out; simp at hcnt; omega
    have e1 : IntKind.i64.wrap ((nf : Int) - (n1 : Int)) = (((rdN b).2.1 : Nat) : Int) := by
      have := HNF.out; have := HL.out; simp at hn1
      simp only [IntKind.wrap, IntKind.bits, IntKind.signed]; simp; omega
    have hsl := slice_l A n c (rdN b).2.1 (by have := HNF.out; omega) HNC.out HCM.out
    have hA2 := HA.out.snd (k := (rdN b).2.1) (by have := HNF.out; omega)
    have HSN := Lib.hid (fun (W : World) (hW : Sl W A n c b) => hW.snd (k := (rdN b).2.1) (by have := HNF.out; omega))
    have HDEF := Lib.hid (show Lg.cut b = if (rdN b).1 ≤ 65536 ∧ 4 + (rdN b).1 ≤ n - (rdN b).2.1 then some ((b.drop (rdN b).2.1).take 4, ((b.drop (rdN b).2.1).drop 4).take (rdN b).1, ((b.drop (rdN b).2.1).drop 4).drop (rdN b).1) else none by
      unfold Lg.cut
      have hk : (rdN b).2.1 ≤ n := by have := HNF.out; omega
      have hl := HL.out
      by_cases hc : (rdN b).1 ≤ 65536 ∧ 4 + (rdN b).1 ≤ n - (rdN b).2.1
      · rw [if_pos hc, if_pos ⟨h0, hc.1, by omega⟩]
      · rw [if_neg hc, if_neg (fun q => hc ⟨q.2.1, by omega⟩)])
    rw [h0]
    have HDL := Lib.hid (show (b.drop (rdN b).2.1).length = n - (rdN b).2.1 by rw [List.length_drop, HL.out])
    have hN2 : n - (rdN b).2.1 ≤ 1099511627776 := by have := HN.out; omega
    clear hcnt hn1 h0
    obtain ⟨hq1, hq2, _⟩ := hA2
    generalize cutA A c (rdN b).2.1 = B at *
    generalize n - (rdN b).2.1 = n2 at *
    generalize c - (rdN b).2.1 = c2 at *
    generalize b.drop (rdN b).2.1 = r at *
    generalize (rdN b).1 = v at *
    generalize (rdN b).2.1 = k at *
    have HQ := Lib.hid (And.intro hq1 hq2)
    clear hq1 hq2
    by_cases hv : v ≤ 65536
    · have y3 : (v : Int) ≤ 65536 := by omega
      have w1 : IntKind.i64.wrap ((n2 : Int) - 4) = (n2 : Int) - 4 := by simp only [IntKind.wrap, IntKind.bits, IntKind.signed]; simp; omega
      by_cases hs : 4 + v ≤ n2
      · have y4 : ¬ (n2 : Int) - 4 < (v : Int) := by omega
        have hs1 := slice_h B n2 c2 4 (by have := HQ.out; omega) HQ.out.2
        have hs2 := slice_l B n2 c2 4 (by omega) HQ.out.1 HQ.out.2
        have HRES := Lib.hid (show Lg.cut b = some (r.take 4, (r.drop 4).take v, (r.drop 4).drop v) by rw [HDEF.out, if_pos ⟨hv, hs⟩])
        have HS4 := Lib.hid (fun (W : World) (hW : Sl W B n2 c2 r) => And.intro (hW.fst (k := 4) (by omega)) (hW.snd (k := 4) (by omega)))
        have HDL4 := Lib.hid (show (r.drop 4).length = n2 - 4 by rw [List.length_drop, HDL.out])
        have h44 : v ≤ n2 - 4 := by omega
        have hq1 : n2 - 4 ≤ c2 - 4 := by have := HQ.out; omega
        have hq2 : c2 - 4 ≤ maxLen := by have := HQ.out; omega
        have e4 : ((4 : Nat) : Int) = 4 := rfl
        rw [e4] at hs1 hs2
        generalize cutA B c2 4 = B4 at *
        generalize n2 - 4 = n4 at *
        generalize c2 - 4 = c4 at *
        generalize r.drop 4 = r4 at *
        have hs3 := slice_h B4 n4 c4 v (by omega) hq2
        have hs4 := slice_l B4 n4 c4 v h44 hq1 hq2
        have HFS := Lib.hid (fun (W : World) (hW : Sl W B4 n4 c4 r4) => And.intro (hW.fst (k := v) h44) (hW.snd (k := v) h44))
        have HLP := Lib.hid (show (r4.take v).length = v ∧ (r4.drop v).length = n4 - v by rw [List.length_take, List.length_drop, HDL4.out]; omega)
        generalize cutA B4 c4 v = B5 at *
        generalize n4 - v = n5 at *
        generalize c4 - v = c5 at *
        clear hv hs h44 hq1 hq2
        go_wp2_with fail
        go_quiet (fail)
        go_wp2_with fail
        obtain ⟨k0, k1⟩ := HKB.out.two
        have f0 := HKB.out.frozen 0
        have f1 := HKB.out.frozen 1
        go_region
        go_wp2_with fail
        refine bodyPost_ret_by (results_row_tmp2 rfl _ _ w.heap.size 89 _ _ rfl (two_set (HKB.out.drewN _) _ _) Tryd.underlying89 rfl info_frame) rfl ?_
        refine ⟨two_below (below_drewN HB.out _) (Nat.le_refl _) _ _, .inr ⟨_, _, _, B, c2, B4, c4, B5, c5, HRES.out, ?_, fun W hW => ?_⟩⟩
        · rw [HLP.out.1, HLP.out.2]
          rfl
        · obtain ⟨q1, q2⟩ := HS4.out W (HSN.out W hW)
          obtain ⟨q3, q4⟩ := HFS.out W q2
          rw [HLP.out.1, HLP.out.2]
          exact ⟨q1, q3, q4⟩
      · have y4 : (n2 : Int) - 4 < (v : Int) := by omega
        have HRES := Lib.hid (show Lg.cut b = none by rw [HDEF.out, if_neg (fun q => hs q.2)])
        obtain ⟨k0, k1⟩ := HKB.out.two
        have f0 := HKB.out.frozen 0
        have f1 := HKB.out.frozen 1
        clear hv hs
        go_wp2_with fail
        refine bodyPost_ret_by (results_row_tmp2 rfl _ _ w.heap.size 89 _ _ rfl (two_set HKB.out _ _) Tryd.underlying89 rfl info_frame) rfl ?_
        exact ⟨two_below HB.out (Nat.le_refl _) _ _, .inl ⟨HRES.out, rfl⟩⟩
    · have y3 : (65536 : Int) < (v : Int) := by omega
      have HRES := Lib.hid (show Lg.cut b = none by rw [HDEF.out, if_neg (fun q => hv q.1)])
      obtain ⟨k0, k1⟩ := HKB.out.two
      have f0 := HKB.out.frozen 0
      have f1 := HKB.out.frozen 1
      clear hv
      go_wp2_with fail
      refine bodyPost_ret_by (results_row_tmp2 rfl _ _ w.heap.size 89 _ _ rfl (two_set HKB.out _ _) Tryd.underlying89 rfl info_frame) rfl ?_
      exact ⟨two_below HB.out (Nat.le_refl _) _ _, .inl ⟨HRES.out, rfl⟩⟩
  · rw [if_neg h0] at hn1
    obtain rfl : n1 = 0 := by simpa using hn1.symm
    have HRES := Lib.hid (show Lg.cut b = none by unfold Lg.cut; rw [if_neg (fun q => h0 q.1)])
    have e1 : IntKind.i64.wrap ((nf : Int) - ((0 : Nat) : Int)) = (nf : Int) := by
      have := HNF.out
      simp only [IntKind.wrap, IntKind.bits, IntKind.signed]; simp; omega
    have e2 : IntKind.i64.wrap (nf : Int) = (nf : Int) := by
      have := HNF.out
      simp only [IntKind.wrap, IntKind.bits, IntKind.signed]; simp; omega
    have hsl := slice_l A n c nf (by have := HNF.out; omega) HNC.out HCM.out
    have hne : ((((rdN b).2.2 : Nat) : Int) != 0) = true := by rw [bne_iff_ne]; omega
    obtain ⟨k0, k1⟩ := HKB.out.two
    have f0 := HKB.out.frozen 0
    have f1 := HKB.out.frozen 1
    clear hn1 h0
    generalize (rdN b).2.2 = er at *
    generalize (rdN b).1 = v at *
    go_wp2_with fail
    refine bodyPost_ret_by (results_row_tmp2 rfl _ _ w.heap.size 89 _ _ rfl (two_set HKB.out _ _) Tryd.underlying89 rfl info_frame) rfl ?_
    exact ⟨two_below HB.out (Nat.le_refl _) _ _, .inl ⟨HRES.out, rfl⟩⟩
end Go.Proofs.YtmiejaohkgemnaaDoor
