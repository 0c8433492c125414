/-
  The program's Open and Records. Walks; no statement.
-/
import Derived.Test.YtmiejaohkgemnaaDoorLogDev8
namespace Go.Proofs.YtmiejaohkgemnaaDoor
open Go.RowKit
open Pk Sh
set_option linter.unusedVariables false
set_option maxRecDepth 100000

namespace Lg
theorem best_some {D : PD} {a : Int} {x : Ar} (h : best D = some (a, x)) : (a = 0 ∨ a = 1) ∧ good (D.data a) = some x := by
  unfold best upd at h
  cases h0 : good D.d0 with
  | none =>
    rw [h0] at h
    cases h1 : good D.d1 with
    | none => rw [h1] at h; cases h
    | some y =>
      rw [h1] at h
      simp only [Option.some.injEq, Prod.mk.injEq] at h
      obtain ⟨rfl, rfl⟩ := h
      exact ⟨.inr rfl, h1⟩
  | some z =>
    rw [h0] at h
    cases h1 : good D.d1 with
    | none =>
      rw [h1] at h
      simp only [Option.some.injEq, Prod.mk.injEq] at h
      obtain ⟨rfl, rfl⟩ := h
      exact ⟨.inl rfl, h0⟩
    | some y =>
      rw [h1] at h
      simp only at h
      split at h
      · simp only [Option.some.injEq, Prod.mk.injEq] at h
        obtain ⟨rfl, rfl⟩ := h
        exact ⟨.inr rfl, h1⟩
      · simp only [Option.some.injEq, Prod.mk.injEq] at h
        obtain ⟨rfl, rfl⟩ := h
        exact ⟨.inl rfl, h0⟩
theorem stG_zero (D : PD) : stG (best D) = 0 ↔ best D = none := by
  cases h : best D with
  | none => simp [stG]
  | some q =>
    obtain ⟨a, x⟩ := q
    have := (good_some (best_some h).2).2.1
    simp only [stG]
    constructor
    · intro e; omega
    · intro e; cases e
theorem opn_none {D : PD} (h : best D = none) : opn D = (⟨(lay D 0 1 []).1, 0, 1, 0, []⟩, (lay D 0 1 []).2) := by unfold opn; rw [h]
theorem opn_some {D : PD} {a : Int} {x : Ar} (h : best D = some (a, x)) : opn D = (⟨(findD D).1, a, x.gen, x.laid, x.list⟩, (findD D).2) := by
  unfold opn findD
  rw [h]
  simp only [stB, stA, stE]
  by_cases hc : x.rest.length = 0
  · simp [hc]
  · simp [hc]
/-- the area that counts is just the log's -/
structure Good (L : PL) : Prop where
  data : L.D.data L.a = whole L.gen L.n L.list
  a : L.a = 0 ∨ L.a = 1
  g1 : 1 ≤ L.gen
  g : L.gen < 4611686018427387904
  n : L.n < 4611686018427387904
  nl : L.n ≤ L.list.length
  rows : ∀ l ∈ L.list, l.length ≤ 65536
theorem Good.known {L : PL} (h : Good L) : known L.a = true := by rcases h.a with e | e <;> rw [e] <;> rfl
theorem frames_at (g p : Nat) (ls : List (List UInt8)) (k : Nat) (h : k < ls.length) : frames g (p + k) (ls.drop k) = frame g (p + k) (ls.getD k []) ++ frames g (p + (k + 1)) (ls.drop (k + 1)) := by
  rw [List.drop_eq_getElem_cons h]
  simp only [frames]
  rw [show p + k + 1 = p + (k + 1) by omega]
  congr 2
  simp [List.getD, h]
theorem findD_none {D : PD} (h : best D = none) : findD D = (D, 0) := by unfold findD; rw [h]; rfl
end Lg
/-- Open's answer -/
def OpenP (F : Nat → Prop) (gd : Nat) (r : Lg.PL × Int) (w : World) (e : Ending) (w' : World) : Prop :=
  (r.2 ≠ 0 ∧ e = .returned (.tuple #[.pointer none, .int .i64 r.2]) ∧ ∃ F', Dk w' F' gd r.1.D ∧ (∀ i, F' i → F i ∨ w.heap.size ≤ i) ∧ Chg F w w') ∨
  (r.2 = 0 ∧ ∃ g F', e = .returned (.tuple #[.pointer (some ⟨g, 0, none⟩), .int .i64 0]) ∧ Lo w' F' gd g r.1 ∧ (∀ i, F' i → F i ∨ w.heap.size ≤ i) ∧ Chg F w w' ∧ w.heap.size ≤ g)
set_option maxHeartbeats 3200000 in
theorem log_open (gd : Nat) (P : PD) (F : Nat → Prop) (w : World) (hd : Dk w F gd P) (hT : Tab w) (h0 : ¬ F 0) (b0 : P.d0.length ≤ 1099511627000) (b1 : P.d1.length ≤ 1099511627000) :
    Calls Tryd.prog 14 #[.pointer (some ⟨gd, 0, none⟩)] w (OpenP F gd (Lg.opn P) w) := by
  have hba : Below w.heap.size w (w.alloc (.cells (logC gd 0 0 0 0).toArray 77)) := (Below.refl _ _).alloc (Nat.le_refl _) _
  have HBA := Lib.hid hba
  have hng : ¬ F w.heap.size := fun hf => absurd (hd.lt _ hf) (Nat.lt_irrefl _)
  have HNG := Lib.hid hng
  have HFI := Lib.hid (find_any w.heap.size gd P F _ (Bk.new w 77 (logC gd 0 0 0 0)) (hd.kept hba) hng (hT.still hba) h0 (by have := hT.1; omega) (by omega) (by omega))
  have HT := Lib.hid hT
  have H0 := Lib.hid h0
  have HB := Lib.hid (And.intro b0 b1)
  have HFL := Lib.hid hd.lt
  obtain ⟨r, hr⟩ : ∃ r, r = Lg.opn P := ⟨_, rfl⟩
  rw [← hr]
  have HR := Lib.hid hr
  clear hd hT h0 b0 b1 hba hng hr
  go_enter Tryd.func14, Tryd.ntmps14
  go_wp2_with fail
  refine HFI.out.mono ?_
  rintro e w2 ⟨rfl, F2, hd2, hF2, hk2, hc2⟩
  have hF2w : ∀ i, F2 i → F i ∨ w.heap.size + 1 ≤ i := fun i hi => (hF2 i hi).imp id (fun q => by simp at q; omega)
  have hcw : Chg F w w2 := (Chg.of_below F HBA.out).trans hc2 (fun i hi => hi.elim .inl (fun e => .inr (by rw [e]; exact Nat.le_refl _)))
  have hg2 : ¬ F2 w.heap.size := fun hf => (hF2w _ hf).elim HNG.out (by omega)
  have hn0 : ¬ F2 0 := fun hf => (hF2w _ hf).elim H0.out (by omega)
  have htb : Tab w2 := HT.out.chg hcw H0.out
  have hF2v : ∀ i, F2 i → F i ∨ w.heap.size ≤ i := fun i hi => (hF2w i hi).imp id (by omega)
  have HD2 := Lib.hid hd2
  have HK2 := Lib.hid hk2
  have HCW := Lib.hid hcw
  have HG2 := Lib.hid (And.intro hg2 hn0)
  have HTB := Lib.hid htb
  have HFV := Lib.hid hF2v
  have HG0 := Lib.hid (show w.heap.size ≠ 0 by have := HT.out.1; omega)
  obtain ⟨k0, k1, k2, k3, k4⟩ := Bk.five hk2
  by_cases hz : (Lg.findD P).2 = 0
  · by_cases hs : Lg.stG (Lg.best P) = 0
    · have hbn := (Lg.stG_zero P).1 hs
      have hfd := Lg.findD_none hbn
      rw [hfd] at hd2 HD2 ⊢
      have hbg := logBegin w.heap.size gd 0 1 none 0 0 [] P F2 _ _ _ _ w2 hk2 hd2 hg2 (RowsOff.nil_ _ _ _) (by simp) htb hn0 (by omega) (by omega)
        (by have := HB.out; have := Lg.whole_le (g := 1) (n := 0) (ls := []) (by omega) (by omega) (by simp); simp only [rowsW, List.length_nil] at *; omega) (by have := HB.out; have := Lg.whole_le (g := 1) (n := 0) (ls := []) (by omega) (by omega) (by simp); simp only [rowsW, List.length_nil] at *; omega)
      have HBG := Lib.hid (show Calls Tryd.prog 36 #[.pointer (some ⟨w.heap.size, 0, none⟩), .int .i64 0, .int .i64 1, .slice none 0 0] w2 (BeginP F2 w.heap.size gd (Lg.lay P 0 1 []) (logC gd 0 1 0 0) (findC gd (Lg.best P)) w2) from hbg)
      have y1 : (((Lg.stG (Lg.best P) : Nat) : Int) == 0) = true := by simp [hs]
      have HRR := Lib.hid (show r = (⟨(Lg.lay P 0 1 []).1, 0, 1, 0, []⟩, (Lg.lay P 0 1 []).2) by rw [HR.out]; exact Lg.opn_none hbn)
      obtain ⟨V, hV⟩ : ∃ V, V = Lg.lay P 0 1 [] := ⟨_, rfl⟩
      rw [← hV] at HBG HRR
      clear hz hs hbn hfd hd2 hF2 hk2 hc2 hF2w hcw hg2 hn0 htb hF2v hbg hV
      go_wp2_with fail
      refine HBG.out.mono ?_
      rintro e w3 ⟨rfl, F3, hd3, hF3, hz3, hn3, hc3⟩
      have HD3 := Lib.hid hd3
      have HF3 := Lib.hid (show ∀ i, F3 i → F i ∨ w.heap.size ≤ i from fun i hi => (hF3 i hi).elim (HFV.out i) (fun q => .inr (Nat.le_trans HCW.out.size q)))
      have HC3 := Lib.hid (show Chg F w w3 from HCW.out.trans hc3 (fun i hi => hi.elim (HFV.out i) (fun e => .inr (by rw [e]; exact Nat.le_refl _))))
      have HG3 := Lib.hid (show ¬ F3 w.heap.size from fun hf => (hF3 _ hf).elim HG2.out.1 (fun q => by have h1 := HK2.out.lt; have h2 : w2.heap.size ≤ w.heap.size := q; omega))
      have HN3 := Lib.hid (show ¬ F3 0 from fun hf => (hF3 _ hf).elim HG2.out.2 (fun q => by have h1 := HTB.out.1; have h2 : w2.heap.size ≤ 0 := q; omega))
      have HZ3 := Lib.hid hz3
      clear hd3 hF3 hz3 hn3 hc3
      by_cases hv : V.2 = 0
      · rw [hv]
        have HK3 := Lib.hid (HZ3.out hv)
        have HVZ := Lib.hid hv
        clear hv
        go_wp2_with fail
        go_ret2
        rw [HRR.out]
        refine .inr ⟨HVZ.out, w.heap.size, F3, rfl, ⟨HD3.out, HK3.out, HG3.out, HT.out.chg HC3.out H0.out, HN3.out, HG0.out⟩, HF3.out, HC3.out, Nat.le_refl _⟩
      · have y2 : (V.2 != 0) = true := by rw [bne_iff_ne]; exact hv
        have HVZ := Lib.hid hv
        clear hv
        go_wp2_with fail
        go_ret2
        rw [HRR.out]
        exact .inl ⟨HVZ.out, rfl, F3, HD3.out, HF3.out, HC3.out⟩
    · have y1 : (((Lg.stG (Lg.best P) : Nat) : Int) == 0) = false := by simp [hs]
      have hb : ∃ a x, Lg.best P = some (a, x) := by
        cases hb : Lg.best P with
        | none => rw [hb] at hs; exact absurd rfl hs
        | some q => exact ⟨q.1, q.2, rfl⟩
      obtain ⟨a, x, hb⟩ := hb
      have HRR := Lib.hid (show r = (⟨(Lg.findD P).1, a, x.gen, x.laid, x.list⟩, 0) by rw [HR.out, Lg.opn_some hb, hz])
      have HK3 := Lib.hid (show Bk w2 w.heap.size 77 (logC gd a x.gen x.laid x.list.length) by have := hk2; rw [hb] at this; exact this)
      rw [hz]
      clear hz hs hb hd2 hF2 hk2 hc2 hF2w hcw hg2 hn0 htb hF2v
      go_wp2_with fail
      go_ret2
      rw [HRR.out]
      exact .inr ⟨rfl, w.heap.size, F2, rfl, ⟨HD2.out, HK3.out, HG2.out.1, HTB.out, HG2.out.2, HG0.out⟩, HFV.out, HCW.out, Nat.le_refl _⟩
  · have y1 : ((Lg.findD P).2 == 0) = false := by rw [beq_eq_false_iff_ne]; exact hz
    have y2 : ((Lg.findD P).2 != 0) = true := by rw [bne_iff_ne]; exact hz
    have hb : ∃ a x, Lg.best P = some (a, x) := by
      cases hb : Lg.best P with
      | none => rw [Lg.findD_none hb] at hz; exact absurd rfl hz
      | some q => exact ⟨q.1, q.2, rfl⟩
    obtain ⟨a, x, hb⟩ := hb
    have HRR := Lib.hid (show r = (⟨(Lg.findD P).1, a, x.gen, x.laid, x.list⟩, (Lg.findD P).2) by rw [HR.out, Lg.opn_some hb])
    have HZ := Lib.hid hz
    clear hz hb hd2 hF2 hk2 hc2 hF2w hcw hg2 hn0 htb hF2v
    go_wp2_with fail
    go_ret2
    rw [HRR.out]
    exact .inl ⟨HZ.out, rfl, F2, HD2.out, HFV.out, HCW.out⟩
/-- how Records' loop stands -/
def RcAt (w : World) (g : Nat) (ls : List (List UInt8)) (A2 : Option Addr) (n2 c2 : Nat) (bs : List UInt8) (k : Nat) (rs b : Value) (wr : World) : Prop :=
  ∃ A' c' R rc, rs = .slice A' k c' ∧ OwnRs wr w.heap.size A' k c' (ls.take k) ∧ b = .slice R (Lg.frames g (1 + k) (ls.drop k)).length rc ∧ (∀ W, Sl W A2 n2 c2 bs → Sl W R (Lg.frames g (1 + k) (ls.drop k)).length rc (Lg.frames g (1 + k) (ls.drop k))) ∧ OwnB wr w.heap.size A2 n2 c2 bs ∧ Below w.heap.size w wr
set_option maxHeartbeats 3200000 in
theorem records_any (gd g : Nat) (L : Lg.PL) (F : Nat → Prop) (w : World) (h : Lo w F gd g L) (hG : Lg.Good L) (b0 : L.D.d0.length ≤ 1099511627776) (b1 : L.D.d1.length ≤ 1099511627776) (hc : L.list.length ≤ 4294967296) :
    Calls Tryd.prog 28 #[.pointer (some ⟨g, 0, none⟩)] w (FreshR L.list w) := by
  obtain ⟨i0, hi, hz0, hz1, hz2⟩ := info_parts info_bytes
  have HH := Lib.hid h
  have hrd : ∀ W, Below w.heap.size w W → Calls Tryd.prog 33 #[.pointer (some ⟨gd, 0, none⟩), .int .i64 L.a] W (fun e w' => ∃ A n c, e = .returned (.tuple #[.slice A n c, .int .i64 0]) ∧ (OwnB w' w.heap.size A n c (Lg.whole L.gen L.n L.list) ∧ Below w.heap.size w w')) := fun W hW => by
    have hrd := disk_read gd L.a L.D F W (h.dk.kept hW) b0 b1
    rw [L.D.read_some L.a hG.known, hG.data] at hrd
    exact hrd.mono fun e w' ⟨A, n, c, he, ho, hb⟩ => ⟨A, n, c, he, ho.more hW.size, below_next hW hb hW.size⟩
  have HRD := Lib.hid hrd
  have HROW := Lib.hid hG.rows
  have hbl := PD.data_le b0 b1 L.a
  rw [hG.data] at hbl
  have HBL := Lib.hid hbl
  have HHL := Lib.hid (Lg.headB_le hG.g hG.n)
  have HLC := Lib.hid hc
  obtain ⟨k0, k1, k2, k3, k4⟩ := Bk.five h.bk
  obtain ⟨ls, hls⟩ : ∃ ls, ls = L.list := ⟨_, rfl⟩
  rw [← hls] at HRD HROW HBL HLC k4 ⊢
  have HLS := Lib.hid hls
  clear h hG b0 b1 hc hrd hbl hls
  go_enter Tryd.func28, Tryd.ntmps28
  go_wp2_with fail
  have hw := Below.refl w.heap.size w
  go_region_held3 (fun w' => w'.cell? ⟨g, 0, none⟩ = some (.pointer (some ⟨gd, 0, none⟩)) ∧ w'.cell? ⟨g, 1, none⟩ = some (.int .i64 L.a)) (first | go_keep | exact ⟨k0, k1⟩ | exact ⟨KA.out.bk.five.1, KA.out.bk.five.2.1⟩)
    (first
      | (go_at_call 33; with_reducible refine (HRD.out _ ?_).mono ?_
         focus first | with_reducible exact hw | with_reducible exact below_drew hw
         rintro e w2 ⟨A2, n2, c2, rfl, hx⟩
         have HX := Lib.hid hx
         have KA := Lib.hid (HH.out.kept hx.2)
         clear hx))
  obtain ⟨ho2, hb2w⟩ := HX.out
  have hn2 := ho2.len
  have hsl2 := Sl.own ho2
  have HCT := Lib.hid (cut_log A2 n2 c2 _ w2 hsl2 (by have := HBL.out; omega))
  have HB2 := Lib.hid hb2w
  have HSL2 := Lib.hid hsl2
  have HO2 := Lib.hid ho2
  have HL2 := Lib.hid (HH.out.kept hb2w)
  clear hb2w hn2 hsl2 ho2 k0 k1 k2 k3 k4
  go_wp2_with fail
  refine HCT.out.mono ?_
  rintro e w3 ⟨hb3, ⟨hcn, _⟩ | ⟨s, p, r, A1, c1, A4, c4, A3, c3, hcs, rfl, hsl⟩⟩
  · have := Lg.cut_frame L.gen 0 (Lg.headB L.gen L.n) (Lg.frames L.gen 1 ls) (by have := HHL.out; omega)
    unfold Lg.whole at hcn
    rw [this] at hcn
    cases hcn
  · have hcf := Lg.cut_frame L.gen 0 (Lg.headB L.gen L.n) (Lg.frames L.gen 1 ls) (by have := HHL.out; omega)
    unfold Lg.whole at hcs
    rw [hcf] at hcs
    simp only [Option.some.injEq, Prod.mk.injEq] at hcs
    obtain ⟨rfl, rfl, rfl⟩ := hcs
    have hs3 := fun (W : World) (hW : Sl W A2 n2 c2 (Lg.whole L.gen L.n ls)) => (hsl W hW).2.2
    have hbw3 := below_next HB2.out hb3 HB2.out.size
    have hl3 := HL2.out.kept hb3
    have HAT := Lib.hid (show RcAt w L.gen ls A2 n2 c2 (Lg.whole L.gen L.n ls) 0 (.slice none 0 0) (.slice A3 (Lg.frames L.gen 1 ls).length c3) w3 from ⟨none, 0, A3, c3, rfl, OwnRs.nil_ _ _, rfl, hs3, HO2.out.below hb3, hbw3⟩)
    obtain ⟨k0, k1, k2, k3, k4⟩ := Bk.five hl3.bk
    rw [← HLS.out] at k4
    have y0 : ((0 : Nat) : Int) = 0 := rfl
    clear hcf hs3 hbw3 hl3 hsl hb3
    go_wp2_with fail
    go_loopw [32, 5, 3] (fun i rs b wr => ∃ k : Nat, k ≤ ls.length ∧ i = .int .i64 k ∧ RcAt w L.gen ls A2 n2 c2 (Lg.whole L.gen L.n ls) k rs b wr) (fun i _ _ _ => ls.length - (intOf i).toNat)
    case atStart => exact ⟨0, Nat.zero_le _, rfl, HAT.out⟩
    case round =>
      clear HAT
      obtain ⟨k, hk, rfl, A', c', R, rc, rfl, ho, rfl, hsW, hob, hb⟩ := hrel
      have hs := hsW wr (Sl.own hob)
      have HSW := Lib.hid hsW
      have HOB := Lib.hid hob
      clear hsW hob
      by_cases hlt : k < ls.length
      · have hfa := Lg.frames_at L.gen 1 ls k hlt
        have hrw := HROW.out _ (getD_mem (d := ([] : List UInt8)) hlt)
        have hfl : (Lg.frames L.gen (1 + k) (ls.drop k)).length ≤ 1099511627776 := by
          have h1 := HBL.out
          have h2 := Lg.frames_append L.gen (ls.take k) (ls.drop k) 1
          rw [List.take_append_drop] at h2
          have h3 : (ls.take k).length = k := by simp; omega
          rw [h3] at h2
          unfold Lg.whole at h1
          rw [h2] at h1
          simp only [List.length_append] at h1
          omega
        have hba : Below wr.heap.size wr (wr.alloc (.cells #[.slice none 0 0, .slice none 0 0] 89)) := (Below.refl _ _).alloc (Nat.le_refl _) _
        have HCT := Lib.hid (cut_log R _ rc _ _ (hs.below hba) hfl)
        have HS := Lib.hid hs
        have HO := Lib.hid ho
        have HB := Lib.hid hb
        have HFA := Lib.hid hfa
        have HRW := Lib.hid hrw
        have HLT := Lib.hid hlt
        have HSN := Lib.hid (take_snocD ls [] k hlt)
        have HKF := Lib.hid (Bk.new wr 89 [.slice none 0 0, .slice none 0 0])
        have HBA := Lib.hid hba
        have y1 : (k : Int) < (ls.length : Int) := by omega
        have w1' : IntKind.i64.wrap ((k : Int) + 1) = (k : Int) + 1 := by have := HLC.out; simp only [IntKind.wrap, IntKind.bits, IntKind.signed]; simp; omega
        clear hfa hrw hfl hba hs ho hb hlt
        go_wp2_with fail
        refine HCT.out.mono ?_
        rintro e w5 ⟨hb5, ⟨hcn, _⟩ | ⟨s, p, r, B1, d1, B2, d2, B3, d3, hcs, rfl, hsl⟩⟩
        · rw [HFA.out, Lg.cut_frame _ _ _ _ HRW.out] at hcn
          cases hcn
        · rw [HFA.out, Lg.cut_frame _ _ _ _ HRW.out] at hcs
          simp only [Option.some.injEq, Prod.mk.injEq] at hcs
          obtain ⟨rfl, rfl, rfl⟩ := hcs
          generalize ls.getD k [] = l at *
          have kf5 := HKF.out.kept hb5
          obtain ⟨f0, f1⟩ := kf5.two
          have u0 := kf5.frozen 0
          have u1 := kf5.frozen 1
          have hbr : Below wr.heap.size wr w5 := below_next HBA.out hb5 HBA.out.size
          have hXr := two_below hbr (Nat.le_refl _) (.slice B1 4 d1) (.slice B2 l.length d2)
          obtain ⟨wX, hwX⟩ : ∃ wX, wX = (w5.setCell ⟨wr.heap.size, 0, none⟩ (.slice B1 4 d1)).setCell ⟨wr.heap.size, 1, none⟩ (.slice B2 l.length d2) := ⟨_, rfl⟩
          rw [← hwX] at hXr
          have hsX := hsl wX (HS.out.below hXr)
          have HXR := Lib.hid hXr
          have HCL := Lib.hid (clone_any B2 l.length d2 l wX hsX.2.1.rd (by have := HRW.out; omega))
          have HRST := Lib.hid (fun (W : World) (hW : Sl W A2 n2 c2 (Lg.whole L.gen L.n ls)) => (hsl W (HSW.out W hW)).2.2)
          clear hsX hXr hbr hsl hb5 kf5
          go_wp2_with fail
          rw [← hwX]
          clear hwX f0 f1 u0 u1
          refine HCL.out.mono ?_
          rintro e w6 ⟨A6, n6, c6, rfl, ho6, hb6⟩
          have hn6 : l.length = n6 := ho6.len
          subst hn6
          have hbr6 := below_next HXR.out hb6 HXR.out.size
          have hbw6 := below_next HB.out hbr6 HB.out.size
          have HBR6 := Lib.hid hbr6
          have HBW6 := Lib.hid hbw6
          have HO6 := Lib.hid (ho6.more (Nat.le_trans HB.out.size HXR.out.size))
          have HOB6 := Lib.hid (HOB.out.below hbr6)
          obtain ⟨hl0, us, hou, hin⟩ := HO.out.below hbr6
          have HL0 := Lib.hid (show (ls.take k).length = k from hl0)
          have HIN := Lib.hid hin
          have HSZ := Lib.hid (show w.heap.size ≤ w6.heap.size from hbw6.size)
          have HKL := Lib.hid (show k ≤ 4294967296 by have := HLT.out; have := HLC.out; omega)
          clear ho6 hb6 hbr6 hbw6 hl0 hin
          go_wp2_with (at_builtin
                       refine wpList_append_rd _ rfl _ _ 37 rfl w.heap.size 32 i0 _ 24 Tryd.underlying37 hi hz0 hz1 hz2 rfl A' k c' us rfl (World.ownsRow.alloc hou _) (some ⟨w6.heap.size, 0, none⟩) 1 1 [.slice A6 l.length c6] rfl
                         (Rd.new w6 [Value.slice A6 l.length c6] 32) (by simp [Value.oneCell']) (by have := HKL.out; simp only [maxLen]; omega) (by have := HKL.out; omega) (by have := HSZ.out; simp; omega) ?_
                       intro A7 c7 w7 hown7 hg7 hrow7)
          go_roundw
          case rel =>
            have bal := (Below.refl w6.heap.size w6).alloc (Nat.le_refl _) (.cells #[.slice A6 l.length c6] 32)
            have b2 := HBW6.out.alloc HSZ.out (.cells #[.slice A6 l.length c6] 32)
            refine ⟨k + 1, by have := HLT.out; omega, by go_num, A7, c7, B3, d3, rfl, ?_, rfl, HRST.out, ?_, b2.grown hg7 b2.size (OwnRs.block HO.out)⟩
            · rw [HSN.out]
              exact OwnRs.push (w := w6.alloc (.cells #[.slice A6 l.length c6] 32)) HL0.out (World.ownsRow.alloc hou _) (fun j u x hu hx => by
                obtain ⟨A8, c8, e8, h8⟩ := HIN.out j u x hu hx
                exact ⟨A8, c8, e8, h8.alloc _⟩) (HO6.out.alloc _) hg7 hown7
            · have hoa := HOB6.out.alloc (.cells #[.slice A6 l.length c6] 32)
              exact World.ownsRow.kept hoa hg7 (rows_apart hoa (World.ownsRow.alloc hou (.cells #[.slice A6 l.length c6] 32)) (by decide))
          case measure => have := HLT.out; simp [intOf]; omega
      · have hkk : k = ls.length := by omega
        have HE := Lib.hid (show ls.take k = ls from List.take_of_length_le (by omega))
        have y1 : ¬ (k : Int) < (ls.length : Int) := by omega
        have HO := Lib.hid ho
        have HB := Lib.hid hb
        clear ho hb hs hkk hlt
        go_wp2_with fail
        go_ret
        exact ⟨A', k, c', rfl, by have := HO.out; rw [HE.out] at this; exact this, HB.out⟩
end Go.Proofs.YtmiejaohkgemnaaDoor
