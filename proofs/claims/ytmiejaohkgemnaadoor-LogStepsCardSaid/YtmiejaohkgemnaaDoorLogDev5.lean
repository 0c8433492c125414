/-
  The program's begin: an area is laid. A walk; no statement.
-/
import Derived.Test.YtmiejaohkgemnaaDoorLogDev3
import Derived.Test.YtmiejaohkgemnaaDoorLogDev4
import Derived.Test.YtmiejaohkgemnaaDoorLogDisk
import Derived.Test.YtmiejaohkgemnaaDoorMDisks
namespace Go.Proofs.YtmiejaohkgemnaaDoor
open Go.RowKit
open Pk Sh
set_option linter.unusedVariables false
set_option maxRecDepth 100000

theorem RowsOff.step {w w' : World} {F F' : Nat → Prop} {B : Option Addr} {q : Nat} {ls : List (List UInt8)} (h : RowsOff w F B q ls) (hc : Chg F w w') (hF : ∀ i, F' i → F i ∨ w.heap.size ≤ i) : RowsOff w' F' B q ls := by
  have h1 : RowsOff w (fun i => F i ∨ F' i) B q ls := h.less (fun i hi => hi.elim .inl (hF i))
  have h2 := h1.chg (hc.more (fun i hi => .inl (.inl hi)))
  exact h2.less (fun i hi => .inl (.inr hi))
theorem Tab.chg {w w' : World} {F : Nat → Prop} (h : Tab w) (hc : Chg F w w') (h0 : ¬ F 0) : Tab w' :=
  ⟨Nat.lt_of_lt_of_le h.1 hc.size, fun k hk => (World.cell?_of_block (w := w) (a := ⟨0, k, none⟩) (hc.block 0 h.1 h0)).trans (h.2 k hk)⟩
/-- a log's cells -/
def logC (gd : Nat) (a : Int) (g n k : Nat) : List Value := [.pointer (some ⟨gd, 0, none⟩), .int .i64 a, .int .i64 g, .int .i64 n, .int .i64 k]
/-- begin's answer -/
def BeginP (F : Nat → Prop) (g gd : Nat) (r : PD × Int) (new old : List Value) (w : World) (e : Ending) (w' : World) : Prop :=
  e = .returned (.int .i64 r.2) ∧ ∃ F', Dk w' F' gd r.1 ∧ (∀ i, F' i → F i ∨ w.heap.size ≤ i) ∧ (r.2 = 0 → Bk w' g 77 new) ∧ (r.2 ≠ 0 → Bk w' g 77 old) ∧ Chg (fun i => F i ∨ i = g) w w'
theorem frames_whole (g : Nat) (ls : List (List UInt8)) : (Lg.partsN g 0 (Lg.headB g ls.length :: ls)).flatten = Lg.whole g ls.length ls := by rw [Lg.partsN_flat]; rfl
set_option maxHeartbeats 3200000 in
theorem logBegin (g gd : Nat) (a : Int) (gen : Nat) (B : Option Addr) (q c : Nat) (ls : List (List UInt8)) (P : PD) (F : Nat → Prop) (v1 v2 v3 v4 : Value) (w : World)
    (hk : Bk w g 77 [.pointer (some ⟨gd, 0, none⟩), v1, v2, v3, v4]) (hd : Dk w F gd P) (hoff : ¬ F g) (hr : RowsOff w F B q ls) (hl : ∀ l ∈ ls, l.length ≤ 65536) (hT : Tab w) (h0 : ¬ F 0)
    (hg : gen < 4611686018427387904) (hq : q ≤ 4294967295) (b0 : P.d0.length + (Lg.whole gen ls.length ls).length ≤ 1099511627776) (b1 : P.d1.length + (Lg.whole gen ls.length ls).length ≤ 1099511627776) :
    Calls Tryd.prog 36 #[.pointer (some ⟨g, 0, none⟩), .int .i64 a, .int .i64 gen, .slice B q c] w (BeginP F g gd (Lg.lay P a gen ls) (logC gd a gen q q) [.pointer (some ⟨gd, 0, none⟩), v1, v2, v3, v4] w) := by
  have hlq : ls.length = q := hr.1
  have HLQ := Lib.hid hlq
  have HK := Lib.hid hk
  have HD := Lib.hid hd
  have HOFF := Lib.hid (And.intro hoff h0)
  have HR := Lib.hid hr
  have HL := Lib.hid hl
  have HT := Lib.hid hT
  have HG := Lib.hid hg
  have HQ := Lib.hid hq
  have HB01 := Lib.hid (And.intro b0 b1)
  have HFL := Lib.hid hd.lt
  have HN := Lib.hid (nums_two w gen q hg (by omega))
  have HHL := Lib.hid (Lg.headB_le hg (show q < 4611686018427387904 by omega))
  obtain ⟨r, hres⟩ : ∃ r, r = Lg.lay P a gen ls := ⟨_, rfl⟩
  rw [← hres]
  have HRES := Lib.hid hres
  clear hk hd hoff h0 hr hl hT hg hq b0 b1 hlq hres
  go_enter Tryd.func36, Tryd.ntmps36
  go_wp2_with fail
  refine HN.out.mono ?_
  rintro e w2 ⟨A2, n2, c2, rfl, ho2, hb2⟩
  have hn2 : n2 = (Lg.headB gen q).length := ho2.len.symm
  subst hn2
  have hbw2 := below_next ((Below.refl w.heap.size w).alloc (Nat.le_refl _) (.cells #[.int .i64 gen, .int .i64 q] 3)) hb2 (by simp)
  obtain ⟨w4, hw4⟩ : ∃ w4, w4 = (w2.alloc (.cells #[.slice A2 (Lg.headB gen q).length c2] 32)).alloc (.cells #[.slice (some ⟨w2.heap.size, 0, none⟩) 1 1, .slice B q c] 37) := ⟨_, rfl⟩
  have hb24 : Below w2.heap.size w2 w4 := by rw [hw4]; exact ((Below.refl _ _).alloc (Nat.le_refl _) _).alloc (by simp) _
  have hbw4 := below_next hbw2 hb24 hbw2.size
  have hXr : Rd w4 (some ⟨w2.heap.size, 0, none⟩) 1 [.slice A2 (Lg.headB gen q).length c2] := by
    rw [hw4]
    exact (Rd.new w2 [.slice A2 (Lg.headB gen q).length c2] 32).alloc _
  have hX : Bk w4 (w2.heap.size + 1) 37 [.slice (some ⟨w2.heap.size, 0, none⟩) 1 1, .slice B q c] := by
    rw [hw4]
    exact bk_new2 w2 _ _ _
  have h1 : RowsOff w4 F (some ⟨w2.heap.size, 0, none⟩) 1 [Lg.headB gen q] := by
    refine ⟨rfl, _, hXr, fun a e _ hf => ?_, fun k u l hu hl => ?_⟩
    · injection e with e; subst e
      have h1 : w2.heap.size < w.heap.size := HFL.out _ hf
      have := hbw2.size
      omega
    · match k, hu, hl with
      | 0, hu, hl =>
        simp only [List.getElem?_cons_zero, Option.some.injEq] at hu hl
        subst hu hl
        exact ⟨A2, c2, rfl, (Sl.own ho2).below hb24, fun a e _ hf => by have h1 := HFL.out _ hf; have h2 := own_block_at ho2 a e; omega⟩
  have HCO := Lib.hid (concat_any (w2.heap.size + 1) (some ⟨w2.heap.size, 0, none⟩) B 1 c q (Lg.headB gen q) ls F w4 hX h1 (HR.out.below hbw4) (fun i hi => Nat.lt_of_lt_of_le (HFL.out i hi) hbw4.size) (by have := HQ.out; omega))
  have HB4 := Lib.hid hbw4
  clear ho2 hb2 hbw2 hb24 hbw4 hXr hX h1
  go_wp2_with fail
  rw [← hw4]
  clear hw4
  refine HCO.out.mono ?_
  rintro e w5 ⟨A5, n5, c5, rfl, hr5, hb5⟩
  have hn5 : n5 = q + 1 := by rw [← hr5.1, List.length_cons, HLQ.out]
  subst hn5
  have hbw5 := below_next HB4.out hb5 HB4.out.size
  have hfr := frames_any gen 0 A5 (q + 1) c5 (Lg.headB gen q :: ls) F w5 hr5 (fun i hi => Nat.lt_of_lt_of_le (HFL.out i hi) hbw5.size) (HT.out.still hbw5) (fun l hl => by
    rcases List.mem_cons.1 hl with rfl | hl
    · have := HHL.out; omega
    · exact HL.out l hl) (by have := HQ.out; omega) HG.out (by omega)
  have HFR := Lib.hid (show Calls Tryd.prog 41 #[.int .i64 gen, .int .i64 0, .slice A5 (q + 1) c5] w5 (FramesP F (Lg.partsN gen 0 (Lg.headB gen q :: ls)) w5) from hfr)
  have HB5 := Lib.hid hbw5
  clear hfr hr5 hb5 hbw5
  go_wp2_with fail
  refine HFR.out.mono ?_
  rintro e w6 ⟨A6, n6, c6, rfl, hr6, hb6⟩
  have hn6 : n6 = 3 * (q + 1) := by rw [← hr6.1, Lg.partsN_len, List.length_cons, HLQ.out]
  subst hn6
  have hbw6 := below_next HB5.out hb6 HB5.out.size
  have hk6 := HK.out.kept hbw6
  have hd6 := HD.out.kept hbw6
  have HB6 := Lib.hid hbw6
  have HR6 := Lib.hid hr6
  have HK6 := Lib.hid hk6
  have HFW := Lib.hid (show (Lg.partsN gen 0 (Lg.headB gen q :: ls)).flatten = Lg.whole gen ls.length ls by
    have := frames_whole gen ls
    rw [show Lg.headB gen q = Lg.headB gen ls.length by rw [HLQ.out]]
    exact this)
  have HTR := Lib.hid (disk_trim gd a 0 P F w6 hd6)
  obtain ⟨k0, k1, k2, k3, k4⟩ := hk6.five
  have hc0 := Chg.of_below (fun i => F i ∨ i = g) hbw6
  have HC0 := Lib.hid hc0
  obtain ⟨T, hTd⟩ : ∃ T, T = P.trim a 0 := ⟨_, rfl⟩
  rw [← hTd] at HTR
  have HTD := Lib.hid hTd
  clear hr6 hb6 hbw6 hk6 hd6 hc0 hTd
  go_wp2_with fail
  refine HTR.out.mono ?_
  rintro e w7 ⟨rfl, F7, hd7, hF7, hc7⟩
  have hk7 := hc7.off HK6.out HOFF.out.1
  have hcc7 : Chg (fun i => F i ∨ i = g) w w7 := HC0.out.same (hc7.more (fun i hi => .inl (.inl hi)))
  have hF7w : ∀ i, F7 i → F i ∨ w.heap.size ≤ i := fun i hi => (hF7 i hi).imp id (fun h => Nat.le_trans HB6.out.size h)
  by_cases ht : T.2 = 0
  · have HR7 := Lib.hid (HR6.out.step hc7 hF7)
    have HK7 := Lib.hid hk7
    have HC7 := Lib.hid hcc7
    have HF7 := Lib.hid hF7w
    have hlen := P.len_trim a 0
    rw [← HTD.out] at hlen
    have HAP := Lib.hid (disk_append gd a T.1 F7 A6 (3 * (q + 1)) c6 _ w7 hd7 (HR7.out.rds) (by rw [HFW.out]; have := HB01.out; omega) (by rw [HFW.out]; have := HB01.out; omega) (by have := HQ.out; omega))
    rw [PD.append_flat, HFW.out] at HAP
    have HOF7 := Lib.hid (show ¬ F7 g from fun hf => (hF7 g hf).elim HOFF.out.1 (fun h => by have := HK6.out.lt; omega))
    have HTZ := Lib.hid ht
    have HSW := Lib.hid (show w.heap.size ≤ w7.heap.size from hcc7.size)
    obtain ⟨U, hU⟩ : ∃ U, U = T.1.append a [Lg.whole gen ls.length ls] := ⟨_, rfl⟩
    rw [← hU] at HAP
    have HU := Lib.hid hU
    rw [ht]
    obtain ⟨k0, k1, k2, k3, k4⟩ := hk7.five
    clear hd7 hF7 hc7 hk7 hcc7 hF7w hlen ht hU
    go_wp2_with fail
    refine HAP.out.mono ?_
    rintro e w8 ⟨rfl, F8, hd8, hF8, hc8⟩
    have hk8 := hc8.off HK7.out HOF7.out
    have hcc8 : Chg (fun i => F i ∨ i = g) w w8 := HC7.out.trans hc8 (fun i hi => (HF7.out i hi).imp .inl id)
    have hF8w : ∀ i, F8 i → F i ∨ w.heap.size ≤ i := fun i hi => (hF8 i hi).elim (HF7.out i) (fun h => .inr (Nat.le_trans HSW.out h))
    by_cases hu : U.2 = 0
    · have HK8 := Lib.hid hk8
      have HC8 := Lib.hid hcc8
      have HF8 := Lib.hid hF8w
      have HOF8 := Lib.hid (show ¬ F8 g from fun hf => (hF8 g hf).elim HOF7.out (fun h => by have := HK7.out.lt; omega))
      have HUZ := Lib.hid hu
      have HSW8 := Lib.hid (show w.heap.size ≤ w8.heap.size from hcc8.size)
      rw [hu]
      have hd8a := hd8.alloc (.cells #[.int .i64 a] 3)
      have hSY := disk_sync gd U.1 F8 (some ⟨w8.heap.size, 0, none⟩) 1 1 [a] _ hd8a (fun w' hc => hc.rd (Rd.new w8 [.int .i64 a] 3) (fun b e _ hf => by injection e with e; subst e; exact absurd (hd8.lt _ hf) (Nat.lt_irrefl _))) (by simp [maxLen])
      have HSY := Lib.hid hSY
      have HCA := Lib.hid (hcc8.alloc (.cells #[.int .i64 a] 3))
      have HKA := Lib.hid (hk8.alloc (.cells #[.int .i64 a] 3))
      obtain ⟨V, hV⟩ : ∃ V, V = U.1.sync [a] := ⟨_, rfl⟩
      rw [← hV] at HSY
      have HV := Lib.hid hV
      obtain ⟨k0, k1, k2, k3, k4⟩ := hk8.five
      clear hd8 hF8 hc8 hk8 hcc8 hF8w hu hd8a hSY hV
      go_wp2_with fail
      refine HSY.out.mono ?_
      rintro e w9 ⟨rfl, F9, hd9, hF9, hc9⟩
      have hk9 := hc9.off HKA.out HOF8.out
      have hcc9 : Chg (fun i => F i ∨ i = g) w w9 := HCA.out.trans hc9 (fun i hi => (HF8.out i hi).imp .inl id)
      have hF9w : ∀ i, F9 i → F i ∨ w.heap.size ≤ i := fun i hi => (hF9 i hi).elim (HF8.out i) (fun h => .inr (Nat.le_trans HCA.out.size h))
      have HLAY := Lib.hid (show r = V by rw [HRES.out]; unfold Lg.lay; rw [← HTD.out, if_neg (by simp [HTZ.out]), ← HU.out, if_neg (by simp [HUZ.out]), HV.out])
      by_cases hv : V.2 = 0
      · have HD9 := Lib.hid hd9
        have HK9 := Lib.hid hk9
        have HC9 := Lib.hid hcc9
        have HF9 := Lib.hid hF9w
        have HOF9 := Lib.hid (show ¬ F9 g from fun hf => (hF9 g hf).elim HOF8.out (fun h => by have := HKA.out.lt; omega))
        have HVZ := Lib.hid hv
        rw [hv]
        obtain ⟨k0, k1, k2, k3, k4⟩ := hk9.five
        have u0 := hk9.frozen 0
        have u1 := hk9.frozen 1
        have u2 := hk9.frozen 2
        have u3 := hk9.frozen 3
        have u4 := hk9.frozen 4
        clear hd9 hF9 hc9 hk9 hcc9 hF9w hv
        go_wp2_with fail
        go_ret
        have hst := five_chg (F := fun i => F i ∨ i = g) (X := w9) (g := g) (.inr rfl) (.pointer (some ⟨gd, 0, none⟩)) (.int .i64 a) (.int .i64 gen) (.int .i64 q) (.int .i64 q)
        have hst9 := five_chg (F := fun i => i = g) (X := w9) (g := g) rfl (.pointer (some ⟨gd, 0, none⟩)) (.int .i64 a) (.int .i64 gen) (.int .i64 q) (.int .i64 q)
        refine ⟨by rw [HLAY.out, HVZ.out]; rfl, F9, by rw [HLAY.out]; exact HD9.out.keep hst9 (fun i hi e => HOF9.out (e ▸ hi)), HF9.out, fun _ => five_set HK9.out _ _ _ _ _, fun h => absurd (by rw [HLAY.out]; exact HVZ.out) h, HC9.out.same hst⟩
      · have hne : (V.2 != 0) = true := by rw [bne_iff_ne]; exact hv
        have HD9 := Lib.hid hd9
        have HK9 := Lib.hid hk9
        have HC9 := Lib.hid hcc9
        have HF9 := Lib.hid hF9w
        have HVZ := Lib.hid hv
        clear hd9 hF9 hc9 hk9 hcc9 hF9w hv
        go_wp2_with fail
        go_ret
        exact ⟨by rw [HLAY.out]; rfl, F9, by rw [HLAY.out]; exact HD9.out, HF9.out, fun h => absurd (by rw [← HLAY.out]; exact h) HVZ.out, fun _ => HK9.out, HC9.out⟩
    · have hne : (U.2 != 0) = true := by rw [bne_iff_ne]; exact hu
      have HLAY := Lib.hid (show r = U by rw [HRES.out]; unfold Lg.lay; rw [← HTD.out, if_neg (by simp [HTZ.out]), ← HU.out, if_pos hu])
      have HD9 := Lib.hid hd8
      have HK9 := Lib.hid hk8
      have HC9 := Lib.hid hcc8
      have HF9 := Lib.hid hF8w
      have HVZ := Lib.hid hu
      clear hd8 hF8 hc8 hk8 hcc8 hF8w hu
      go_wp2_with fail
      go_ret
      exact ⟨by rw [HLAY.out]; rfl, F8, by rw [HLAY.out]; exact HD9.out, HF9.out, fun h => absurd (by rw [← HLAY.out]; exact h) HVZ.out, fun _ => HK9.out, HC9.out⟩
  · have hne : (T.2 != 0) = true := by rw [bne_iff_ne]; exact ht
    have HLAY := Lib.hid (show r = T by rw [HRES.out]; unfold Lg.lay; rw [← HTD.out, if_pos ht])
    have HD9 := Lib.hid hd7
    have HK9 := Lib.hid hk7
    have HC9 := Lib.hid hcc7
    have HF9 := Lib.hid hF7w
    have HVZ := Lib.hid ht
    clear hd7 hF7 hc7 hk7 hcc7 hF7w ht
    go_wp2_with fail
    go_ret
    exact ⟨by rw [HLAY.out]; rfl, F7, by rw [HLAY.out]; exact HD9.out, HF9.out, fun h => absurd (by rw [← HLAY.out]; exact h) HVZ.out, fun _ => HK9.out, HC9.out⟩
end Go.Proofs.YtmiejaohkgemnaaDoor
