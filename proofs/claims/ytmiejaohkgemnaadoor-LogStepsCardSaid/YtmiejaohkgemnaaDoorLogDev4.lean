/-
  The program's frames, and slices.Concat of two lists. Walks; no statement.
-/
import Derived.Test.YtmiejaohkgemnaaDoorLogDev2
import Derived.Test.YtmiejaohkgemnaaDoorLogRows
import Derived.Lib.AppendZeros
namespace Go.Proofs.YtmiejaohkgemnaaDoor
open Go.RowKit
open Pk Sh
set_option linter.unusedVariables false
set_option maxRecDepth 100000

namespace Lg
/-- the frames in parts -/
def partsN (g : Nat) : Nat → List (List UInt8) → List (List UInt8)
  | _, [] => []
  | p, l :: r => encN l.length :: dig g p l :: l :: partsN g (p + 1) r
theorem partsN_flat (g : Nat) (ls : List (List UInt8)) (p : Nat) : (partsN g p ls).flatten = frames g p ls := by
  induction ls generalizing p with
  | nil => rfl
  | cons l r ih => simp [partsN, frames, frame, ih]
theorem partsN_append (g : Nat) (a b : List (List UInt8)) (p : Nat) : partsN g p (a ++ b) = partsN g p a ++ partsN g (p + a.length) b := by
  induction a generalizing p with
  | nil => simp [partsN]
  | cons x r ih => simp only [List.cons_append, partsN, ih, List.length_cons]; rw [show p + (r.length + 1) = p + 1 + r.length by omega]
theorem partsN_len (g : Nat) (ls : List (List UInt8)) (p : Nat) : (partsN g p ls).length = 3 * ls.length := by
  induction ls generalizing p with
  | nil => rfl
  | cons l r ih => simp only [partsN, List.length_cons, ih]; omega
theorem partsN_next (g p : Nat) (ls : List (List UInt8)) (k : Nat) (h : k < ls.length) : partsN g p (ls.take (k + 1)) = partsN g p (ls.take k) ++ [encN (ls.getD k []).length, dig g (p + k) (ls.getD k []), ls.getD k []] := by
  rw [take_snocD ls [] k h, partsN_append]
  have : (ls.take k).length = k := by simp; omega
  rw [this]
  rfl
end Lg
/-- frames' answer -/
def FramesP (F : Nat → Prop) (parts : List (List UInt8)) (w : World) (e : Ending) (w' : World) : Prop :=
  ∃ A n c, e = .returned (.slice A n c) ∧ RowsOff w' F A n parts ∧ Below w.heap.size w w'
set_option maxHeartbeats 1600000 in
theorem frames_any (g p : Nat) (B : Option Addr) (q c : Nat) (ls : List (List UInt8)) (F : Nat → Prop) (w : World) (h : RowsOff w F B q ls) (hF : ∀ i, F i → i < w.heap.size) (hT : Tab w)
    (hl : ∀ l ∈ ls, l.length ≤ 65536) (hq : q ≤ 4294967296) (hg : g < 4611686018427387904) (hp : p ≤ 4294967296) :
    Calls Tryd.prog 41 #[.int .i64 g, .int .i64 p, .slice B q c] w (FramesP F (Lg.partsN g p ls) w) := by
  obtain ⟨i0, hi, hz0, hz1, hz2⟩ := info_parts info_bytes
  have HX := Lib.hid (show ls.length = q from h.1)
  have HH := Lib.hid h
  have HF := Lib.hid hF
  have HT := Lib.hid hT
  have HLL := Lib.hid hl
  have HG := Lib.hid hg
  clear h hF hT hl hg
  go_enter Tryd.func41, Tryd.ntmps41
  go_wp2_with fail
  go_loopw [7, 14] (fun s i wr => ∃ (A' : Option Addr) (n' c' k : Nat) (us : List Value), k ≤ q ∧ s = .slice A' n' c' ∧ i = .int .i64 k ∧ Parts w.heap.size F wr A' n' c' us (Lg.partsN g p (ls.take k)) ∧ Below w.heap.size w wr) (fun _ i _ => q - (intOf i).toNat)
  case atStart => exact ⟨none, 0, 0, 0, [], by omega, rfl, rfl, Parts.nil_ _ _ _, Below.refl _ _⟩
  case round =>
    obtain ⟨A', n', c', k, us, hk, rfl, rfl, ho, hb⟩ := hrel
    by_cases hlt : k < q
    · have hkl : k < ls.length := by rw [HX.out]; exact hlt
      obtain ⟨x, u, rfl, hbx, hc0, hr⟩ := HH.out.at_ hlt
      have hc := (hb.cell (p := x.add k) (by rw [add_block]; exact hbx)).trans hc0
      have HSN := Lib.hid (Lg.partsN_next g p ls k hkl)
      have hlk := HLL.out _ (getD_mem (d := ([] : List UInt8)) hkl)
      have hn' : n' = 3 * k := by
        have := ho.2.1
        rw [Lg.partsN_len, List.length_take] at this
        omega
      subst hn'
      generalize ls.getD k [] = l at *
      have hrk := hr.k rfl
      obtain ⟨A1, c1, rfl, hsl0, hA⟩ := hr
      have HRK := Lib.hid hrk
      have hsl := hsl0.below hb
      have HSL := Lib.hid hsl
      have HA := Lib.hid hA
      have HN := Lib.hid (num_ok l.length wr (by omega))
      have HO := Lib.hid ho
      have HB := Lib.hid hb
      have HLK := Lib.hid hlk
      have HLT := Lib.hid hlt
      have e1 : (0 : Int) ≤ (k : Int) := by omega
      have e2 : (k : Int) < (q : Int) := by omega
      have w2 : IntKind.i64.wrap ((p : Int) + (k : Int)) = ((p + k : Nat) : Int) := by simp only [IntKind.wrap, IntKind.bits, IntKind.signed]; simp; omega
      clear hbx hc0 hsl0 hrk hsl hA ho hb hlk hlt hkl
      go_wp2_with fail
      refine HN.out.mono ?_
      rintro e w1 ⟨A3, n3, c3, rfl, ho3, hb3⟩
      have hn3 : n3 = (encN l.length).length := ho3.len.symm
      subst hn3
      have hbw1 := below_next HB.out hb3 HB.out.size
      have HD := Lib.hid (digest_any g (p + k) A1 l.length c1 l w1 (HSL.out.below hb3) (HT.out.still hbw1) (by have := HLK.out; omega) HG.out (by have := HLT.out; omega))
      have HB1 := Lib.hid hbw1
      have HO3 := Lib.hid (ho3.more HB.out.size)
      have HS1 := Lib.hid (HSL.out.below hb3)
      have HP1 := Lib.hid (HO.out.below hb3)
      clear ho3 hb3 hbw1
      go_wp2_with fail
      refine HD.out.mono ?_
      rintro e w4 ⟨A5, n5, c5, rfl, ho5, hb5⟩
      have hn5 : n5 = (Lg.dig g (p + k) l).length := ho5.len.symm
      subst hn5
      have hbw4 := below_next HB1.out hb5 HB1.out.size
      have HB4 := Lib.hid hbw4
      have HO5 := Lib.hid (ho5.more HB1.out.size)
      have HO3b := Lib.hid (HO3.out.below hb5)
      have HS4 := Lib.hid (HS1.out.below hb5)
      have hp4 := HP1.out.below hb5
      have HP4 := Lib.hid hp4
      obtain ⟨hou, hol, hor⟩ := hp4
      have HLT2 := Lib.hid hol
      have HSZ := Lib.hid (show w.heap.size ≤ w4.heap.size from hbw4.size)
      clear ho5 hb5 hbw4 hol hor
      go_wp2_with (at_builtin
                   refine wpList_append_rd _ rfl _ _ 37 rfl w.heap.size 32 i0 _ 24 Tryd.underlying37 hi hz0 hz1 hz2 rfl A' (3 * k) c' us rfl (World.ownsRow.alloc hou _) (some ⟨w4.heap.size, 0, none⟩) 3 3 [.slice A3 (encN l.length).length c3, .slice A5 (Lg.dig g (p + k) l).length c5, .slice A1 l.length c1] rfl
                     (Rd.new w4 [.slice A3 (encN l.length).length c3, .slice A5 (Lg.dig g (p + k) l).length c5, .slice A1 l.length c1] 32) (by simp [Value.oneCell']) (by have := HLT.out; simp only [maxLen]; omega) (by have := HLT.out; omega) (by have := HSZ.out; simp; omega) ?_
                   intro A6 c6 w6 hown6 hg6 hrow6)
      go_roundw
      case rel =>
        have bal := (Below.refl w4.heap.size w4).alloc (Nat.le_refl _) (.cells #[.slice A3 (encN l.length).length c3, .slice A5 (Lg.dig g (p + k) l).length c5, .slice A1 l.length c1] 32)
        refine ⟨A6, 3 * k + 3, c6, k + 1, us ++ [.slice A3 (encN l.length).length c3, .slice A5 (Lg.dig g (p + k) l).length c5, .slice A1 l.length c1], by have := HLT.out; omega, rfl, by go_num, ?_, ?_⟩
        · rw [HSN.out]
          refine (HP4.out.below bal).push rfl rfl ?_ hg6 hown6
          intro j u x hu hx
          match j, hu, hx with
          | 0, hu, hx =>
            simp only [List.getElem?_cons_zero, Option.some.injEq] at hu hx
            subst hu hx
            exact ⟨A3, c3, rfl, .inr (HO3b.out.below bal)⟩
          | 1, hu, hx =>
            simp only [List.getElem?_cons_zero, List.getElem?_cons_succ, Option.some.injEq] at hu hx
            subst hu hx
            exact ⟨A5, c5, rfl, .inr (HO5.out.below bal)⟩
          | 2, hu, hx =>
            simp only [List.getElem?_cons_zero, List.getElem?_cons_succ, Option.some.injEq] at hu hx
            subst hu hx
            exact HRK.out.below (HB4.out.alloc HSZ.out _)
        · have b2 := HB4.out.alloc HSZ.out (.cells #[.slice A3 (encN l.length).length c3, .slice A5 (Lg.dig g (p + k) l).length c5, .slice A1 l.length c1] 32)
          exact b2.grown hg6 b2.size HP4.out.block
      case measure => have := HLT.out; simp [intOf]; omega
    · have e : ls.take k = ls := List.take_of_length_le (by have := HX.out; omega)
      rw [e] at ho
      have HP := Lib.hid ho
      have e2 : ¬ (k : Int) < (q : Int) := by omega
      clear e ho
      go_wp2_with fail
      go_ret
      exact ⟨A', n', c', rfl, HP.out.rows HF.out, hb⟩
/-- Grow's answer at nil: room -/
def GrowP (w : World) (e : Ending) (w' : World) : Prop := ∃ A c, e = .returned (.slice A 0 c) ∧ w'.ownsRow w.heap.size 32 1 (.slice A 0 c) 0 [] ∧ Below w.heap.size w w'
set_option maxHeartbeats 1600000 in
theorem grow_any (k : Nat) (w : World) (h0 : 0 < k) (hk : k ≤ 4294967297) : Calls Tryd.prog 75 #[.slice none 0 0, .int .i64 k] w (GrowP w) := by
  obtain ⟨i0, hi, hz0, hz1, hz2⟩ := info_parts info_bytes
  have HAP := Lib.hid (Lib.run_append_nil_zeros (P := Tryd.prog) w 37 3 37 32 i0 (.slice none 0 0) .i64 .i64 Tryd.underlying37 Tryd.underlying3 hi hz0 k h0 (by omega) (by omega) (by rw [hz2]; omega))
  have hge := grownCap_ge w k 0 32
  have hle := grownCap_le_maxLen w k 0 32 (by simp only [maxLen]; omega)
  have HCAP := Lib.hid (And.intro hge hle)
  have y1 : (0 : Int) < (k : Int) := by omega
  have w1 : IntKind.i64.wrap (k : Int) = (k : Int) := by simp only [IntKind.wrap, IntKind.bits, IntKind.signed]; simp; omega
  have y2 : ¬ (k : Int) < 0 := by omega
  clear h0 hk hge hle
  go_enter Tryd.func75, Tryd.ntmps75
  go_wp2_with (at_builtin
               refine Lib.wpList_append_run _ rfl _ _ _ _ rfl _ _ rfl rfl _ _ HAP.out ?_)
  go_ret
  have hb := below_drew ((Below.refl w.heap.size w).alloc (Nat.le_refl _) (.cells (Builtin.zeroCells #[Value.slice none 0 0] k ++ Builtin.zeroCells #[Value.slice none 0 0] (grownCap w k 0 32 - k)) 32))
  refine ⟨_, grownCap w k 0 32, rfl, ⟨rfl, .inr ⟨w.heap.size, _, _, rfl, Nat.le_refl _, heap_alloc_new w _, Nat.zero_le _, HCAP.out.2, ?_, by simp⟩⟩, hb⟩
  have := HCAP.out.1
  simp [size_zeroCells]
  omega
/-- Concat's answer -/
def ConcP (F : Nat → Prop) (ls : List (List UInt8)) (w : World) (e : Ending) (w' : World) : Prop := ∃ A n c, e = .returned (.slice A n c) ∧ RowsOff w' F A n ls ∧ Below w.heap.size w w'
/-- how the second loop stands: so many of the two lists are in -/
def CoAt (B0 : Nat) (F : Nat → Prop) (us1 us2 : List Value) (l1 l2 : List (List UInt8)) (k : Nat) (s : Value) (wr : World) : Prop :=
  ∃ A n c, s = .slice A n c ∧ (k = 0 → Parts B0 F wr A n c [] []) ∧ (k = 1 → Parts B0 F wr A n c us1 l1) ∧ (k = 2 → Parts B0 F wr A n c (us1 ++ us2) (l1 ++ l2))
set_option maxHeartbeats 1600000 in
theorem concat_any (gX : Nat) (A B : Option Addr) (c d q : Nat) (hd : List UInt8) (ls : List (List UInt8)) (F : Nat → Prop) (w : World) (hX : Bk w gX 37 [.slice A 1 c, .slice B q d]) (h1 : RowsOff w F A 1 [hd]) (h2 : RowsOff w F B q ls) (hF : ∀ i, F i → i < w.heap.size) (hq : q ≤ 4294967296) :
    Calls Tryd.prog 55 #[.slice (some ⟨gX, 0, none⟩) 2 2] w (ConcP F (hd :: ls) w) := by
  obtain ⟨i0, hi, hz0, hz1, hz2⟩ := info_parts info_bytes
  have HF := Lib.hid hF
  have HX := Lib.hid hX
  obtain ⟨hl1, us1, hr1, ha1, hk1⟩ := h1
  obtain ⟨hl2, us2, hr2, ha2, hk2⟩ := h2
  have HR1 := Lib.hid hr1
  have HR2 := Lib.hid hr2
  have HU1 := Lib.hid (show us1.length = 1 from hr1.1)
  have HU2 := Lib.hid (show us2.length = q from hr2.1)
  have HK1 := Lib.hid (show ∀ (k : Nat) (u : Value) (l : List UInt8), us1[k]? = some u → [hd][k]? = some l → RowK w.heap.size F w u l from fun k u l hu hl => (hk1 k u l hu hl).k rfl)
  have HK2 := Lib.hid (show ∀ (k : Nat) (u : Value) (l : List UInt8), us2[k]? = some u → ls[k]? = some l → RowK w.heap.size F w u l from fun k u l hu hl => (hk2 k u l hu hl).k rfl)
  have H11 := Lib.hid (show ∀ u ∈ us1, u.oneCell' = true from fun u hu => by
    obtain ⟨k, hk, e⟩ := List.getElem_of_mem hu
    obtain ⟨A', c', e2, _⟩ := hk1 k u ([hd][k]'(by have := hr1.1; simp; omega)) (by rw [← e]; exact List.getElem?_eq_getElem hk) (List.getElem?_eq_getElem _)
    rw [e2]; rfl)
  have H12 := Lib.hid (show ∀ u ∈ us2, u.oneCell' = true from fun u hu => by
    obtain ⟨k, hk, e⟩ := List.getElem_of_mem hu
    obtain ⟨A', c', e2, _⟩ := hk2 k u (ls[k]'(by have := hr2.1; omega)) (by rw [← e]; exact List.getElem?_eq_getElem hk) (List.getElem?_eq_getElem _)
    rw [e2]; rfl)
  have HL := Lib.hid hl2
  have HG := Lib.hid (grow_any (q + 1) w (by omega) (by omega))
  have HQ := Lib.hid hq
  obtain ⟨x0, x1⟩ := hX.two
  clear hX hF hr1 hr2 ha1 ha2 hk1 hk2 hl1 hl2 hq
  go_enter Tryd.func55, Tryd.ntmps55
  go_wp2_with fail
  go_loop [3, 11] (fun s i => (i = .int .i64 0 ∧ s = .int .i64 0) ∨ (i = .int .i64 1 ∧ s = .int .i64 1) ∨ (i = .int .i64 2 ∧ s = .int .i64 ((q + 1 : Nat) : Int))) (fun _ i => 2 - (intOf i).toNat)
  case atStart => exact .inl ⟨rfl, rfl⟩
  case round =>
    rcases hrel with ⟨rfl, rfl⟩ | ⟨rfl, rfl⟩ | ⟨rfl, rfl⟩
    · go_wp2_with fail
      go_round
      case rel => exact .inr (.inl ⟨rfl, rfl⟩)
      case measure => simp [intOf]
    · have w1 : IntKind.i64.wrap (1 + (q : Int)) = ((q + 1 : Nat) : Int) := by have := HQ.out; simp only [IntKind.wrap, IntKind.bits, IntKind.signed]; simp; omega
      have y1 : ¬ ((q + 1 : Nat) : Int) < 0 := by omega
      go_wp2_with fail
      go_round
      case rel => exact .inr (.inr ⟨rfl, rfl⟩)
      case measure => simp [intOf]
    · go_wp2_with fail
      refine HG.out.mono ?_
      rintro e w1 ⟨A1, c1, rfl, ho1, hb1⟩
      have HB1 := Lib.hid hb1
      have HX1 := Lib.hid (HX.out.kept hb1)
      have HAT := Lib.hid (show CoAt w.heap.size F us1 us2 [hd] ls 0 (.slice A1 0 c1) w1 from ⟨A1, 0, c1, rfl, fun _ => ⟨ho1, rfl, fun k u l h => by simp at h⟩, fun h => by omega, fun h => by omega⟩)
      clear hb1 ho1 x0 x1
      go_wp2_with fail
      go_loopw [6, 27] (fun s i wr => ∃ k : Nat, k ≤ 2 ∧ i = .int .i64 k ∧ CoAt w.heap.size F us1 us2 [hd] ls k s wr ∧ Below w.heap.size w wr) (fun _ i _ => 2 - (intOf i).toNat)
      case atStart => exact ⟨0, by omega, rfl, HAT.out, HB1.out⟩
      case round =>
        clear HAT HB1 HX1
        obtain ⟨k, hk, rfl, ⟨A2, n2, c2, rfl, p0, p1, p2⟩, hb⟩ := hrel
        have hxr := HX.out.kept hb
        obtain ⟨x0, x1⟩ := hxr.two
        have HB := Lib.hid hb
        have HSZ := Lib.hid hb.size
        match k, hk with
        | 0, _ =>
          have hp := p0 rfl
          have hn2 : n2 = 0 := by simpa using hp.2.1.symm
          subst hn2
          have HP := Lib.hid hp
          have hou := hp.1
          clear p0 p1 p2 hb hxr hp
          go_wp2_with (at_builtin
                       refine wpList_append_rd _ rfl _ _ 37 rfl w.heap.size 32 i0 _ 24 Tryd.underlying37 hi hz0 hz1 hz2 rfl A2 0 c2 [] rfl hou A 1 c us1 rfl
                         (HR1.out.below HB.out) H11.out (by simp only [maxLen]; omega) (by omega) HSZ.out ?_
                       intro A6 c6 w6 hown6 hg6 hrow6)
          go_roundw
          case rel =>
            refine ⟨1, by omega, rfl, ⟨A6, 0 + 1, c6, rfl, fun h => by omega, fun _ => ?_, fun h => by omega⟩, HB.out.grown hg6 HB.out.size HP.out.block⟩
            exact HP.out.push (m := 1) rfl HU1.out (fun k u l hu hl => (HK1.out k u l hu hl).below HB.out) hg6 hown6
          case measure => simp [intOf]
        | 1, _ =>
          have hp := p1 rfl
          have hn2 : n2 = 1 := by simpa using hp.2.1.symm
          subst hn2
          have HP := Lib.hid hp
          have hou := hp.1
          clear p0 p1 p2 hb hxr hp
          go_wp2_with (at_builtin
                       refine wpList_append_rd _ rfl _ _ 37 rfl w.heap.size 32 i0 _ 24 Tryd.underlying37 hi hz0 hz1 hz2 rfl A2 1 c2 us1 rfl hou B q d us2 rfl
                         (HR2.out.below HB.out) H12.out (by have := HQ.out; simp only [maxLen]; omega) (by have := HQ.out; omega) HSZ.out ?_
                       intro A6 c6 w6 hown6 hg6 hrow6)
          go_roundw
          case rel =>
            refine ⟨2, by omega, rfl, ⟨A6, 1 + q, c6, rfl, fun h => by omega, fun h => by omega, fun _ => ?_⟩, HB.out.grown hg6 HB.out.size HP.out.block⟩
            exact HP.out.push (m := q) HL.out HU2.out (fun k u l hu hl => (HK2.out k u l hu hl).below HB.out) hg6 hown6
          case measure => simp [intOf]
        | 2, _ =>
          have HP := Lib.hid (p2 rfl)
          clear p0 p1 p2 hb hxr
          go_wp2_with fail
          go_ret
          exact ⟨A2, n2, c2, rfl, HP.out.rows HF.out, HB.out⟩
end Go.Proofs.YtmiejaohkgemnaaDoor
