import Derived.Test.YtmgmmbgjmnklkaaMRows
import Derived.Test.YtmgmmbgjmnklkaaMNum
import Derived.Test.YtmgmmbgjmnklkaaMCut

namespace Go.Proofs.Ytmgmmbgjmnklkaa
set_option maxRecDepth 100000
open Go.RowKit
open Pk
set_option linter.unusedVariables false

/-- is a number out of range among these? -/
def numsBad (l : List Int) : Bool := l.any fun v => decide (v < 0 ∨ 4611686018427387904 ≤ v)
/-- numbers behind one another -/
def numsN : List Int → List UInt8
  | [] => []
  | v :: r => encN v.toNat ++ numsN r
theorem numsN_append (a b : List Int) : numsN (a ++ b) = numsN a ++ numsN b := by
  induction a with
  | nil => rfl
  | cons x r ih => simp only [List.cons_append, numsN, ih, List.append_assoc]
theorem numsBad_append (a b : List Int) : numsBad (a ++ b) = (numsBad a || numsBad b) := by unfold numsBad; exact List.any_append
theorem numsN_len {l : List Int} (h : numsBad l = false) : (numsN l).length ≤ 9 * l.length := by
  induction l with
  | nil => simp [numsN]
  | cons v r ih =>
    unfold numsBad at h
    rw [List.any_cons, Bool.or_eq_false_iff] at h
    have h1 := h.1
    rw [decide_eq_false_iff_not] at h1
    have := ih h.2
    have := encN_len9 (v := v.toNat) (by omega)
    simp only [numsN, List.length_append, List.length_cons]
    omega
theorem numsBad_at {l : List Int} {k : Nat} (h : k < l.length) (hv : l.getD k 0 < 0 ∨ 4611686018427387904 ≤ l.getD k 0) : numsBad l = true :=
  List.any_eq_true.2 ⟨_, getD_mem h, by simpa using hv⟩

/-- Nums' answer -/
def NumsPost (l : List Int) (w : World) (e : Ending) (w' : World) : Prop :=
  Below w.heap.size w w' ∧ ((numsBad l = true ∧ e = .returned (.tuple #[.slice none 0 0, .int .i64 10])) ∨
    (numsBad l = false ∧ ∃ A n c, e = .returned (.tuple #[.slice A n c, .int .i64 0]) ∧ OwnB w' w.heap.size A n c (numsN l)))

set_option maxHeartbeats 800000 in
set_option maxRecDepth 100000 in
theorem nums_any (A : Option Addr) (n c : Nat) (l : List Int) (w : World) (h : Rd w A n (l.map iv)) (hn : n ≤ 4294967296) : Calls Try.prog 97 #[.slice A n c] w (NumsPost l w) := by
  have hx : l.length = n := by simpa using h.1
  have HX := Lib.hid hx
  clear hx
  go_enter Try.func97, Try.ntmps97
  go_wp2
  go_loopw [4, 10] (fun s i wr => ∃ (A' : Option Addr) (n' c' k : Nat), k ≤ n ∧ s = .slice A' n' c' ∧ i = .int .i64 k ∧ numsBad (l.take k) = false ∧ OwnB wr w.heap.size A' n' c' (numsN (l.take k)) ∧ Below w.heap.size w wr) (fun _ i _ => n - (intOf i).toNat)
  case atStart => exact ⟨none, 0, 0, 0, by omega, rfl, rfl, rfl, OwnB.nil_ _ _, Below.refl _ _⟩
  case round =>
    obtain ⟨A', n', c', k, hk, rfl, rfl, hbd, ho, hb⟩ := hrel
    by_cases hlt : k < n
    · obtain ⟨a, rfl, hba, hc⟩ := (h.below hb).at_ hlt
      have gx : (l.map iv).getD k undef = .int .i64 (l.getD k 0) := by
        have : k < l.length := by rw [HX.out]; exact hlt
        rw [getD_eq (by simpa using this), getD_eq this]; simp [iv]
      rw [gx] at hc
      have hsn := take_snocD l 0 k (by rw [HX.out]; exact hlt)
      have hat := fun hh => numsBad_at (l := l) (k := k) (by rw [HX.out]; exact hlt) hh
      have hnl := numsN_len hbd
      have hlen := OwnB.len ho
      have hn' : n' ≤ 38654705664 := by rw [List.length_take] at hnl; omega
      have hs := hb.size
      have e1 : (0 : Int) ≤ (k : Int) := by omega
      have e2 : (k : Int) < (n : Int) := by omega
      clear gx hba hnl hlen
      generalize l.getD k 0 = v at *
      by_cases hv : v < 0 ∨ 4611686018427387904 ≤ v
      · have HA : Hid (∀ W, Calls Try.prog 109 #[.slice A' n' c', .int .i64 v] W (Err2 10 W)) := by
          intro W
          rcases hv with hv | hv
          · exact appendNum_low _ _ _ v W hv
          · exact appendNum_high _ _ _ v W hv
        have HBAD := Lib.hid (hat hv)
        clear hv hat hsn hbd
        go_wp2_with fail
        refine (HA.out _).mono ?_
        rintro e w1 ⟨rfl, rfl⟩
        go_wp2_with fail
        go_ret2
        exact ⟨hb, .inl ⟨HBAD.out, rfl⟩⟩
      · obtain ⟨u, rfl⟩ : ∃ u : Nat, v = u := ⟨v.toNat, by omega⟩
        have hu : u < 4611686018427387904 := by omega
        have HA := Lib.hid (appendNum_ok A' n' c' (numsN (l.take k)) w.heap.size u wr hu ho (by omega) hs)
        have HNB := Lib.hid (show numsBad (l.take (k + 1)) = false by rw [hsn, numsBad_append, hbd]; unfold numsBad; simp; omega)
        have HNN := Lib.hid (show numsN (l.take (k + 1)) = numsN (l.take k) ++ encN u by rw [hsn, numsN_append]; simp [numsN])
        clear hv hat hsn hbd hu
        go_wp2_with fail
        refine HA.out.mono ?_
        rintro e w1 ⟨A1, n1, c1, rfl, ho1, hg1, hrow1⟩
        have HB1 := Lib.hid (hb.grown hg1 hs (OwnB.block ho))
        have HO1 := Lib.hid ho1
        clear hg1 hrow1 ho1
        go_wp2_with fail
        go_roundw
        case rel => exact ⟨A1, n1, c1, k + 1, by omega, rfl, by go_num, HNB.out, by have := HO1.out; rwa [← HNN.out] at this, HB1.out⟩
        case measure => simp [intOf]; omega
    · have e : l.take k = l := List.take_of_length_le (by have := HX.out; omega)
      rw [e] at ho hbd
      have HBD := Lib.hid hbd
      clear e hbd
      go_wp2
      go_ret2
      exact ⟨hb, .inr ⟨HBD.out, A', n', c', rfl, ho⟩⟩

set_option maxHeartbeats 800000 in
set_option maxRecDepth 100000 in
theorem refNums_any (A : Option Addr) (n c : Nat) (l : List Int) (w : World) (h : Rd w A n (l.map iv)) (hn : n ≤ 4294967296) : Calls Try.prog 80 #[.slice A n c] w (NumsPost l w) := by
  obtain ⟨i0, hi, hz0, hz1, hz2⟩ := info_parts info_u8
  have hx : l.length = n := by simpa using h.1
  have HX := Lib.hid hx
  have HE := Lib.hid (own_empty w)
  clear hx
  go_enter Try.func80, Try.ntmps80
  go_wp2
  go_loopw [4, 5] (fun s i wr => ∃ (A' : Option Addr) (n' c' k : Nat), k ≤ n ∧ s = .slice A' n' c' ∧ i = .int .i64 k ∧ numsBad (l.take k) = false ∧ OwnB wr w.heap.size A' n' c' (numsN (l.take k)) ∧ Below w.heap.size w wr) (fun _ i _ => n - (intOf i).toNat)
  case atStart => exact ⟨_, 0, 0, 0, by omega, rfl, rfl, rfl, HE.out, (Below.refl _ _).alloc (Nat.le_refl _) _⟩
  case round =>
    obtain ⟨A', n', c', k, hk, rfl, rfl, hbd, ho, hb⟩ := hrel
    by_cases hlt : k < n
    · obtain ⟨a, rfl, hba, hc⟩ := (h.below hb).at_ hlt
      have gx : (l.map iv).getD k undef = .int .i64 (l.getD k 0) := by
        have : k < l.length := by rw [HX.out]; exact hlt
        rw [getD_eq (by simpa using this), getD_eq this]; simp [iv]
      rw [gx] at hc
      have hsn := take_snocD l 0 k (by rw [HX.out]; exact hlt)
      have hat := fun hh => numsBad_at (l := l) (k := k) (by rw [HX.out]; exact hlt) hh
      have hnl := numsN_len hbd
      have hlen := OwnB.len ho
      have hn' : n' ≤ 38654705664 := by rw [List.length_take] at hnl; omega
      have hs := hb.size
      have e1 : (0 : Int) ≤ (k : Int) := by omega
      have e2 : (k : Int) < (n : Int) := by omega
      clear gx hba hnl hlen
      generalize l.getD k 0 = v at *
      by_cases hv : v < 0 ∨ 4611686018427387904 ≤ v
      · have HA := Lib.hid (fun W => refNum_bad v W hv)
        have HBAD := Lib.hid (hat hv)
        clear hv hat hsn hbd
        go_wp2_with fail
        refine (HA.out _).mono ?_
        rintro e w1 ⟨rfl, rfl⟩
        go_wp2_with fail
        go_ret2
        exact ⟨hb, .inl ⟨HBAD.out, rfl⟩⟩
      · obtain ⟨u, rfl⟩ : ∃ u : Nat, v = u := ⟨v.toNat, by omega⟩
        have hu : u < 4611686018427387904 := by omega
        have HA := Lib.hid (refNum_ok u wr hu)
        have hl9 := encN_len9 hu
        have HL9 := Lib.hid hl9
        have HNB := Lib.hid (show numsBad (l.take (k + 1)) = false by rw [hsn, numsBad_append, hbd]; unfold numsBad; simp; omega)
        have HNN := Lib.hid (show numsN (l.take (k + 1)) = numsN (l.take k) ++ encN u by rw [hsn, numsN_append]; simp [numsN])
        clear hv hat hsn hbd hu hl9
        go_wp2_with fail
        refine HA.out.mono ?_
        rintro e w1 ⟨A1, n1, c1, rfl, ho1, hb1⟩
        have hn1 : n1 ≤ 9 := by have := OwnB.len ho1; have := HL9.out; omega
        have hs1 := Nat.le_trans hs hb1.size
        have HRD := Lib.hid ho1.rd
        have HO := Lib.hid (ho.below hb1)
        have HB1 := Lib.hid (hb.trans (hb1.mono hs))
        clear hb1 ho1
        go_wp2_with (at_builtin
                     refine wpList_append_rd _ rfl _ _ 22 rfl w.heap.size 5 i0 _ 1 Try.underlying22 hi hz0 hz1 hz2 rfl A' n' c' ((numsN (l.take k)).map bv) rfl HO.out A1 n1 c1 ((encN u).map bv) rfl
                       HRD.out (oneCell_bytes _) (by simp only [maxLen]; omega) (by omega) hs1 ?_
                     intro A2 c2 w2 hown2 hg2 hrow2)
        have HB2 := Lib.hid (HB1.out.grown hg2 HB1.out.size (OwnB.block ho))
        have HO2 := Lib.hid hown2
        clear hown2 hg2 hrow2
        go_roundw
        case rel => exact ⟨A2, n' + n1, c2, k + 1, by omega, rfl, by go_num, HNB.out, by have := HO2.out; unfold OwnB; rw [HNN.out, List.map_append]; exact this, HB2.out⟩
        case measure => simp [intOf]; omega
    · have e : l.take k = l := List.take_of_length_le (by have := HX.out; omega)
      rw [e] at ho hbd
      have HBD := Lib.hid hbd
      clear e hbd
      go_wp2
      go_ret2
      exact ⟨hb, .inr ⟨HBD.out, A', n', c', rfl, ho⟩⟩
end Go.Proofs.Ytmgmmbgjmnklkaa

namespace Go.Proofs.Ytmgmmbgjmnklkaa
set_option maxRecDepth 100000
open Go.RowKit
open Pk
set_option linter.unusedVariables false

/-- the numbers that bytes are, with fuel -/
def intsF : Nat → List UInt8 → Nat × List Int
  | 0, _ => (0, [])
  | f + 1, l =>
    if l = [] then (0, [])
    else if (rdN l).2.2 ≠ 0 then ((rdN l).2.2, [])
    else if (intsF f (restN l)).1 ≠ 0 then ((intsF f (restN l)).1, [])
    else (0, ((rdN l).1 : Int) :: (intsF f (restN l)).2)
def intsN (l : List UInt8) : Nat × List Int := intsF (l.length + 1) l
def iglue (acc : List Int) (r : Nat × List Int) : Nat × List Int := if r.1 ≠ 0 then (r.1, []) else (0, acc ++ r.2)
theorem iglue_step {f : Nat} {l : List UInt8} {acc : List Int} (hl : l ≠ []) (hf : (rdN l).2.2 = 0) : iglue acc (intsF (f + 1) l) = iglue (acc ++ [((rdN l).1 : Int)]) (intsF f (restN l)) := by
  rw [intsF, if_neg hl, if_neg (by omega)]
  unfold iglue
  by_cases h : (intsF f (restN l)).1 = 0
  · simp [h]
  · simp [h]
theorem iglue_bad {f : Nat} {l : List UInt8} {acc : List Int} (hl : l ≠ []) (hf : (rdN l).2.2 ≠ 0) : iglue acc (intsF (f + 1) l) = ((rdN l).2.2, []) := by
  rw [intsF, if_neg hl, if_pos hf]
  unfold iglue
  simp [hf]
theorem iglue_end {f : Nat} {acc : List Int} : iglue acc (intsF (f + 1) []) = (0, acc) := by simp [intsF, iglue]
theorem intsF_err : ∀ (f : Nat) (l : List UInt8), (intsF f l).1 ≠ 0 → (intsF f l).2 = [] := by
  intro f
  cases f with
  | zero => intro l h; rfl
  | succ f =>
    intro l
    rw [intsF]
    split
    · intro _; rfl
    · split
      · intro _; rfl
      · split
        · intro _; rfl
        · intro h; simp at h
theorem ints_start (l : List UInt8) : intsN l = iglue [] (intsF (l.length + 1) l) := by
  unfold intsN iglue
  by_cases h1 : (intsF (l.length + 1) l).1 = 0
  · simp [h1]; rw [← h1]
  · simp [h1]; have := intsF_err _ _ h1; rw [← this]

/-- Ints' answer -/
def IntsPost (l : List UInt8) (w : World) (e : Ending) (w' : World) : Prop :=
  Below w.heap.size w w' ∧ (((intsN l).1 ≠ 0 ∧ e = .returned (.tuple #[.slice none 0 0, .int .i64 (intsN l).1])) ∨
    ((intsN l).1 = 0 ∧ ∃ A n c, e = .returned (.tuple #[.slice A n c, .int .i64 0]) ∧ OwnI w' w.heap.size A n c (intsN l).2))

/-- where the loop over the numbers stands; W: the world in which the bytes that are left are read -/
def IntsAt (l : List UInt8) (w W : World) (b fs : Value) (acc : List Int) (wr : World) : Prop :=
  ∃ (A0 : Option Addr) (n0 c0 : Nat) (l' : List UInt8) (A' : Option Addr) (n' c' f : Nat), b = .slice A0 n0 c0 ∧ Rd W A0 n0 (l'.map bv) ∧ n0 ≤ c0 ∧ c0 ≤ maxLen ∧ n0 + n' ≤ l.length ∧ l'.length < f ∧
    fs = .slice A' n' c' ∧ OwnI wr w.heap.size A' n' c' acc ∧ iglue acc (intsF f l') = intsN l ∧ Below w.heap.size w wr

theorem ints_end {l : List UInt8} {w wr : World} {A : Option Addr} {n c f : Nat} {acc : List Int} (hg : iglue acc (intsF (f + 1) []) = intsN l) (ho : OwnI wr w.heap.size A n c acc) (hb : Below w.heap.size w wr) :
    IntsPost l w (.returned (.tuple #[.slice A n c, .int .i64 0])) wr := by
  rw [iglue_end] at hg
  refine ⟨hb, .inr ?_⟩
  rw [← hg]
  exact ⟨rfl, _, _, _, rfl, ho⟩
theorem ints_bad {l : List UInt8} {w wr : World} {k : Nat} (hg : Hid (intsN l = (k, []))) (hk : k ≠ 0) (hb : Below w.heap.size w wr) :
    IntsPost l w (.returned (.tuple #[.slice none 0 0, .int .i64 (k : Int)])) wr := by
  refine ⟨hb, .inl ?_⟩
  rw [hg.out]
  exact ⟨hk, rfl⟩

set_option maxHeartbeats 1600000 in
set_option maxRecDepth 100000 in
theorem ints_any (A : Option Addr) (n c : Nat) (l : List UInt8) (w : World) (h : Rd w A n (l.map bv)) (hc : n ≤ c) (hm : c ≤ maxLen) (hn : n ≤ 4294967296) :
    Calls Try.prog 122 #[.slice A n c] w (IntsPost l w) := by
  obtain ⟨i0, hi, hz0, hz1, hz2⟩ := info_parts info_int
  have hl : l.length = n := by simpa using h.1
  have HS := Lib.hid (ints_start l)
  go_enter Try.func122, Try.ntmps122
  go_wp2
  go_loopw [0, 4] (fun b s wr => ∃ acc, IntsAt l w w b s acc wr) (fun b _ _ => match b with | .slice _ n _ => n | _ => 0)
  case atStart => exact ⟨[], A, n, c, l, none, 0, 0, l.length + 1, rfl, h, hc, hm, by omega, by omega, rfl, OwnI.nil_ _ _, HS.out.symm, Below.refl _ _⟩
  case round =>
    obtain ⟨acc, A0, n0, c0, l', A', n', c', f, rfl, hr, hc0, hm0, hnl, hf, rfl, ho, hg, hb⟩ := hrel
    have hl' : l'.length = n0 := by simpa using hr.1
    obtain ⟨f, rfl⟩ : ∃ g, f = g + 1 := ⟨f - 1, by omega⟩
    clear h hc hm
    by_cases h0 : 0 < n0
    · have hne : l' ≠ [] := by rintro rfl; simp at hl'; omega
      have HC := Lib.hid (cutNum_any A0 n0 c0 l' wr (hr.below hb) hc0 hm0)
      have hs := hb.size
      have HG := Lib.hid hg
      have HL := Lib.hid hl
      have HL2 := Lib.hid hl'
      have HR0 := Lib.hid hr
      have hn'' : n' ≤ 4294967296 := by omega
      clear hg hl hl' hr
      go_wp2_with fail
      refine HC.out.mono ?_
      rintro e w1 ⟨⟨m, rfl⟩, ⟨hz, rfl⟩ | ⟨hz, rfl⟩⟩
      · have hcnt := rdN_count hz
        have hrest : restN l' = l'.drop (rdN l').2.1 := by unfold restN; rw [if_pos hz]
        have HGL := Lib.hid (show iglue (acc ++ [((rdN l').1 : Int)]) (intsF f (restN l')) = intsN l by rw [← HG.out, iglue_step hne hz])
        have HR2 := Lib.hid (show Rd w (cutA A0 c0 (rdN l').2.1) (n0 - (rdN l').2.1) ((restN l').map bv) by
          have := HR0.out.cut (k := (rdN l').2.1) (cap := c0) (by have := HL2.out; omega) hc0
          rw [← List.map_drop, ← hrest] at this
          exact this)
        have HLR := Lib.hid (show (restN l').length < f ∧ n0 - (rdN l').2.1 + (n' + 1) ≤ l.length ∧ n0 - (rdN l').2.1 < n0 ∧ n0 - (rdN l').2.1 ≤ c0 - (rdN l').2.1 ∧ c0 - (rdN l').2.1 ≤ maxLen by
          rw [hrest, List.length_drop]; have := HL2.out; omega)
        generalize cutA A0 c0 (rdN l').2.1 = B at *
        generalize n0 - (rdN l').2.1 = n1 at *
        generalize c0 - (rdN l').2.1 = c1 at *
        generalize restN l' = r at *
        generalize (rdN l').1 = v at *
        clear hz hcnt hrest hne hf HC
        go_wp2_with (at_builtin
                     refine wpList_append_rd _ rfl _ _ 70 rfl w.heap.size 3 i0 _ 8 Try.underlying70 hi hz0 hz1 hz2 rfl A' n' c' (acc.map iv) rfl (World.ownsRow.alloc (OwnI.below ho (below_drewN (Below.refl _ _) m)) _) (some ⟨wr.heap.size, 0, none⟩) 1 1 [.int .i64 (v : Int)] rfl
                       (Rd.new (wr.drewN m) [Value.int .i64 (v : Int)] 3) (by simp [Value.oneCell']) (by simp only [maxLen]; omega) (by omega) (by simp; omega) ?_
                     intro A4 c4 w4 hown4 hg4 hrow4)
        have b2 := (below_drewN hb m).alloc (by simpa using hs) (.cells #[.int .i64 (v : Int)] 3)
        have HB4 := Lib.hid (b2.grown hg4 b2.size (OwnI.block ho))
        have HO4 := Lib.hid hown4
        clear hown4 hg4 hrow4 b2
        go_roundw
        case rel =>
          exact ⟨acc ++ [(v : Int)], B, n1, c1, r, A4, n' + 1, c4, f, rfl, HR2.out, HLR.out.2.2.2.1, HLR.out.2.2.2.2, HLR.out.2.1, HLR.out.1, rfl, (by have := HO4.out; unfold OwnI; rw [List.map_append]; exact this), HGL.out, HB4.out⟩
        case measure => show n1 < n0; exact HLR.out.2.2.1
      · have hres := Lib.hid (show intsN l = ((rdN l').2.2, []) by rw [← HG.out, iglue_bad hne hz])
        have hz2 : ((((rdN l').2.2 : Nat) : Int) != 0) = true := by rw [bne_iff_ne]; omega
        have HZ := Lib.hid hz
        clear hz hne
        go_wp2_with fail
        go_ret2
        exact ints_bad hres HZ.out (below_drewN hb m)
    · have e0 : n0 = 0 := by omega
      subst e0
      have e1 : l' = [] := List.eq_nil_of_length_eq_zero hl'
      subst e1
      have HG := Lib.hid hg
      clear hg hl hl' hr
      go_wp2
      go_ret2
      exact ints_end HG.out ho hb

set_option maxHeartbeats 1600000 in
set_option maxRecDepth 100000 in
theorem refInts_any (A : Option Addr) (n c : Nat) (l : List UInt8) (w : World) (h : Rd w A n (l.map bv)) (hc : n ≤ c) (hm : c ≤ maxLen) (hn : n ≤ 4294967296) :
    Calls Try.prog 91 #[.slice A n c] w (IntsPost l w) := by
  obtain ⟨i0, hi, hz0, hz1, hz2⟩ := info_parts info_int
  have hl : l.length = n := by simpa using h.1
  have HS := Lib.hid (ints_start l)
  have HE := Lib.hid (OwnI.empty w)
  go_enter Try.func91, Try.ntmps91
  go_wp2
  go_loopw [0, 4] (fun b s wr => ∃ acc, IntsAt l w wr b s acc wr) (fun b _ _ => match b with | .slice _ n _ => n | _ => 0)
  case atStart =>
    have hb := (Below.refl w.heap.size w).alloc (Nat.le_refl _) (.cells #[] 3)
    exact ⟨[], A, n, c, l, _, 0, 0, l.length + 1, rfl, h.below hb, hc, hm, by omega, by omega, rfl, HE.out, HS.out.symm, hb⟩
  case round =>
    obtain ⟨acc, A0, n0, c0, l', A', n', c', f, rfl, hr, hc0, hm0, hnl, hf, rfl, ho, hg, hb⟩ := hrel
    have hl' : l'.length = n0 := by simpa using hr.1
    obtain ⟨f, rfl⟩ : ∃ g, f = g + 1 := ⟨f - 1, by omega⟩
    clear h hc hm
    by_cases h0 : 0 < n0
    · have hne : l' ≠ [] := by rintro rfl; simp at hl'; omega
      have HC := Lib.hid (refRead_any A0 n0 c0 l' wr hr hc0 (by omega))
      have hs := hb.size
      have HG := Lib.hid hg
      have HL := Lib.hid hl
      have HL2 := Lib.hid hl'
      have hn'' : n' ≤ 4294967296 := by omega
      clear hg hl hl' hr
      go_wp2_with fail
      refine HC.out.mono ?_
      rintro e w1 ⟨A1, n1, c1, rfl, ho1, hb1⟩
      have hs1 := Nat.le_trans hs hb1.size
      by_cases hz : (rdN l').2.2 = 0
      · have hcnt := rdN_count hz
        have hrest : restN l' = l'.drop (rdN l').2.1 := by unfold restN; rw [if_pos hz]
        have HGL := Lib.hid (show iglue (acc ++ [((rdN l').1 : Int)]) (intsF f (restN l')) = intsN l by rw [← HG.out, iglue_step hne hz])
        have HLR := Lib.hid (show (restN l').length < f ∧ n1 + (n' + 1) ≤ l.length ∧ n1 < n0 by
          have e1 := OwnB.len ho1
          rw [hrest, List.length_drop] at e1
          rw [hrest, List.length_drop]; have := HL2.out; omega)
        have HO := Lib.hid (OwnI.below ho hb1)
        have HO1 := Lib.hid ho1
        rw [hz]
        generalize restN l' = r at *
        generalize (rdN l').1 = v at *
        clear hz hcnt hrest hne hf HC ho1
        go_wp2_with (at_builtin
                     refine wpList_append_rd _ rfl _ _ 70 rfl w.heap.size 3 i0 _ 8 Try.underlying70 hi hz0 hz1 hz2 rfl A' n' c' (acc.map iv) rfl (World.ownsRow.alloc HO.out _) (some ⟨w1.heap.size, 0, none⟩) 1 1 [.int .i64 (v : Int)] rfl
                       (Rd.new w1 [Value.int .i64 (v : Int)] 3) (by simp [Value.oneCell']) (by simp only [maxLen]; omega) (by omega) (by simp; omega) ?_
                     intro A4 c4 w4 hown4 hg4 hrow4)
        have b1 := hb.trans (hb1.mono hs)
        have b2 := b1.alloc b1.size (.cells #[.int .i64 (v : Int)] 3)
        have HB4 := Lib.hid (b2.grown hg4 b2.size (OwnI.block ho))
        have HO4 := Lib.hid hown4
        have HR4 := Lib.hid (show OwnB w4 wr.heap.size A1 n1 c1 r from World.ownsRow.kept (HO1.out.alloc (.cells #[.int .i64 (v : Int)] 3)) hg4
          (rows_apart (HO1.out.alloc (.cells #[.int .i64 (v : Int)] 3)) (World.ownsRow.alloc HO.out (.cells #[.int .i64 (v : Int)] 3)) (by decide)))
        clear hown4 hg4 hrow4 b2 b1
        go_roundw
        case rel =>
          exact ⟨acc ++ [(v : Int)], A1, n1, c1, r, A4, n' + 1, c4, f, rfl, HR4.out.rd, (own_cap HR4.out).1, (own_cap HR4.out).2, HLR.out.2.1, HLR.out.1, rfl, (by have := HO4.out; unfold OwnI; rw [List.map_append]; exact this), HGL.out, HB4.out⟩
        case measure => show n1 < n0; exact HLR.out.2.2
      · have hres := Lib.hid (show intsN l = ((rdN l').2.2, []) by rw [← HG.out, iglue_bad hne hz])
        have hz2 : ((((rdN l').2.2 : Nat) : Int) != 0) = true := by rw [bne_iff_ne]; omega
        have HZ := Lib.hid hz
        clear hz hne
        go_wp2_with fail
        go_ret2
        exact ints_bad hres HZ.out (hb.trans (hb1.mono hs))
    · have e0 : n0 = 0 := by omega
      subst e0
      have e1 : l' = [] := List.eq_nil_of_length_eq_zero hl'
      subst e1
      have HG := Lib.hid hg
      clear hg hl hl' hr
      go_wp2
      go_ret2
      exact ints_end HG.out ho hb
end Go.Proofs.Ytmgmmbgjmnklkaa
