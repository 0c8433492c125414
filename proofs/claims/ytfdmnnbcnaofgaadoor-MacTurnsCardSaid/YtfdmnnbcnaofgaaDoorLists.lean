import Derived.Test.YtfdmnnbcnaofgaaDoorRows2
import Derived.Test.YtfdmnnbcnaofgaaDoorRefNum
namespace Go.Proofs.YtfdmnnbcnaofgaaDoor
open Go.RowKit
open Pk
set_option linter.unusedVariables false

theorem info_int : (Tryd.prog.info? 3).map (fun i => (i.zero, i.size, i.bytes)) = some (some (.int .i64 0), 1, 8) := by kernel_rfl

/-- 'w owns, from block base on, the slice (A, n, c), which holds the numbers l' -/
def OwnI (w : World) (base : Nat) (A : Option Addr) (n c : Nat) (l : List Int) : Prop := w.ownsRow base 3 1 (.slice A n c) n (l.map iv)
theorem OwnI.len {w : World} {base : Nat} {A : Option Addr} {n c : Nat} {l : List Int} (h : OwnI w base A n c l) : l.length = n := by simpa using h.1
theorem OwnI.rd {w : World} {base : Nat} {A : Option Addr} {n c : Nat} {l : List Int} (h : OwnI w base A n c l) : Rd w A n (l.map iv) := Rd.own h
theorem OwnI.below {w w' : World} {base : Nat} {A : Option Addr} {n c : Nat} {l : List Int} (h : OwnI w base A n c l) (hb : Below w.heap.size w w') : OwnI w' base A n c l :=
  World.ownsRow.kept h (grown_of_below hb none) (by cases (Value.slice A n c).ownBlock <;> simp)
theorem OwnI.block {w : World} {base : Nat} {A : Option Addr} {n c : Nat} {l : List Int} (h : OwnI w base A n c l) : ∀ g, (Value.slice A n c).ownBlock = some g → base ≤ g := fun g hg => (World.ownsRow.lt h g hg).1
theorem OwnI.nil_ (w : World) (base : Nat) : OwnI w base none 0 0 [] := World.ownsRow_nil w base _ 1
theorem OwnI.empty (w : World) : OwnI (w.alloc (.cells #[] 3)) w.heap.size (some ⟨w.heap.size, 0, none⟩) 0 0 [] :=
  World.ownsRow_lit (e := 3) (base := w.heap.size) (size := 1) w #[] 0 (Nat.le_refl _) (by simp [maxLen]) rfl
theorem OwnI.cap {w : World} {base : Nat} {A : Option Addr} {n c : Nat} {l : List Int} (h : OwnI w base A n c l) : n ≤ maxLen := by
  rcases h.2 with ⟨_, e⟩ | ⟨g, cap, cur, _, _, _, hnc, hcm, _⟩
  · rw [e]; simp [maxLen]
  · exact Nat.le_trans hnc hcm
theorem one_nums (l : List Int) : ∀ u ∈ l.map iv, u.oneCell' = true := by
  intro u hu
  obtain ⟨c, _, rfl⟩ := List.mem_map.1 hu
  rfl

theorem copyInts_any (A : Option Addr) (n c : Nat) (l : List Int) (w : World) (h : Rd w A n (l.map iv)) (hn : n ≤ 1099511627776) :
    Calls Tryd.prog 20 #[.slice A n c] w fun e w' => (∃ A' c', e = .returned (.slice A' n c') ∧ OwnI w' w.heap.size A' n c' l) ∧ Below w.heap.size w w' := by
  obtain ⟨i0, hi, hz0, hz1, hz2⟩ := info_parts info_int
  have HN := Lib.hid hn
  clear hn
  go_enter Tryd.func20, Tryd.ntmps20
  go_wp2_with (at_builtin
               refine wpList_append_rd _ rfl _ _ 32 rfl w.heap.size 3 i0 _ 8 Tryd.underlying32 hi hz0 hz1 hz2 rfl (some ⟨w.heap.size, 0, none⟩) 0 0 ([].map iv) rfl (OwnI.empty w) A n c (l.map iv) rfl
                 (h.alloc _) (one_nums l) (by have := HN.out; simp only [maxLen]; omega) (by have := HN.out; omega) (by simp) ?_
               intro A2 c2 w2 hown2 hg2 hrow2)
  have HO := Lib.hid hown2
  have HB := Lib.hid (((Below.refl w.heap.size w).alloc (Nat.le_refl _) (.cells #[] 3)).grown hg2 (by simp) (fun k e => by simp [Value.ownBlock] at e; omega))
  clear hown2 hg2 hrow2
  go_ret
  exact ⟨⟨A2, c2, rfl, by have := HO.out; simpa [OwnI] using this⟩, HB.out⟩

theorem sameInts_eq (A A' : Option Addr) (n c c' : Nat) (w : World) (xs ys : List Int) (h : Rd w A n (xs.map iv)) (h' : Rd w A' n (ys.map iv)) (hm : n ≤ maxLen) :
    Calls Tryd.prog 24 #[.slice A n c, .slice A' n c'] w (Quiet (.bool (decide (xs = ys))) w) := by
  unfold maxLen at hm
  have h1 : ((n : Int) != (n : Int)) = false := by simp
  have hx : xs.length = n := by simpa using h.1
  have hy : ys.length = n := by simpa using h'.1
  go_enter Tryd.func24, Tryd.ntmps24
  go_wp2
  go_loopw [5] (fun i wr => ∃ k m : Nat, k ≤ n ∧ i = .int .i64 k ∧ wr = w.drewN m ∧ xs.take k = ys.take k) (fun i _ => n - (intOf i).toNat)
  case atStart => exact ⟨0, 0, Nat.zero_le _, rfl, rfl, by simp⟩
  case round =>
    obtain ⟨k, m, hk, rfl, rfl, ht⟩ := hrel
    by_cases hlt : k < n
    · obtain ⟨a, rfl, hb, hc⟩ := h.at_ hlt
      obtain ⟨a', rfl, hb', hc'⟩ := h'.at_ hlt
      have gx : (xs.map iv).getD k undef = .int .i64 (xs[k]'(by omega)) := by simp [iv, hx, hlt]
      have gy : (ys.map iv).getD k undef = .int .i64 (ys[k]'(by omega)) := by simp [iv, hy, hlt]
      rw [gx] at hc
      rw [gy] at hc'
      have e1 : (0 : Int) ≤ (k : Int) := by omega
      have e2 : (k : Int) < (n : Int) := by omega
      clear gx gy h h' hb hb'
      have tx := take_snoc xs k (by omega)
      have ty := take_snoc ys k (by omega)
      by_cases hxy : xs[k]'(by omega) = ys[k]'(by omega)
      · have T := Lib.hid (show xs.take (k + 1) = ys.take (k + 1) by rw [tx, ty, ht, hxy])
        have hb : ((xs[k]'(by omega)) != (ys[k]'(by omega))) = false := by rw [hxy]; simp
        clear tx ty ht hxy
        go_wp2
        go_quiet (fail)
        go_wp2
        go_roundw
        case rel => exact ⟨k + 1, _, by omega, by go_num, rfl, T.out⟩
        case measure => simp [intOf]; omega
      · have hne : ¬ xs = ys := fun e => hxy (by subst e; rfl)
        have hd := Lib.hid (show decide (xs = ys) = false by simp [hne])
        have hb : ((xs[k]'(by omega)) != (ys[k]'(by omega))) = true := by
          rw [bne_iff_ne]; exact hxy
        clear tx ty ht hne hxy
        go_wp2
        go_quiet (fail)
        go_wp2
        go_ret
        exact ⟨ret_bool hd.out.symm, _, World.drewN_drewN w _ _⟩
    · have hd := Lib.hid (show decide (xs = ys) = true by
        have e : k = n := by omega
        subst e
        rw [List.take_of_length_le (by omega), List.take_of_length_le (by omega)] at ht
        simp [ht])
      clear ht h h'
      go_wp2
      go_ret
      exact ⟨ret_bool hd.out.symm, _, rfl⟩
theorem sameInts_self (A A' : Option Addr) (n n' c c' : Nat) (w : World) (xs : List Int) (h : Rd w A n (xs.map iv)) (h' : Rd w A' n' (xs.map iv)) (hm : n ≤ maxLen) :
    Calls Tryd.prog 24 #[.slice A n c, .slice A' n' c'] w (Quiet (.bool true) w) := by
  have e1 := h.1
  have e2 := h'.1
  rw [List.length_map] at e1 e2
  have e3 : n' = n := by omega
  subst e3
  have := sameInts_eq A A' n' c c' w xs xs h h' hm
  simpa using this

/-- is a number out of range among these? -/
def numsBad (l : List Int) : Bool := l.any fun v => decide (v < 0 ∨ 4611686018427387904 ≤ v)
/-- numbers behind one another -/
def numsN : List Int → List UInt8
  | [] => []
  | v :: r => encN v.toNat ++ numsN r
theorem numsN_append (a b : List Int) : numsN (a ++ b) = numsN a ++ numsN b := by
  induction a with
  | nil => rfl
  | cons x r ih => simp only [List.cons_append, numsN, ih, List.append_assoc]
theorem numsBad_append (a b : List Int) : numsBad (a ++ b) = (numsBad a || numsBad b) := by unfold numsBad; exact List.any_append
theorem numsN_len {l : List Int} (h : numsBad l = false) : (numsN l).length ≤ 9 * l.length := by
  induction l with
  | nil => simp [numsN]
  | cons v r ih =>
    unfold numsBad at h
    rw [List.any_cons, Bool.or_eq_false_iff] at h
    have h1 := h.1
    rw [decide_eq_false_iff_not] at h1
    have := ih h.2
    have := encN_len9 (v := v.toNat) (by omega)
    simp only [numsN, List.length_append, List.length_cons]
    omega
theorem numsBad_at {l : List Int} {k : Nat} (h : k < l.length) (hv : l.getD k 0 < 0 ∨ 4611686018427387904 ≤ l.getD k 0) : numsBad l = true :=
  List.any_eq_true.2 ⟨_, getD_mem h, by simpa using hv⟩

/-- Nums' answer -/
def NumsPost (l : List Int) (w : World) (e : Ending) (w' : World) : Prop :=
  Below w.heap.size w w' ∧ ((numsBad l = true ∧ e = .returned (.tuple #[.slice none 0 0, .int .i64 10])) ∨
    (numsBad l = false ∧ ∃ A n c, e = .returned (.tuple #[.slice A n c, .int .i64 0]) ∧ OwnB w' w.heap.size A n c (numsN l)))

set_option maxHeartbeats 800000 in
set_option maxRecDepth 100000 in
theorem nums_any (A : Option Addr) (n c : Nat) (l : List Int) (w : World) (h : Rd w A n (l.map iv)) (hn : n ≤ 4294967296) : Calls Tryd.prog 34 #[.slice A n c] w (NumsPost l w) := by
  have hx : l.length = n := by simpa using h.1
  have HX := Lib.hid hx
  clear hx
  go_enter Tryd.func34, Tryd.ntmps34
  go_wp2
  go_loopw [4, 10] (fun s i wr => ∃ (A' : Option Addr) (n' c' k : Nat), k ≤ n ∧ s = .slice A' n' c' ∧ i = .int .i64 k ∧ numsBad (l.take k) = false ∧ OwnB wr w.heap.size A' n' c' (numsN (l.take k)) ∧ Below w.heap.size w wr) (fun _ i _ => n - (intOf i).toNat)
  case atStart => exact ⟨none, 0, 0, 0, by omega, rfl, rfl, rfl, OwnB.nil_ _ _, Below.refl _ _⟩
  case round =>
    obtain ⟨A', n', c', k, hk, rfl, rfl, hbd, ho, hb⟩ := hrel
    by_cases hlt : k < n
    · obtain ⟨a, rfl, hba, hc⟩ := (h.below hb).at_ hlt
      have gx : (l.map iv).getD k undef = .int .i64 (l.getD k 0) := by
        have : k < l.length := by rw [HX.out]; exact hlt
        rw [getD_eq (by simpa using this), getD_eq this]; simp [iv]
      rw [gx] at hc
      have hsn := take_snocD l 0 k (by rw [HX.out]; exact hlt)
      have hat := fun hh => numsBad_at (l := l) (k := k) (by rw [HX.out]; exact hlt) hh
      have hnl := numsN_len hbd
      have hlen := OwnB.len ho
      have hn' : n' ≤ 38654705664 := by rw [List.length_take] at hnl; omega
      have hs := hb.size
      have e1 : (0 : Int) ≤ (k : Int) := by omega
      have e2 : (k : Int) < (n : Int) := by omega
      clear gx hba hnl hlen
      generalize l.getD k 0 = v at *
      by_cases hv : v < 0 ∨ 4611686018427387904 ≤ v
      · have HA : Hid (∀ W, Calls Tryd.prog 56 #[.slice A' n' c', .int .i64 v] W (Err2 10 W)) := by
          intro W
          rcases hv with hv | hv
          · exact appendNum_low _ _ _ v W hv
          · exact appendNum_high _ _ _ v W hv
        have HBAD := Lib.hid (hat hv)
        clear hv hat hsn hbd
        go_wp2_with fail
        refine (HA.out _).mono ?_
        rintro e w1 ⟨rfl, rfl⟩
        go_wp2_with fail
        go_ret2
        exact ⟨hb, .inl ⟨HBAD.out, rfl⟩⟩
      · obtain ⟨u, rfl⟩ : ∃ u : Nat, v = u := ⟨v.toNat, by omega⟩
        have hu : u < 4611686018427387904 := by omega
        have HA := Lib.hid (appendNum_ok A' n' c' (numsN (l.take k)) w.heap.size u wr hu ho (by omega) hs)
        have HNB := Lib.hid (show numsBad (l.take (k + 1)) = false by rw [hsn, numsBad_append, hbd]; unfold numsBad; simp; omega)
        have HNN := Lib.hid (show numsN (l.take (k + 1)) = numsN (l.take k) ++ encN u by rw [hsn, numsN_append]; simp [numsN])
        clear hv hat hsn hbd hu
        go_wp2_with fail
        refine HA.out.mono ?_
        rintro e w1 ⟨A1, n1, c1, rfl, ho1, hg1, hrow1⟩
        have HB1 := Lib.hid (hb.grown hg1 hs (OwnB.block ho))
        have HO1 := Lib.hid ho1
        clear hg1 hrow1 ho1
        go_wp2_with fail
        go_roundw
        case rel => exact ⟨A1, n1, c1, k + 1, by omega, rfl, by go_num, HNB.out, by have := HO1.out; rwa [← HNN.out] at this, HB1.out⟩
        case measure => simp [intOf]; omega
    · have e : l.take k = l := List.take_of_length_le (by have := HX.out; omega)
      rw [e] at ho hbd
      have HBD := Lib.hid hbd
      clear e hbd
      go_wp2
      go_ret2
      exact ⟨hb, .inr ⟨HBD.out, A', n', c', rfl, ho⟩⟩

set_option maxHeartbeats 800000 in
set_option maxRecDepth 100000 in
theorem refNums_any (A : Option Addr) (n c : Nat) (l : List Int) (w : World) (h : Rd w A n (l.map iv)) (hn : n ≤ 4294967296) : Calls Tryd.prog 37 #[.slice A n c] w (NumsPost l w) := by
  obtain ⟨i0, hi, hz0, hz1, hz2⟩ := info_parts info_u8
  have hx : l.length = n := by simpa using h.1
  have HX := Lib.hid hx
  have HE := Lib.hid (own_empty w)
  clear hx
  go_enter Tryd.func37, Tryd.ntmps37
  go_wp2
  go_loopw [4, 5] (fun s i wr => ∃ (A' : Option Addr) (n' c' k : Nat), k ≤ n ∧ s = .slice A' n' c' ∧ i = .int .i64 k ∧ numsBad (l.take k) = false ∧ OwnB wr w.heap.size A' n' c' (numsN (l.take k)) ∧ Below w.heap.size w wr) (fun _ i _ => n - (intOf i).toNat)
  case atStart => exact ⟨_, 0, 0, 0, by omega, rfl, rfl, rfl, HE.out, (Below.refl _ _).alloc (Nat.le_refl _) _⟩
  case round =>
    obtain ⟨A', n', c', k, hk, rfl, rfl, hbd, ho, hb⟩ := hrel
    by_cases hlt : k < n
    · obtain ⟨a, rfl, hba, hc⟩ := (h.below hb).at_ hlt
      have gx : (l.map iv).getD k undef = .int .i64 (l.getD k 0) := by
        have : k < l.length := by rw [HX.out]; exact hlt
        rw [getD_eq (by simpa using this), getD_eq this]; simp [iv]
      rw [gx] at hc
      have hsn := take_snocD l 0 k (by rw [HX.out]; exact hlt)
      have hat := fun hh => numsBad_at (l := l) (k := k) (by rw [HX.out]; exact hlt) hh
      have hnl := numsN_len hbd
      have hlen := OwnB.len ho
      have hn' : n' ≤ 38654705664 := by rw [List.length_take] at hnl; omega
      have hs := hb.size
      have e1 : (0 : Int) ≤ (k : Int) := by omega
      have e2 : (k : Int) < (n : Int) := by omega
      clear gx hba hnl hlen
      generalize l.getD k 0 = v at *
      by_cases hv : v < 0 ∨ 4611686018427387904 ≤ v
      · have HA := Lib.hid (fun W => refNum_bad v W hv)
        have HBAD := Lib.hid (hat hv)
        clear hv hat hsn hbd
        go_wp2_with fail
        refine (HA.out _).mono ?_
        rintro e w1 ⟨rfl, rfl⟩
        go_wp2_with fail
        go_ret2
        exact ⟨hb, .inl ⟨HBAD.out, rfl⟩⟩
      · obtain ⟨u, rfl⟩ : ∃ u : Nat, v = u := ⟨v.toNat, by omega⟩
        have hu : u < 4611686018427387904 := by omega
        have HA := Lib.hid (refNum_ok u wr hu)
        have hl9 := encN_len9 hu
        have HL9 := Lib.hid hl9
        have HNB := Lib.hid (show numsBad (l.take (k + 1)) = false by rw [hsn, numsBad_append, hbd]; unfold numsBad; simp; omega)
        have HNN := Lib.hid (show numsN (l.take (k + 1)) = numsN (l.take k) ++ encN u by rw [hsn, numsN_append]; simp [numsN])
        clear hv hat hsn hbd hu hl9
        go_wp2_with fail
        refine HA.out.mono ?_
        rintro e w1 ⟨A1, n1, c1, rfl, ho1, hb1⟩
        have hn1 : n1 ≤ 9 := by have := OwnB.len ho1; have := HL9.out; omega
        have hs1 := Nat.le_trans hs hb1.size
        have HRD := Lib.hid ho1.rd
        have HO := Lib.hid (ho.below hb1)
        have HB1 := Lib.hid (hb.trans (hb1.mono hs))
        clear hb1 ho1
        go_wp2_with (at_builtin
                     refine wpList_append_rd _ rfl _ _ 22 rfl w.heap.size 5 i0 _ 1 Tryd.underlying22 hi hz0 hz1 hz2 rfl A' n' c' ((numsN (l.take k)).map bv) rfl HO.out A1 n1 c1 ((encN u).map bv) rfl
                       HRD.out (oneCell_bytes _) (by simp only [maxLen]; omega) (by omega) hs1 ?_
                     intro A2 c2 w2 hown2 hg2 hrow2)
        have HB2 := Lib.hid (HB1.out.grown hg2 HB1.out.size (OwnB.block ho))
        have HO2 := Lib.hid hown2
        clear hown2 hg2 hrow2
        go_roundw
        case rel => exact ⟨A2, n' + n1, c2, k + 1, by omega, rfl, by go_num, HNB.out, by have := HO2.out; unfold OwnB; rw [HNN.out, List.map_append]; exact this, HB2.out⟩
        case measure => simp [intOf]; omega
    · have e : l.take k = l := List.take_of_length_le (by have := HX.out; omega)
      rw [e] at ho hbd
      have HBD := Lib.hid hbd
      clear e hbd
      go_wp2
      go_ret2
      exact ⟨hb, .inr ⟨HBD.out, A', n', c', rfl, ho⟩⟩
end Go.Proofs.YtfdmnnbcnaofgaaDoor
