/-
  tally: a voter's vote is found; Rank, Load, Reach, New. Walks over the plain words; no statement.
-/
import Derived.Test.YtckmjpbkcpmdpaaTallySort
namespace Go.Proofs.Ytckmjpbkcpmdpaa
open Go.RowKit Go.Sort Go.Shelf
set_option linter.unusedVariables false

def vcKnown (xs : List Vc) (a : Int) : Option Vc := xs.find? fun x => decide (x.v.voter = a)
theorem vcKnown_v (xs : List Vc) (a : Int) : tyKnown (xs.map (·.v)) a = (vcKnown xs a).map (·.v) := by
  unfold tyKnown vcKnown
  rw [List.find?_map]; rfl
theorem idx_of (p : Vc → Bool) (d : Vc) : ∀ (xs : List Vc) (i : Nat), (Lib.idxByFrom (fun _ y => p y) d xs i = -1 ∧ xs.find? p = none) ∨ (∃ k x, xs[k]? = some x ∧ Lib.idxByFrom (fun _ y => p y) d xs i = ((i + k : Nat) : Int) ∧ xs.find? p = some x ∧ ∀ j y, j < k → xs[j]? = some y → p y = false)
  | [], i => .inl ⟨rfl, rfl⟩
  | y :: r, i => by
    unfold Lib.idxByFrom
    by_cases h : p y = true
    · rw [if_pos h, List.find?_cons_of_pos h]
      exact .inr ⟨0, y, rfl, rfl, rfl, fun j _ hj => by omega⟩
    · rw [if_neg h, List.find?_cons_of_neg h]
      rcases idx_of p d r (i + 1) with h1 | ⟨k, x, h1, h2, h3, h4⟩
      · exact .inl h1
      · refine .inr ⟨k + 1, x, h1, by rw [h2]; congr 1; omega, h3, fun j z hj hz => ?_⟩
        cases j with
        | zero =>
          obtain rfl := Option.some.inj hz
          simpa using h
        | succ j => exact h4 j z (by omega) hz
theorem idx_known2 (xs : List Vc) (a : Int) : (Lib.idxBy (fun _ (y : Vc) => decide (y.v.voter = a)) xs default = -1 ∧ vcKnown xs a = none) ∨ (∃ (k : Nat) (x : Vc), xs[k]? = some x ∧ Lib.idxBy (fun _ (y : Vc) => decide (y.v.voter = a)) xs default = (k : Int) ∧ vcKnown xs a = some x ∧ ∀ j y, j < k → xs[j]? = some y → y.v.voter ≠ a) := by
  rcases idx_of (fun x : Vc => decide (x.v.voter = a)) default xs 0 with h | ⟨k, x, h1, h2, h3, h4⟩
  · exact .inl h
  · exact .inr ⟨k, x, h1, by rw [Nat.zero_add] at h2; exact h2, h3, fun j y hj hy => by simpa using h4 j y hj hy⟩
theorem idx_known (xs : List Vc) (a : Int) : (Lib.idxBy (fun _ (y : Vc) => decide (y.v.voter = a)) xs default = -1 ∧ vcKnown xs a = none) ∨ (∃ (k : Nat) (x : Vc), xs[k]? = some x ∧ Lib.idxBy (fun _ (y : Vc) => decide (y.v.voter = a)) xs default = (k : Int) ∧ vcKnown xs a = some x) := by
  rcases idx_known2 xs a with h | ⟨k, x, h1, h2, h3, _⟩
  · exact .inl h
  · exact .inr ⟨k, x, h1, h2, h3⟩
/-- IndexFunc at votes -/
theorem index_votes (f : Nat) (lb : Array Value) (p : Vc → Bool) (eg : ∀ args w, (callFunc f args).run Try.prog w = .ok (.enter f args) w) (base : Nat) (A : Option Addr) (n c : Nat) (xs : List Vc) (w : World) (ho : OwnV w base A n c xs) (hp : PredBelow Try.prog f lb (fun x : Vc => .agg (vc1 x).toArray) p w) :
    Calls Try.prog 36 #[.slice A n c, .func (.func f) #[] lb] w fun e w' => e = .returned (.int .i64 (Lib.idxBy (fun _ y => p y) xs default)) ∧ Below w.heap.size w w' := by
  have hl := ho.len
  rcases Nat.eq_zero_or_pos n with h0 | hn
  · subst h0
    obtain rfl : xs = [] := List.eq_nil_of_length_eq_zero hl
    clear ho hp
    show Calls Try.prog _ _ w fun e w' => e = .returned (.int .i64 (-1)) ∧ Below w.heap.size w w'
    go_enter Try.func36, Try.ntmps36
    go_wp2
    go_loopw [8] (fun i wr => i = .int .i64 0 ∧ wr = w) (fun i _ => 2 - (intOf i).toNat)
    case atStart => exact ⟨rfl, rfl⟩
    case round =>
      obtain ⟨rfl, rfl⟩ := hrel
      go_wp2
      go_ret
      exact ⟨rfl, Below.refl _ _⟩
  · obtain ⟨g, rfl, _, hnc, hcm, rest, hb, hbl⟩ := ownV_at ho hn
    have hcon := AnyQ.slices_IndexFunc Try.indexVotes 4 Try.isAgg55 Try.sizeOf55 vc1 (fun _ => rfl) p f lb eg g 0 n c xs w hp (by omega) (by simp only [maxLen] at hcm; omega) hb.lt (fun j hj i v hi => by
      rw [Nat.zero_add, hb.cell]
      have hx : xs[j]? = some xs[j] := List.getElem?_eq_getElem hj
      obtain ⟨c0, c1, c2, c3⟩ := vcc_at xs j _ hx
      have hlt : j * 4 + 3 < (vcc xs).length := by rw [vcc_len]; omega
      rw [getElem!_pos xs j hj] at hi
      have hi4 : i < 4 := by have := (List.getElem?_eq_some_iff.1 hi).1; simpa [vc1] using this
      rw [List.getElem?_append_left (by omega), ← hi]
      rcases (show i = 0 ∨ i = 1 ∨ i = 2 ∨ i = 3 by omega) with rfl | rfl | rfl | rfl
      · exact c0
      · exact c1
      · exact c2
      · exact c3)
    have hcon : Calls Try.prog 36 #[.slice (some ⟨g, 0, none⟩) n c, .func (.func f) #[] lb] w _ := hcon
    rwa [List.take_of_length_le (by omega)] at hcon
theorem enters_find : ∀ args w, (callFunc 37 args).run Try.prog w = .ok (.enter 37 args) w := enters_of Try.func37 (by kernel_rfl) rfl
theorem enters_put : ∀ args w, (callFunc 31 args).run Try.prog w = .ok (.enter 31 args) w := enters_of Try.func31 (by kernel_rfl) rfl
theorem info_vote' : (Try.prog.info? 55).map (·.size) = some 4 := by kernel_rfl
theorem four_set {X : World} {g : Nat} {t : TypeId} {x0 x1 x2 x3 : Value} (k : Bk X g t [x0, x1, x2, x3]) (a b c d : Value) : Bk ((((X.setCell ⟨g, 0, none⟩ a).setCell ⟨g, 1, none⟩ b).setCell ⟨g, 2, none⟩ c).setCell ⟨g, 3, none⟩ d) g t [a, b, c, d] := (((k.set 0 a).set 1 b).set 2 c).set 3 d
theorem four_below {B g : Nat} {w X : World} (h : Below B w X) (hg : B ≤ g) (a b c d : Value) : Below B w ((((X.setCell ⟨g, 0, none⟩ a).setCell ⟨g, 1, none⟩ b).setCell ⟨g, 2, none⟩ c).setCell ⟨g, 3, none⟩ d) :=
  below_set (below_set (below_set (below_set h hg 0 a) hg 1 b) hg 2 c) hg 3 d
/-- find's answer -/
def FoundP (o : Option Vc) (w : World) (e : Ending) (w' : World) : Prop :=
  e = .returned (.tuple #[.agg #[.int .i64 (o.getD default).v.voter, .int .i64 (o.getD default).v.rank, .slice (o.getD default).ka (o.getD default).kn (o.getD default).kc, .slice (o.getD default).la (o.getD default).ln (o.getD default).lc], .bool o.isSome]) ∧ Below w.heap.size w w'
set_option maxHeartbeats 1600000 in
theorem find_any (a : Int) (F : Nat → Prop) (g : Nat) (N : Int) (xs : List Vc) (A : Option Addr) (n c : Nat) (w : World) (h : TlAt w F g N xs A n c) :
    Calls Try.prog 29 #[.pointer (some ⟨g, 0, none⟩), .int .i64 a] w (FoundP (vcKnown xs a) w) := by
  have hg := h.lt g h.mine
  have K1 := (Bk.new w 3 [.int .i64 a]).alloc (.cells #[.int .i64 0, .int .i64 0, .slice none 0 0, .slice none 0 0] 55)
  have K2 := bk_new2 w (.cells #[.int .i64 a] 3) [.int .i64 0, .int .i64 0, .slice none 0 0, .slice none 0 0] 55
  have hw := ((Below.refl w.heap.size w).alloc (Nat.le_refl _) (.cells #[.int .i64 a] 3)).alloc (by simp) (.cells #[.int .i64 0, .int .i64 0, .slice none 0 0, .slice none 0 0] 55)
  have h2 := h.kept hw
  have HIX := Lib.hid (index_votes 37 #[.pointer (some ⟨w.heap.size, 0, none⟩)] (fun x => decide (x.v.voter = a)) enters_find 0 A n c xs _ h2.row (pred_find a w.heap.size _ (by simp; omega) (K1.at_ rfl)))
  obtain ⟨q0, q1⟩ := h2.bk.two
  have HK := Lib.hid (idx_known xs a)
  have HT := Lib.hid h2
  have HW := Lib.hid hw
  have HK2 := Lib.hid K2
  have hcap := (own_capV h2.row)
  clear h h2 hw K1 K2
  go_enter Try.func29, Try.ntmps29
  go_wp2_with fail
  refine HIX.out.mono ?_
  rintro e w3 ⟨rfl, hb3⟩
  have HB3 := Lib.hid (below_next HW.out hb3 HW.out.size)
  have HK3 := Lib.hid (HK2.out.kept hb3)
  have ht3 := HT.out.kept hb3
  obtain ⟨k0, k1, k2, k3⟩ := HK3.out.four
  have f0 := HK3.out.frozen 0
  have f1 := HK3.out.frozen 1
  have f2 := HK3.out.frozen 2
  have f3 := HK3.out.frozen 3
  have hlt3 := HK3.out.lt
  clear q0 q1 hb3
  obtain ⟨q0, q1⟩ := ht3.bk.two
  rcases HK.out with ⟨h1, h2⟩ | ⟨k, x, hx, h1, h2⟩
  · rw [h1]
    have HQ := Lib.hid h2
    clear ht3 h1 h2
    go_wp2_with fail
    refine bodyPost_ret_by (results_row_tmp rfl _ _ (w.heap.size + 1) 55 _ _ rfl (four_set HK3.out _ _ _ _) Try.underlying55 rfl info_vote') rfl ?_
    exact ⟨by rw [HQ.out]; rfl, four_below HB3.out (by omega) _ _ _ _⟩
  · rw [h1]
    have HQ := Lib.hid h2
    clear h1 h2
    obtain ⟨g', rfl, hb', c0, c1, c2, c3⟩ := ht3.row.at_ hx
    have hkn : k < n := by have := (List.getElem?_eq_some_iff.1 hx).1; have := HT.out.row.len; omega
    have y1 : (0 : Int) ≤ (k : Int) := by omega
    have y2 : (k : Int) < (n : Int) := by omega
    have y3 : ¬ ((k : Int) < 0) := by omega
    have hl3 := HB3.out.size
    clear ht3 hx
    go_wp2_with fail
    refine bodyPost_ret_by (results_row_tmp rfl _ _ (w.heap.size + 1) 55 _ _ rfl (four_set HK3.out _ _ _ _) Try.underlying55 rfl info_vote') rfl ?_
    exact ⟨by rw [HQ.out]; rfl, four_below HB3.out (by omega) _ _ _ _⟩
/-- a tally of the call's own with a vote -/
theorem known_in {xs : List Vc} {a : Int} {x : Vc} (h : vcKnown xs a = some x) : x ∈ xs ∧ x.v.voter = a := ⟨List.mem_of_find?_eq_some h, by simpa using List.find?_some h⟩
set_option maxHeartbeats 1600000 in
/-- Rank -/
theorem rank_any (a : Int) (F : Nat → Prop) (g : Nat) (N : Int) (vs : List Vo) (w : World) (h : Tl w F g N vs) :
    Calls Try.prog 22 #[.pointer (some ⟨g, 0, none⟩), .int .i64 a] w (fun e w' => e = .returned (.tuple #[.int .i64 ((tyKnown vs a).getD default).rank, .bool (tyKnown vs a).isSome]) ∧ Below w.heap.size w w') := by
  obtain ⟨_, xs, A, n, c, h, rfl⟩ := h
  have HF0 := find_any a F g N xs A n c w h
  unfold FoundP at HF0
  have HF := Lib.hid HF0
  clear HF0
  have HV := Lib.hid (vcKnown_v xs a)
  clear h
  generalize vcKnown xs a = o at *
  have HV2 := Lib.hid (show ((tyKnown (xs.map (·.v)) a).getD default).rank = (o.getD default).v.rank ∧ (tyKnown (xs.map (·.v)) a).isSome = o.isSome by rw [HV.out]; cases o <;> exact ⟨rfl, rfl⟩)
  rw [HV2.out.1, HV2.out.2]
  clear HV HV2
  generalize o.getD default = x at *
  generalize o.isSome = b at *
  go_enter Try.func22, Try.ntmps22
  go_wp2_with fail
  refine HF.out.mono ?_
  rintro e w2 ⟨rfl, hb⟩
  have HB := Lib.hid (hb.alloc hb.size (.cells #[.int .i64 x.v.voter, .int .i64 x.v.rank, .slice x.ka x.kn x.kc, .slice x.la x.ln x.lc] 55))
  clear hb
  go_wp2_with fail
  go_ret2
  exact ⟨rfl, HB.out⟩
set_option maxHeartbeats 1600000 in
/-- Load -/
theorem load_any (a : Int) (F : Nat → Prop) (g : Nat) (N : Int) (vs : List Vo) (w : World) (h : Tl w F g N vs) :
    Calls Try.prog 25 #[.pointer (some ⟨g, 0, none⟩), .int .i64 a] w (Fresh1 ((tyKnown vs a).getD default).load w) := by
  obtain ⟨hgd, xs, A, n, c, h, rfl⟩ := h
  have HF0 := find_any a F g N xs A n c w h
  unfold FoundP at HF0
  have HF := Lib.hid HF0
  clear HF0
  have HV := Lib.hid (vcKnown_v xs a)
  have HR := Lib.hid (show Rd w ((vcKnown xs a).getD default).la ((vcKnown xs a).getD default).ln (((vcKnown xs a).getD default).v.load.map bv) ∧ ((vcKnown xs a).getD default).ln ≤ 1099511627776 by
    cases e : vcKnown xs a with
    | none => exact ⟨Rd.nil_ _ _, by decide⟩
    | some x =>
      have hx := (known_in e).1
      have h1 := (h.rds x hx).2
      refine ⟨h1, ?_⟩
      have h2 := (hgd.rng x.v (List.mem_map.2 ⟨x, hx, rfl⟩)).2.2.2.2.2
      have h3 := h1.1
      rw [List.length_map] at h3
      show x.ln ≤ _
      omega)
  clear h
  generalize vcKnown xs a = o at *
  have HV2 := Lib.hid (show ((tyKnown (xs.map (·.v)) a).getD default).load = (o.getD default).v.load by rw [HV.out]; cases o <;> rfl)
  rw [HV2.out]
  clear HV HV2
  generalize o.getD default = x at *
  generalize o.isSome = b at *
  go_enter Try.func25, Try.ntmps25
  go_wp2_with fail
  refine HF.out.mono ?_
  rintro e w2 ⟨rfl, hb⟩
  have HB := Lib.hid (hb.alloc hb.size (.cells #[.int .i64 x.v.voter, .int .i64 x.v.rank, .slice x.ka x.kn x.kc, .slice x.la x.ln x.lc] 55))
  have HCL := Lib.hid (clone_any x.la x.ln x.lc x.v.load _ (HR.out.1.below HB.out) HR.out.2)
  clear hb
  go_wp2_with fail
  refine HCL.out.mono ?_
  rintro e w3 ⟨A3, n3, c3, rfl, ho, hb⟩
  have HO := Lib.hid (OwnB.more ho HB.out.size)
  have HB3 := Lib.hid (below_next HB.out hb HB.out.size)
  clear ho hb
  go_wp2_with fail
  go_ret
  exact ⟨A3, n3, c3, rfl, HO.out, HB3.out⟩
set_option maxHeartbeats 1600000 in
/-- Reach -/
theorem reach_any (k : Int) (F : Nat → Prop) (g : Nat) (N : Int) (vs : List Vo) (w : World) (h : Tl w F g N vs) (hk : -9223372036854775808 ≤ k ∧ k ≤ 9223372036854775807) :
    Calls Try.prog 20 #[.pointer (some ⟨g, 0, none⟩), .int .i64 k] w (fun e w' => e = .returned (.tuple #[.int .i64 ((tyReach vs k).getD 0), .bool (tyReach vs k).isSome]) ∧ Below w.heap.size w w') := by
  obtain ⟨hgd, xs, A, n, c, h, rfl⟩ := h
  have hl := h.row.len
  have hl64 := hgd.len
  rw [List.length_map] at hl64
  obtain ⟨q0, q1⟩ := h.bk.two
  unfold tyReach
  have hb1 := (tyBehind_one k).symm
  have hb2 : max k 1 ≤ 9223372036854775807 ∧ 1 ≤ max k 1 := by omega
  generalize tyBehind k = b at *
  have hb3 : (b : Int) ≤ 9223372036854775806 := by omega
  have HBL := Lib.hid (Below.refl w.heap.size w)
  have hcap := (own_capV h.row).2
  simp only [maxLen] at hcap
  rcases Nat.lt_or_ge b n with hlt | hge
  · obtain ⟨g', rfl, hb', c0, c1, c2, c3⟩ := h.row.at_ (show xs[b]? = some xs[b] from List.getElem?_eq_getElem (by omega))
    have HM := Lib.hid (show ((xs.map (·.v))[b]?).map (·.rank) = some (xs[b]'(by omega)).v.rank by rw [List.getElem?_map, List.getElem?_eq_getElem (by omega)]; rfl)
    rw [HM.out]
    generalize (xs[b]'(by omega)).v.rank = r at *
    have y1 : ¬ ((n : Int) ≤ (b : Int)) := by omega
    have y2 : (b : Int) < (n : Int) := by omega
    have y3 : (0 : Int) ≤ (b : Int) := by omega
    clear h hgd HM c0 c2 c3
    go_enter Try.func20, Try.ntmps20
    go_wp2_with fail
    go_ret2
    exact ⟨rfl, HBL.out⟩
  · have HM := Lib.hid (show ((xs.map (·.v))[b]?).map (·.rank) = none by rw [List.getElem?_map, List.getElem?_eq_none (by omega)]; rfl)
    rw [HM.out]
    have y1 : (n : Int) ≤ (b : Int) := by omega
    clear h hgd HM
    go_enter Try.func20, Try.ntmps20
    go_wp2_with fail
    go_ret2
    exact ⟨rfl, HBL.out⟩
end Go.Proofs.Ytckmjpbkcpmdpaa
