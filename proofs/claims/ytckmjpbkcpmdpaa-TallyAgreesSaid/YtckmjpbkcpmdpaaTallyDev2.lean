/-
  tally: New, Have, Agree. Walks over the plain words; no statement.
-/
import Derived.Test.YtckmjpbkcpmdpaaTallyDev1
import Derived.StillTailTactics
namespace Go.Proofs.Ytckmjpbkcpmdpaa
open Go.RowKit Go.Sort Go.Shelf
set_option linter.unusedVariables false

/-- how many voters a new one has -/
def tyVoters (n : Int) : Int := min (max n 0) 64
/-- a new tally -/
def MadeT (N : Int) (w : World) (e : Ending) (w' : World) : Prop :=
  ∃ g F, e = .returned (.pointer (some ⟨g, 0, none⟩)) ∧ Tl w' F g N [] ∧ (∀ i, F i → w.heap.size ≤ i) ∧ Below w.heap.size w w'
theorem new_tally (n : Int) (w : World) (hn : -9223372036854775808 ≤ n ∧ n ≤ 9223372036854775807) : Calls Try.prog 11 #[.int .i64 n] w (MadeT (tyVoters n) w) := by
  have hv : tyVoters n = min (max n 0) 64 := rfl
  have HV := Lib.hid hv
  have h0 : 0 ≤ tyVoters n ∧ tyVoters n ≤ 64 := by omega
  have HG := Lib.hid h0
  rw [HV.out] at *
  clear h0 hv
  go_enter Try.func11, Try.ntmps11
  go_wp2
  go_ret
  refine ⟨w.heap.size, fun i => i = w.heap.size, rfl, ⟨TyGood.nil HG.out.1 HG.out.2, [], none, 0, 0, ⟨Bk.new w 51 [_, _], OwnV.nil_ _ _, rfl, (fun b e => by simp [Value.ownBlock] at e), (fun x hx => by cases hx), (fun x hx => by cases hx), (fun i hi => by have hi' : i = w.heap.size := hi; subst hi'; simp)⟩, rfl⟩, (fun i hi => by have hi' : i = w.heap.size := hi; omega), (Below.refl _ _).alloc (Nat.le_refl _) _⟩
/-- new numbers: all else is as it was -/
def FreshI (l : List Int) (w : World) (e : Ending) (w' : World) : Prop :=
  ∃ A n c, e = .returned (.slice A n c) ∧ OwnI w' w.heap.size A n c l ∧ Below w.heap.size w w'
theorem OwnI.more {w : World} {base base' : Nat} {A : Option Addr} {n c : Nat} {l : List Int} (h : OwnI w base A n c l) (hb : base' ≤ base) : OwnI w base' A n c l := by
  refine ⟨h.1, ?_⟩
  rcases h.2 with hn | ⟨g, cap, cur, e, hg, rest⟩
  · exact .inl hn
  · exact .inr ⟨g, cap, cur, e, Nat.le_trans hb hg, rest⟩
def vcHaves (xs : List Vc) (r : Int) (k : List UInt8) : List Int := (xs.filter fun x => decide (x.v.rank = r) && decide (x.v.key = k)).map (·.v.voter)
theorem vcHaves_v (xs : List Vc) (r : Int) (k : List UInt8) : tyHaves (xs.map (·.v)) r k = vcHaves xs r k := by
  unfold tyHaves vcHaves
  rw [List.filter_map, List.map_map]; rfl
theorem vcHaves_next (xs : List Vc) (r : Int) (k : List UInt8) (j : Nat) (x : Vc) (h : xs[j]? = some x) :
    vcHaves (xs.take (j + 1)) r k = if (decide (x.v.rank = r) && decide (x.v.key = k)) = true then vcHaves (xs.take j) r k ++ [x.v.voter] else vcHaves (xs.take j) r k := by
  obtain ⟨hj, hx⟩ := List.getElem?_eq_some_iff.1 h
  unfold vcHaves
  rw [take_snoc xs j hj, hx, List.filter_append, List.map_append]
  by_cases e : (decide (x.v.rank = r) && decide (x.v.key = k)) = true
  · rw [if_pos e]; simp [e]
  · rw [if_neg e]; simp [e]
theorem vcHaves_len (xs : List Vc) (r : Int) (k : List UInt8) : (vcHaves xs r k).length ≤ xs.length := by
  unfold vcHaves
  rw [List.length_map]; exact List.length_filter_le _ _
set_option maxHeartbeats 1600000 in
/-- Have -/
theorem have_at (r : Int) (K : Option Addr) (kn kc : Nat) (key : List UInt8) (F : Nat → Prop) (g : Nat) (N : Int) (xs : List Vc) (A : Option Addr) (n c : Nat) (w : World) (h : TlAt w F g N xs A n c) (hx64 : xs.length ≤ 64) (hk : Rd w K kn (key.map bv)) :
    Calls Try.prog 27 #[.pointer (some ⟨g, 0, none⟩), .int .i64 r, .slice K kn kc] w (FreshI (vcHaves xs r key) w) := by
  obtain ⟨i0, hi, hz0, hz1, hz2⟩ := info_parts info_int
  have hl := h.row.len
  obtain ⟨q0, q1⟩ := h.bk.two
  have HT := Lib.hid h
  have HK := Lib.hid hk
  have HL := Lib.hid hl
  have H64 := Lib.hid hx64
  have hn64 : n ≤ 64 := by omega
  clear h hk hl hx64
  go_enter Try.func27, Try.ntmps27
  go_wp2_with fail
  go_loopw [7, 15] (fun s i wr => ∃ (A' : Option Addr) (n' c' k : Nat), k ≤ n ∧ s = .slice A' n' c' ∧ i = .int .i64 k ∧ OwnI wr w.heap.size A' n' c' (vcHaves (xs.take k) r key) ∧ Below w.heap.size w wr) (fun _ i _ => n - (intOf i).toNat)
  case atStart => exact ⟨none, 0, 0, 0, by omega, rfl, rfl, OwnI.nil_ _ _, Below.refl _ _⟩
  case round =>
    obtain ⟨A', n', c', k, hk, rfl, rfl, ho, hb⟩ := hrel
    have hs := hb.size
    by_cases hlt : k < n
    · have hkx : k < xs.length := by have := HL.out; omega
      have hx : xs[k]? = some xs[k] := List.getElem?_eq_getElem hkx
      have hmem : xs[k] ∈ xs := List.getElem_mem _
      have HNX := Lib.hid (vcHaves_next xs r key k _ hx)
      have hT := HT.out.kept hb
      obtain ⟨g', rfl, hb', c0, c1, c2, c3⟩ := hT.row.at_ hx
      have hn' : n' ≤ 64 := by have e1 := ho.len; have e2 := vcHaves_len (xs.take k) r key; rw [List.length_take] at e2; have := H64.out; omega
      have HSY := Lib.hid (fun o => says_any xs[k] r K kn kc key (wr.alloc o) (((HT.out.rds _ hmem).1.below hb).alloc o) ((HK.out.below hb).alloc o))
      generalize xs[k] = x at *
      have y1 : (0 : Int) ≤ (k : Int) := by omega
      have y2 : (k : Int) < (n : Int) := by omega
      have w1 : IntKind.i64.wrap ((k : Int) + 1) = (k : Int) + 1 := by simp only [IntKind.wrap, IntKind.bits, IntKind.signed]; simp; omega
      have KB := Bk.new wr 55 [.int .i64 x.v.voter, .int .i64 x.v.rank, .slice x.ka x.kn x.kc, .slice x.la x.ln x.lc]
      have HO := Lib.hid (ho.below ((Below.refl wr.heap.size wr).alloc (Nat.le_refl _) (.cells #[.int .i64 x.v.voter, .int .i64 x.v.rank, .slice x.ka x.kn x.kc, .slice x.la x.ln x.lc] 55)))
      have HB := Lib.hid (hb.alloc hb.size (.cells #[.int .i64 x.v.voter, .int .i64 x.v.rank, .slice x.ka x.kn x.kc, .slice x.la x.ln x.lc] 55))
      have HKB := Lib.hid KB
      have HLT := Lib.hid hlt
      clear hT ho hb KB hx hmem hkx hlt
      by_cases hp : (decide (x.v.rank = r) && decide (x.v.key = key)) = true
      · rw [hp] at HSY
        rw [if_pos hp] at HNX
        clear hp
        go_wp2_with fail
        refine (HSY.out _).mono ?_
        rintro e w2 ⟨rfl, hb2⟩
        have HB2 := Lib.hid (below_next HB.out hb2 HB.out.size)
        have HO2 := Lib.hid (HO.out.below hb2)
        obtain ⟨k0, k1, k2, k3⟩ := (HKB.out.kept hb2).four
        have hlt2 := (HKB.out.kept hb2).lt
        have hs2 := HB2.out.size
        clear hb2
        go_wp2_with (at_builtin
                     refine wpList_append_rd _ rfl _ _ 39 rfl w.heap.size 3 i0 _ 8 Try.underlying39 hi hz0 hz1 hz2 rfl A' n' c' ((vcHaves (xs.take k) r key).map iv) rfl (World.ownsRow.alloc HO2.out _) (some ⟨w2.heap.size, 0, none⟩) 1 1 [.int .i64 x.v.voter] rfl
                       (Rd.new w2 [.int .i64 x.v.voter] 3) (by simp [Value.oneCell']) (by simp only [maxLen]; omega) (by omega) (by simp; omega) ?_
                     intro A4 c4 w4 hown4 hg4 hrow4)
        have HO4 := Lib.hid (show OwnI w4 w.heap.size A4 (n' + 1) c4 (vcHaves (xs.take (k + 1)) r key) by
          rw [HNX.out]
          unfold OwnI
          rw [List.map_append]
          exact hown4)
        have b4 := HB2.out.alloc HB2.out.size (.cells #[.int .i64 x.v.voter] 3)
        have HB4 := Lib.hid (b4.grown hg4 b4.size (OwnI.block HO2.out))
        clear hown4 hg4 hrow4 b4
        go_roundw
        case rel => exact ⟨A4, n' + 1, c4, k + 1, HLT.out, rfl, by go_num, HO4.out, HB4.out⟩
        case measure => have := HLT.out; simp [intOf]; omega
      · have hp' : (decide (x.v.rank = r) && decide (x.v.key = key)) = false := by simpa using hp
        rw [hp'] at HSY
        rw [if_neg hp] at HNX
        clear hp hp'
        go_wp2_with fail
        refine (HSY.out _).mono ?_
        rintro e w2 ⟨rfl, hb2⟩
        have HB2 := Lib.hid (below_next HB.out hb2 HB.out.size)
        have HO2 := Lib.hid (HO.out.below hb2)
        clear hb2
        go_wp2_with fail
        go_roundw
        case rel => exact ⟨A', n', c', k + 1, HLT.out, rfl, by go_num, by rw [HNX.out]; exact HO2.out, HB2.out⟩
        case measure => have := HLT.out; simp [intOf]; omega
    · have HE := Lib.hid (show xs.take k = xs from List.take_of_length_le (by have := HL.out; omega))
      have HO := Lib.hid ho
      have HB := Lib.hid hb
      clear ho hb
      go_wp2_with fail
      go_ret
      exact ⟨A', n', c', rfl, by have := HO.out; rw [HE.out] at this; exact this, HB.out⟩
theorem have_any (r : Int) (K : Option Addr) (kn kc : Nat) (key : List UInt8) (F : Nat → Prop) (g : Nat) (N : Int) (vs : List Vo) (w : World) (h : Tl w F g N vs) (hk : Rd w K kn (key.map bv)) :
    Calls Try.prog 27 #[.pointer (some ⟨g, 0, none⟩), .int .i64 r, .slice K kn kc] w (FreshI (tyHaves vs r key) w) := by
  obtain ⟨hgd, xs, A, n, c, h, rfl⟩ := h
  have := hgd.len
  rw [vcHaves_v]
  exact have_at r K kn kc key F g N xs A n c w h (by simpa using this) hk
end Go.Proofs.Ytckmjpbkcpmdpaa
