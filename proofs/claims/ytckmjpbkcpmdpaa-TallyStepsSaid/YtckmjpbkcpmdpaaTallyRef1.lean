/-
  The document's own tally in memory; with, Have. Walks; no statement.
-/
import Derived.Test.YtckmjpbkcpmdpaaTallyRefPlain
import Derived.Test.YtckmjpbkcpmdpaaTallyDev2
namespace Go.Proofs.Ytckmjpbkcpmdpaa
open Go.RowKit
set_option linter.unusedVariables false
set_option maxRecDepth 100000

def vrc : List Vr → List Value
  | [] => []
  | x :: r => .bool x.has :: .int .i64 x.rank :: .slice x.ka x.kn x.kc :: .slice x.la x.ln x.lc :: vrc r
theorem vrc_append (a b : List Vr) : vrc (a ++ b) = vrc a ++ vrc b := by
  induction a with
  | nil => rfl
  | cons x r ih => simp [vrc, ih]
theorem vrc_len (l : List Vr) : (vrc l).length = l.length * 4 := by
  induction l with
  | nil => rfl
  | cons x r ih => simp only [vrc, List.length_cons, ih]; omega
theorem vrc_at : ∀ (l : List Vr) (k : Nat) (x : Vr), l[k]? = some x → (vrc l)[k * 4]? = some (.bool x.has) ∧ (vrc l)[k * 4 + 1]? = some (.int .i64 x.rank) ∧ (vrc l)[k * 4 + 2]? = some (.slice x.ka x.kn x.kc) ∧ (vrc l)[k * 4 + 3]? = some (.slice x.la x.ln x.lc)
  | [], k, a, h => by simp at h
  | x :: r, 0, a, h => by obtain rfl := Option.some.inj h; exact ⟨rfl, rfl, rfl, rfl⟩
  | x :: r, k + 1, a, h => by
    have := vrc_at r k a h
    rw [show (k + 1) * 4 = k * 4 + 1 + 1 + 1 + 1 by omega]
    exact this
theorem one_vrc (l : List Vr) : ∀ v ∈ vrc l, v.oneCell' = true := by
  induction l with
  | nil => intro v h; cases h
  | cons x r ih =>
    intro v h
    simp only [vrc, List.mem_cons] at h
    rcases h with rfl | rfl | rfl | rfl | h
    · rfl
    · rfl
    · rfl
    · rfl
    · exact ih v h
def OwnVr (w : World) (base : Nat) (A : Option Addr) (n c : Nat) (l : List Vr) : Prop := w.ownsRow base 53 4 (.slice A n c) n (vrc l)
section
variable {w w' : World} {base : Nat} {A : Option Addr} {n c : Nat} {l : List Vr}
theorem OwnVr.len (h : OwnVr w base A n c l) : l.length = n := by have := h.1; rw [vrc_len] at this; omega
theorem OwnVr.below (h : OwnVr w base A n c l) (hb : Below w.heap.size w w') : OwnVr w' base A n c l :=
  World.ownsRow.kept h (grown_of_below hb none) (by cases (Value.slice A n c).ownBlock <;> simp)
/-- the cells of a vote in a row -/
theorem OwnVr.at_ (h : OwnVr w base A n c l) {k : Nat} {x : Vr} (hk : l[k]? = some x) :
    ∃ g, A = some ⟨g, 0, none⟩ ∧ g < w.heap.size ∧ w.cell? ⟨g, k * 4, none⟩ = some (.bool x.has) ∧ w.cell? ⟨g, k * 4 + 1, none⟩ = some (.int .i64 x.rank) ∧
      w.cell? ⟨g, k * 4 + 2, none⟩ = some (.slice x.ka x.kn x.kc) ∧ w.cell? ⟨g, k * 4 + 3, none⟩ = some (.slice x.la x.ln x.lc) := by
  have hl := h.len
  have hkn : k < n := by have := (List.getElem?_eq_some_iff.1 hk).1; omega
  obtain ⟨g, cap, hv, _, hlt⟩ := World.ownsRow.form h (by omega)
  injection hv with hA _ _
  subst hA
  obtain ⟨h0, h1, h2, h3⟩ := vrc_at l k x hk
  have c0 := World.ownsRow.cells h (g := g) rfl _ _ h0
  have c1 := World.ownsRow.cells h (g := g) rfl _ _ h1
  have c2 := World.ownsRow.cells h (g := g) rfl _ _ h2
  have c3 := World.ownsRow.cells h (g := g) rfl _ _ h3
  rw [at_add] at c0 c1 c2 c3
  exact ⟨g, rfl, hlt, by simpa using c0, by simpa using c1, by simpa using c2, by simpa using c3⟩
end
/-- the document's tally (A, n, c) holds these votes; all its blocks are of G -/
structure RefAt (w : World) (G : Nat → Prop) (A : Option Addr) (n c : Nat) (xs : List Vr) : Prop where
  row : OwnVr w 0 A n c xs
  frow : ∀ b, (Value.slice A n c).ownBlock = some b → G b
  rds : ∀ x ∈ xs, Rd w x.ka x.kn (x.key.map bv) ∧ Rd w x.la x.ln (x.load.map bv)
  far : ∀ x ∈ xs, ∀ a, x.ka = some a ∨ x.la = some a → G a.block
  lt : ∀ i, G i → i < w.heap.size
def RefM (w : World) (G : Nat → Prop) (A : Option Addr) (n c : Nat) (N : Int) (vs : List Vo) : Prop := TyGood N vs ∧ ∃ xs, RefAt w G A n c xs ∧ RefOf N vs xs
section
variable {w w' : World} {F G : Nat → Prop} {A : Option Addr} {n c : Nat} {xs : List Vr} {N : Int} {vs : List Vo}
theorem RefAt.keep (h : RefAt w G A n c xs) (hc : Chg F w w') (hd : ∀ i, G i → ¬ F i) : RefAt w' G A n c xs :=
  ⟨hc.owns h.row (fun k hk => hd _ (h.frow k hk)), h.frow, fun x hx => ⟨hc.rd (h.rds x hx).1 (fun a e _ => hd _ (h.far x hx a (.inl e))), hc.rd (h.rds x hx).2 (fun a e _ => hd _ (h.far x hx a (.inr e)))⟩, h.far, fun i hi => Nat.lt_of_lt_of_le (h.lt i hi) hc.size⟩
theorem RefAt.kept (h : RefAt w G A n c xs) (hb : Below w.heap.size w w') : RefAt w' G A n c xs := h.keep (Chg.of_below (fun _ => False) hb) (fun _ _ => id)
theorem RefM.keep (h : RefM w G A n c N vs) (hc : Chg F w w') (hd : ∀ i, G i → ¬ F i) : RefM w' G A n c N vs := by
  obtain ⟨hg, xs, h1, h2⟩ := h
  exact ⟨hg, xs, h1.keep hc hd, h2⟩
theorem RefM.kept (h : RefM w G A n c N vs) (hb : Below w.heap.size w w') : RefM w' G A n c N vs := h.keep (Chg.of_below (fun _ => False) hb) (fun _ _ => id)
theorem RefM.lt (h : RefM w G A n c N vs) : ∀ i, G i → i < w.heap.size := by
  obtain ⟨_, xs, h1, _⟩ := h
  exact h1.lt
end
def vrHaves (l : List Vr) (r : Int) (k : List UInt8) : List Int := ((vrs 0 l).filter fun u => decide (u.rank = r) && decide (u.key = k)).map (·.voter)
theorem vrHaves_next (xs : List Vr) (r : Int) (k : List UInt8) (j : Nat) (x : Vr) (h : xs[j]? = some x) :
    vrHaves (xs.take (j + 1)) r k = if x.has = true ∧ x.rank = r ∧ x.key = k then vrHaves (xs.take j) r k ++ [(j : Int)] else vrHaves (xs.take j) r k := by
  unfold vrHaves
  rw [vrs_next xs j x h, List.filter_append, List.map_append]
  by_cases e : x.has = true ∧ x.rank = r ∧ x.key = k
  · rw [if_pos e, if_pos e.1]; simp [Vr.vo, e.2.1, e.2.2]
  · rw [if_neg e]
    by_cases e1 : x.has = true
    · rw [if_pos e1]
      have e2 : ¬ (x.rank = r ∧ x.key = k) := fun q => e ⟨e1, q⟩
      have e3 : (decide ((x.vo j).rank = r) && decide ((x.vo j).key = k)) = false := by
        by_cases q : x.rank = r
        · have q2 : ¬ x.key = k := fun q2 => e2 ⟨q, q2⟩
          simp [Vr.vo, q2]
        · simp [Vr.vo, q]
      simp [e3]
    · rw [if_neg e1]; simp
theorem vrHaves_len (xs : List Vr) (j : Nat) (r : Int) (k : List UInt8) : (vrHaves (xs.take j) r k).length ≤ j := by
  unfold vrHaves
  rw [List.length_map]
  refine Nat.le_trans (List.length_filter_le _ _) ?_
  have h : ∀ (i : Nat) (l : List Vr), (vrs i l).length ≤ l.length := by
    intro i l
    induction l generalizing i with
    | nil => simp [vrs]
    | cons y r ih => rw [vrs_cons]; split <;> (have := ih (i + 1); simp only [List.length_cons]; omega)
  exact Nat.le_trans (h 0 _) (by rw [List.length_take]; omega)
set_option maxHeartbeats 3200000 in
theorem refWith_at (hb0 : Bool) (r : Int) (K : Option Addr) (kn kc : Nat) (key : List UInt8) (L : Option Addr) (ln lc : Nat) (G : Nat → Prop) (A : Option Addr) (n c : Nat) (xs : List Vr) (w : World) (h : RefAt w G A n c xs) (hn64 : n ≤ 64) (hrg : ∀ x ∈ xs, x.key.length ≤ 1099511627776) (hk : Rd w K kn (key.map bv)) :
    Calls Try.prog 35 #[.agg #[.slice A n c], .agg #[.bool hb0, .int .i64 r, .slice K kn kc, .slice L ln lc]] w (FreshI (vrHaves xs r key) w) := by
  obtain ⟨i0, hi, hz0, hz1, hz2⟩ := info_parts info_int
  have hl := h.row.len
  have HT := Lib.hid h
  have HK := Lib.hid hk
  have HL := Lib.hid hl
  have HRG := Lib.hid hrg
  have k1 := (Bk.new w 29 [.slice A n c]).alloc (.cells #[.bool hb0, .int .i64 r, .slice K kn kc, .slice L ln lc] 53)
  have k2 := bk_new2 w (.cells #[.slice A n c] 29) [.bool hb0, .int .i64 r, .slice K kn kc, .slice L ln lc] 53
  have hb2 := ((Below.refl w.heap.size w).alloc (Nat.le_refl _) (.cells #[.slice A n c] 29)).alloc (by simp) (.cells #[.bool hb0, .int .i64 r, .slice K kn kc, .slice L ln lc] 53)
  have k1' := k1.alloc (.cells #[] 3)
  have k2' := k2.alloc (.cells #[] 3)
  have hb3 := hb2.alloc hb2.size (.cells #[] 3)
  have ho3 := OwnI.empty ((w.alloc (.cells #[.slice A n c] 29)).alloc (.cells #[.bool hb0, .int .i64 r, .slice K kn kc, .slice L ln lc] 53))
  have HST := Lib.hid (And.intro k1' (And.intro k2' (And.intro hb3 (show OwnI _ (w.heap.size + 2) (some ⟨w.heap.size + 1 + 1, 0, none⟩) 0 0 [] by simpa using ho3))))
  clear h hk hl hrg k1 k2 hb2 k1' k2' hb3 ho3
  go_enter Try.func35, Try.ntmps35
  go_wp2_with fail
  go_loopw [5, 6, 7] (fun s i _ wr => ∃ (A' : Option Addr) (n' c' k : Nat), k ≤ n ∧ s = .slice A' n' c' ∧ i = .int .i64 k ∧ OwnI wr (w.heap.size + 2) A' n' c' (vrHaves (xs.take k) r key) ∧ Below w.heap.size w wr ∧ Bk wr w.heap.size 29 [.slice A n c] ∧ Bk wr (w.heap.size + 1) 53 [.bool hb0, .int .i64 r, .slice K kn kc, .slice L ln lc]) (fun _ i _ _ => n - (intOf i).toNat)
  case atStart => exact ⟨some ⟨w.heap.size + 1 + 1, 0, none⟩, 0, 0, 0, by omega, rfl, rfl, HST.out.2.2.2, HST.out.2.2.1, HST.out.1, HST.out.2.1⟩
  case round =>
    obtain ⟨A', n', c', k, hk, rfl, rfl, ho, hb, kt, kv⟩ := hrel
    have hs := hb.size
    have t0 := kt.at_ (i := 0) rfl
    have lt0 := kt.lt
    have lv0 := kv.lt
    by_cases hlt : k < n
    · have hkx : k < xs.length := by have := HL.out; omega
      have hx : xs[k]? = some xs[k] := List.getElem?_eq_getElem hkx
      have hmem : xs[k] ∈ xs := List.getElem_mem _
      have HNX := Lib.hid (vrHaves_next xs r key k _ hx)
      have hT := HT.out.kept hb
      obtain ⟨g', rfl, hb', c0, c1, c2, c3⟩ := hT.row.at_ hx
      have hn' : n' ≤ 64 := by have e1 := ho.len; have e2 := vrHaves_len xs k r key; omega
      have HRX := Lib.hid (hT.rds _ hmem).1
      have HSB := Lib.hid (fun o => sameBytes_any xs[k].ka K xs[k].kn kn xs[k].kc kc (wr.alloc o) xs[k].key key ((hT.rds _ hmem).1.alloc o) ((HK.out.below hb).alloc o) (by have h1 := (hT.rds _ hmem).1.1; have h2 := HRG.out _ hmem; rw [List.length_map] at h1; simp only [maxLen]; omega))
      generalize xs[k] = x at *
      have y1 : (0 : Int) ≤ (k : Int) := by omega
      have y2 : (k : Int) < (n : Int) := by omega
      have w1 : IntKind.i64.wrap ((k : Int) + 1) = (k : Int) + 1 := by simp only [IntKind.wrap, IntKind.bits, IntKind.signed]; simp; omega
      obtain ⟨_, v1, v2, _⟩ := kv.four
      have HO := Lib.hid (ho.below ((Below.refl wr.heap.size wr).alloc (Nat.le_refl _) (.cells #[.bool x.has, .int .i64 x.rank, .slice x.ka x.kn x.kc, .slice x.la x.ln x.lc] 53)))
      have HB := Lib.hid (hb.alloc hb.size (.cells #[.bool x.has, .int .i64 x.rank, .slice x.ka x.kn x.kc, .slice x.la x.ln x.lc] 53))
      have HKT := Lib.hid (kt.alloc (.cells #[.bool x.has, .int .i64 x.rank, .slice x.ka x.kn x.kc, .slice x.la x.ln x.lc] 53))
      have HKV := Lib.hid (kv.alloc (.cells #[.bool x.has, .int .i64 x.rank, .slice x.ka x.kn x.kc, .slice x.la x.ln x.lc] 53))
      have HLT := Lib.hid hlt
      clear hT ho hb kt kv hx hmem hkx hlt
      have hsk : (x.has = true ∧ x.rank = r) ∨ (x.has = true ∧ x.rank ≠ r) ∨ x.has = false := by
        cases x.has with
        | false => exact .inr (.inr rfl)
        | true => by_cases q : x.rank = r
                  · exact .inl ⟨rfl, q⟩
                  · exact .inr (.inl ⟨rfl, q⟩)
      rcases hsk with ⟨hh, hr⟩ | ⟨hh, hr⟩ | hh
      · have d1 : (x.rank == r) = true := by simp [hr]
        rw [hh] at c0
        by_cases hq : x.key = key
        · have hd : decide (x.key = key) = true := by simp [hq]
          rw [hd] at HSB
          rw [if_pos ⟨hh, hr, hq⟩] at HNX
          rw [hh] at HO HB HKT HKV
          clear hd hq hr hh
          go_wp2_with fail
          refine (HSB.out _).mono ?_
          rintro e w2 ⟨rfl, q2, rfl⟩
          have HO2 := Lib.hid (show OwnI _ _ _ _ _ _ from HO.out.below (below_drewN (Below.refl _ _) q2))
          have HB2 := Lib.hid (below_drewN HB.out q2)
          have HKT2 := Lib.hid (HKT.out.drewN q2)
          have HKV2 := Lib.hid (HKV.out.drewN q2)
          generalize hW2 : (wr.alloc (.cells #[.bool true, .int .i64 x.rank, .slice x.ka x.kn x.kc, .slice x.la x.ln x.lc] 53)).drewN q2 = W2 at HO2 HB2 HKT2 HKV2 ⊢
          have hs2 := HB2.out.size
          have lt2 := HKV2.out.lt
          clear hW2
          go_wp2_with (at_builtin
                       refine wpList_append_rd _ rfl _ _ 39 rfl (w.heap.size + 2) 3 i0 _ 8 Try.underlying39 hi hz0 hz1 hz2 rfl A' n' c' ((vrHaves (xs.take k) r key).map iv) rfl (World.ownsRow.alloc HO2.out _) (some ⟨W2.heap.size, 0, none⟩) 1 1 [.int .i64 (k : Int)] rfl
                         (Rd.new W2 [.int .i64 (k : Int)] 3) (by simp [Value.oneCell']) (by simp only [maxLen]; omega) (by omega) (by simp; omega) ?_
                       intro A4 c4 w4 hown4 hg4 hrow4)
          have HO4 := Lib.hid (show OwnI w4 (w.heap.size + 2) A4 (n' + 1) c4 (vrHaves (xs.take (k + 1)) r key) by
            rw [HNX.out]
            unfold OwnI
            rw [List.map_append]
            exact hown4)
          have b4 := HB2.out.alloc HB2.out.size (.cells #[.int .i64 (k : Int)] 3)
          have HB4 := Lib.hid (b4.grown hg4 b4.size (fun g hg => by have := OwnI.block HO2.out g hg; omega))
          have HT4 := Lib.hid ((HKT2.out.alloc (.cells #[.int .i64 (k : Int)] 3)).grown hg4 (fun e => by have := OwnI.block HO2.out _ e.symm; omega))
          have HV4 := Lib.hid ((HKV2.out.alloc (.cells #[.int .i64 (k : Int)] 3)).grown hg4 (fun e => by have := OwnI.block HO2.out _ e.symm; omega))
          clear hown4 hg4 hrow4 b4
          go_roundw
          case rel => exact ⟨A4, n' + 1, c4, k + 1, HLT.out, rfl, by go_num, HO4.out, HB4.out, HT4.out, HV4.out⟩
          case measure => have := HLT.out; simp [intOf]; omega
        · have hd : decide (x.key = key) = false := by simp [hq]
          rw [hd] at HSB
          rw [if_neg (fun q => hq q.2.2)] at HNX
          rw [hh] at HO HB HKT HKV
          clear hd hq hr hh
          go_wp2_with fail
          refine (HSB.out _).mono ?_
          rintro e w2 ⟨rfl, q2, rfl⟩
          go_wp2_with fail
          go_roundw
          case rel => exact ⟨A', n', c', k + 1, HLT.out, rfl, by go_num, by rw [HNX.out]; exact HO.out.below (below_drewN (Below.refl _ _) q2), below_drewN HB.out q2, HKT.out.drewN q2, HKV.out.drewN q2⟩
          case measure => have := HLT.out; simp [intOf]; omega
      · have d1 : (x.rank == r) = false := by simp [hr]
        rw [hh] at c0
        rw [if_neg (fun q => hr q.2.1)] at HNX
        rw [hh] at HO HB HKT HKV
        clear hr hh HSB
        go_wp2_with fail
        go_roundw
        case rel => exact ⟨A', n', c', k + 1, HLT.out, rfl, by go_num, by rw [HNX.out]; exact HO.out, HB.out, HKT.out, HKV.out⟩
        case measure => have := HLT.out; simp [intOf]; omega
      · rw [hh] at c0
        rw [if_neg (fun q => by rw [hh] at q; exact absurd q.1 (by simp))] at HNX
        rw [hh] at HO HB HKT HKV
        clear hh HSB
        go_wp2_with fail
        go_roundw
        case rel => exact ⟨A', n', c', k + 1, HLT.out, rfl, by go_num, by rw [HNX.out]; exact HO.out, HB.out, HKT.out, HKV.out⟩
        case measure => have := HLT.out; simp [intOf]; omega
    · have HE := Lib.hid (show xs.take k = xs from List.take_of_length_le (by have := HL.out; omega))
      have HO := Lib.hid ho
      have HB := Lib.hid hb
      clear ho hb kt kv
      go_wp2_with fail
      go_ret
      exact ⟨A', n', c', rfl, by have := HO.out; rw [HE.out] at this; exact this.more (by omega), HB.out⟩
end Go.Proofs.Ytckmjpbkcpmdpaa
