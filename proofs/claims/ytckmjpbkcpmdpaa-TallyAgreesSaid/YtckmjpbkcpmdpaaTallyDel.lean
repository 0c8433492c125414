/-
  tally: a voter's votes are taken out of a row (DeleteFunc). A walk; no statement.
-/
import Derived.Test.YtckmjpbkcpmdpaaTallyDev1
namespace Go.Proofs.Ytckmjpbkcpmdpaa
open Go.RowKit Go.Sort Go.Shelf
set_option linter.unusedVariables false
set_option maxRecDepth 100000

/-- the cells of m votes of nothing -/
def zvotes (m : Nat) : List Value := (Builtin.zeroCells #[.int .i64 0, .int .i64 0, .slice none 0 0, .slice none 0 0] m).toList
theorem zvotes_len (m : Nat) : (zvotes m).length = m * 4 := by simp [zvotes, Builtin.zeroCells]
theorem run_clear_votes (w : World) (ty t : TypeId) (b o m c : Nat) (cs : List Value) (hb : Bk w b t cs) (hfit : o + m * 4 ≤ cs.length) (hm : 0 < m) :
    (Builtin.clear_ #[49] ty #[.slice (some ⟨b, o, none⟩) m c]).run Try.prog w = .ok (.tuple #[]) (w.setCells b o (zvotes m)) := by
  have hst := run_storeCells_cells (P := Try.prog) b o (zvotes m) 0 w (fun j hj => by
      rw [zvotes_len] at hj
      rw [Nat.add_zero, hb.cell, List.getElem?_eq_getElem (by omega)]; rfl) (fun j hj => hb.frozen _) (by
      intro v hv
      unfold zvotes at hv
      simp only [Builtin.zeroCells, Array.toList_map, List.mem_map, Array.mem_toList_iff] at hv
      obtain ⟨i, _, rfl⟩ := hv
      have hi : i % 4 < 4 := Nat.mod_lt _ (by omega)
      show Value.oneCell' (#[Value.int .i64 0, .int .i64 0, .slice none 0 0, .slice none 0 0][i % 4]!) = true
      rcases (show i % 4 = 0 ∨ i % 4 = 1 ∨ i % 4 = 2 ∨ i % 4 = 3 by omega) with h | h | h | h <;> rw [h] <;> rfl)
  obtain ⟨k, rfl⟩ : ∃ k, m = k + 1 := ⟨m - 1, by omega⟩
  have hz := fun w => Try.zeroValue55 w
  have hu := run_underlying (P := Try.prog) Try.underlying49
  unfold zvotes at hst ⊢
  simp only [Nat.add_zero] at hst
  simp [Builtin.clear_, hu, hz, Value.cells, hst]
theorem vcc_set (l : List Vc) (x : Vc) : ∀ (i : Nat), i < l.length → ((((vcc l).set (i * 4) (.int .i64 x.v.voter)).set (i * 4 + 1) (.int .i64 x.v.rank)).set (i * 4 + 2) (.slice x.ka x.kn x.kc)).set (i * 4 + 3) (.slice x.la x.ln x.lc) = vcc (l.set i x) := by
  induction l with
  | nil => intro i h; simp at h
  | cons y r ih =>
    intro i h
    cases i with
    | zero => rfl
    | succ i =>
      rw [show (i + 1) * 4 = i * 4 + 1 + 1 + 1 + 1 by omega]
      have := ih i (by simpa using h)
      simp only [vcc, List.set_cons_succ, show i * 4 + 1 + 1 + 1 + 1 + 1 = (i * 4 + 1) + 1 + 1 + 1 + 1 by omega, show i * 4 + 1 + 1 + 1 + 1 + 2 = (i * 4 + 2) + 1 + 1 + 1 + 1 by omega, show i * 4 + 1 + 1 + 1 + 1 + 3 = (i * 4 + 3) + 1 + 1 + 1 + 1 by omega]
      rw [this]
/-- all but a voter's -/
def vcOthers (a : Int) (xs : List Vc) : List Vc := xs.filter fun x => decide (x.v.voter ≠ a)
theorem vcOthers_next (xs : List Vc) (a : Int) (j : Nat) (x : Vc) (h : xs[j]? = some x) : vcOthers a (xs.take (j + 1)) = if x.v.voter = a then vcOthers a (xs.take j) else vcOthers a (xs.take j) ++ [x] := by
  obtain ⟨hj, hx⟩ := List.getElem?_eq_some_iff.1 h
  unfold vcOthers
  rw [take_snoc xs j hj, hx, List.filter_append]
  by_cases e : x.v.voter = a
  · rw [if_pos e]; simp [e]
  · rw [if_neg e]; simp [e]
theorem vcOthers_len (xs : List Vc) (a : Int) : (vcOthers a xs).length ≤ xs.length := List.length_filter_le _ _
theorem vcOthers_v (xs : List Vc) (a : Int) : tyOthers a (xs.map (·.v)) = (vcOthers a xs).map (·.v) := by
  unfold tyOthers vcOthers
  rw [List.filter_map]; rfl
/-- how the loop stands: the first i are those that are kept of the first j, from j on all is as it was -/
def DelR (w : World) (g : Nat) (xs : List Vc) (rest : List Value) (a : Int) (i j : Nat) (wr : World) : Prop :=
  ∃ cur : List Vc, cur.length = xs.length ∧ i = (vcOthers a (xs.take j)).length ∧ i < j ∧ j ≤ xs.length ∧ cur.take i = vcOthers a (xs.take j) ∧ cur.drop j = xs.drop j ∧ Bk wr g 55 (vcc cur ++ rest) ∧ w.grownBy wr (some g)
set_option maxHeartbeats 3200000 in
theorem delete_votes (a : Int) (B : Nat) (A : Option Addr) (n c : Nat) (xs : List Vc) (w : World) (ho : OwnV w 0 A n c xs) (hB : w.cell? ⟨B, 0, none⟩ = some (.int .i64 a)) (hBl : B < w.heap.size) (hne : ∀ b, (Value.slice A n c).ownBlock = some b → b ≠ B) :
    Calls Try.prog 30 #[.slice A n c, .func (.func 31) #[] #[.pointer (some ⟨B, 0, none⟩)]] w fun e w' =>
      ∃ n', e = .returned (.slice A n' c) ∧ OwnV w' 0 A n' c (vcOthers a xs) ∧ w.grownBy w' (Value.slice A n c).ownBlock := by
  have hl := ho.len
  have HIX := Lib.hid (index_votes 31 #[.pointer (some ⟨B, 0, none⟩)] (fun x => decide (x.v.voter = a)) enters_put 0 A n c xs w ho (pred_put a B w hBl hB))
  have HO := Lib.hid ho
  rcases idx_known2 xs a with ⟨h1, h2⟩ | ⟨k, x0, hx0, h1, h2, h3⟩
  · rw [h1] at HIX
    have HN := Lib.hid (show vcOthers a xs = xs from List.filter_eq_self.2 fun x hx => by
      have := List.find?_eq_none.1 h2 x hx
      simpa using this)
    clear ho hB h1 h2
    go_enter Try.func30, Try.ntmps30
    go_wp2_with fail
    refine HIX.out.mono ?_
    rintro e w2 ⟨rfl, hb2⟩
    have HB2 := Lib.hid hb2
    clear hb2
    go_wp2_with fail
    go_ret
    exact ⟨n, rfl, by rw [HN.out]; exact HO.out.below HB2.out, grown_of_below HB2.out _⟩
  · rw [h1] at HIX
    have hkl := (List.getElem?_eq_some_iff.1 hx0).1
    obtain ⟨g, rfl, _, hnc, hcm, rest, hbk, hbl⟩ := ownV_at ho (by omega)
    have hgB : g ≠ B := hne g rfl
    have HGB := Lib.hid hgB
    have HBK := Lib.hid hbk
    have HBL := Lib.hid hbl
    have HCM := Lib.hid (And.intro hnc hcm)
    have HL := Lib.hid hl
    have HBC := Lib.hid (And.intro hBl hB)
    simp only [maxLen] at hcm
    -- ahead of the first that goes, all are kept
    have HST := Lib.hid (show ∀ W, w.grownBy W (some g) → Bk W g 55 (vcc xs ++ rest) → DelR w g xs rest a k (k + 1) W from fun W hW hK => by
      have hk1 : vcOthers a (xs.take k) = xs.take k := List.filter_eq_self.2 fun x hx => by
        obtain ⟨i, hi, rfl⟩ := List.mem_take_iff_getElem.1 hx
        have := h3 i _ (by omega) (List.getElem?_eq_getElem (by omega))
        simpa using this
      have hk2 := vcOthers_next xs a k x0 hx0
      rw [if_pos (known_in h2).2, hk1] at hk2
      exact ⟨xs, rfl, by rw [hk2, List.length_take]; omega, by omega, by omega, hk2.symm, rfl, hK, hW⟩)
    have y0 : (k : Int) < (n : Int) := by omega
    have hn63 : n ≤ 9223372036854775807 := by omega
    have yk : IntKind.i64.wrap ((k : Int) + 1) = (k : Int) + 1 := by simp only [IntKind.wrap, IntKind.bits, IntKind.signed]; simp; omega
    clear ho hB hbk hbl h2 hx0 hne hBl hgB h1 h3 hkl hnc
    go_enter Try.func30, Try.ntmps30
    go_wp2_with fail
    refine HIX.out.mono ?_
    rintro e w2 ⟨rfl, hb2⟩
    have HS2 := Lib.hid (HST.out w2 (grown_of_below hb2 _) (HBK.out.kept hb2))
    clear hb2
    have y1 : ((k : Int) == -1) = false := beq_eq_false_iff_ne.2 (by omega)
    go_wp2_with fail
    go_loopw [5, 6, 7] (fun s5 s6 _ wr => ∃ (i j : Nat), s5 = .int .i64 i ∧ s6 = .int .i64 j ∧ DelR w g xs rest a i j wr) (fun _ s6 _ _ => n - (intOf s6).toNat)
    case atStart => exact ⟨k, k + 1, rfl, by go_num, HS2.out⟩
    case round =>
      obtain ⟨i, j, rfl, rfl, cur, hcl, hi, hij, hjl, htk, hdr, hkb, hgr⟩ := hrel
      have hrow : OwnV wr 0 (some ⟨g, 0, none⟩) n c cur := ownV_back hkb (by rw [List.length_append, vcc_len, hcl, ← vcc_len, ← List.length_append]; exact HBL.out) (Nat.zero_le _) (by have := HL.out; omega) HCM.out.1 HCM.out.2
      by_cases hlt : j < n
      · have hjx : j < xs.length := by have := HL.out; omega
        have hx : xs[j]? = some xs[j] := List.getElem?_eq_getElem hjx
        have hcx : cur[j]? = some xs[j] := by
          have e1 : (cur.drop j)[0]? = (xs.drop j)[0]? := by rw [hdr]
          rw [List.getElem?_drop, List.getElem?_drop, Nat.add_zero] at e1
          rw [e1]; exact hx
        have HNX := Lib.hid (vcOthers_next xs a j _ hx)
        obtain ⟨_, eg, hgl, c0, c1, c2, c3⟩ := hrow.at_ hcx
        obtain ⟨rfl⟩ : g = _ := by injection eg with eg; injection eg
        have hix : i < cur.length := by omega
        have KB := Bk.new wr 55 (vc1 xs[j])
        have HDR := Lib.hid (show cur.drop (j + 1) = xs.drop (j + 1) by
          have e1 : (cur.drop j).drop 1 = (xs.drop j).drop 1 := by rw [hdr]
          rw [List.drop_drop, List.drop_drop] at e1
          exact e1)
        generalize xs[j] = x at *
        have HP := Lib.hid (show Calls Try.prog 31 #[.agg #[.int .i64 x.v.voter, .int .i64 x.v.rank, .slice x.ka x.kn x.kc, .slice x.la x.ln x.lc], .pointer (some ⟨B, 0, none⟩)] (wr.alloc (.cells #[.int .i64 x.v.voter, .int .i64 x.v.rank, .slice x.ka x.kn x.kc, .slice x.la x.ln x.lc] 55)) (fun e w' => e = .returned (.bool (decide (x.v.voter = a))) ∧ Below (wr.alloc (.cells #[.int .i64 x.v.voter, .int .i64 x.v.rank, .slice x.ka x.kn x.kc, .slice x.la x.ln x.lc] 55)).heap.size (wr.alloc (.cells #[.int .i64 x.v.voter, .int .i64 x.v.rank, .slice x.ka x.kn x.kc, .slice x.la x.ln x.lc] 55)) w') from
          pred_put a B _ (by have := hgr.size; have := HBC.out.1; simp; omega) (by
            have e1 := World.cell?_of_block (w := w) (w' := wr.alloc (.cells #[.int .i64 x.v.voter, .int .i64 x.v.rank, .slice x.ka x.kn x.kc, .slice x.la x.ln x.lc] 55)) (a := ⟨B, 0, none⟩) ((heap_alloc_old wr _ (Nat.lt_of_lt_of_le HBC.out.1 hgr.size)).trans (hgr.block B HBC.out.1 (fun e => HGB.out (by injection e with e; exact e.symm))))
            rw [e1]; exact HBC.out.2) _ x (Below.refl _ _))
        have HKB := Lib.hid (show Bk (wr.alloc (.cells #[.int .i64 x.v.voter, .int .i64 x.v.rank, .slice x.ka x.kn x.kc, .slice x.la x.ln x.lc] 55)) wr.heap.size 55 [.int .i64 x.v.voter, .int .i64 x.v.rank, .slice x.ka x.kn x.kc, .slice x.la x.ln x.lc] from KB)
        have HKR := Lib.hid (hkb.alloc (.cells #[.int .i64 x.v.voter, .int .i64 x.v.rank, .slice x.ka x.kn x.kc, .slice x.la x.ln x.lc] 55))
        have HGR := Lib.hid (grown_alloc hgr (.cells #[.int .i64 x.v.voter, .int .i64 x.v.rank, .slice x.ka x.kn x.kc, .slice x.la x.ln x.lc] 55))
        have HI := Lib.hid (And.intro hi (And.intro htk (And.intro hcl (And.intro hij hjx))))
        have HHX := Lib.hid hx
        have z1 : (0 : Int) ≤ (j : Int) := by omega
        have z2 : (j : Int) < (n : Int) := by omega
        have z3 : (0 : Int) ≤ (i : Int) := by omega
        have z4 : (i : Int) < (n : Int) := by omega
        have w1 : IntKind.i64.wrap ((j : Int) + 1) = (j : Int) + 1 := by simp only [IntKind.wrap, IntKind.bits, IntKind.signed]; simp; omega
        have w2' : IntKind.i64.wrap ((i : Int) + 1) = (i : Int) + 1 := by simp only [IntKind.wrap, IntKind.bits, IntKind.signed]; simp; omega
        clear hrow hkb hgr htk hdr hcl hi eg hcx hx KB hjx
        by_cases hp : x.v.voter = a
        · have hd : decide (x.v.voter = a) = true := by simp [hp]
          rw [hd] at HP
          rw [if_pos hp] at HNX
          clear hp hd
          go_wp2_with fail
          refine HP.out.mono ?_
          rintro e w3 ⟨rfl, hb3⟩
          have HKR3 := Lib.hid (HKR.out.kept hb3)
          have HGR3 := Lib.hid (grown_trans HGR.out (grown_of_below hb3 (some g)) (.inl rfl))
          clear hb3
          go_wp2_with fail
          go_roundw
          case rel => exact ⟨i, j + 1, rfl, by go_num, cur, HI.out.2.2.1, by rw [HNX.out]; exact HI.out.1, by have := HI.out.2.2.2.1; omega, HI.out.2.2.2.2, by rw [HNX.out]; exact HI.out.2.1, HDR.out, HKR3.out, HGR3.out⟩
          case measure => simp [intOf]; omega
        · have hd : decide (x.v.voter = a) = false := by simp [hp]
          rw [hd] at HP
          rw [if_neg hp] at HNX
          clear hp hd
          go_wp2_with fail
          refine HP.out.mono ?_
          rintro e w3 ⟨rfl, hb3⟩
          have HKR3 := Lib.hid (HKR.out.kept hb3)
          have hkb3 := HKB.out.kept hb3
          have HGR3 := Lib.hid (grown_trans HGR.out (grown_of_below hb3 (some g)) (.inl rfl))
          obtain ⟨k0, k1, k2, k3⟩ := hkb3.four
          have hrow3 : OwnV w3 0 (some ⟨g, 0, none⟩) n c cur := ownV_back HKR3.out (by rw [List.length_append, vcc_len, HI.out.2.2.1, ← vcc_len, ← List.length_append]; exact HBL.out) (Nat.zero_le _) (by have := HL.out; have := HI.out.2.2.1; omega) HCM.out.1 HCM.out.2
          obtain ⟨_, eg, hgl3, d0, d1, d2, d3⟩ := hrow3.at_ (List.getElem?_eq_getElem hix)
          obtain ⟨rfl⟩ : g = _ := by injection eg with eg; injection eg
          have f0 := HKR3.out.frozen (i * 4)
          have f1 := HKR3.out.frozen (i * 4 + 1)
          have f2 := HKR3.out.frozen (i * 4 + 2)
          have f3 := HKR3.out.frozen (i * 4 + 3)
          clear hb3 hkb3 hrow3 eg c0 c1 c2 c3
          generalize cur[i] = y at *
          go_wp2_with fail
          have HFIN := Lib.hid (show Bk ((((w3.setCell ⟨g, i * 4, none⟩ (.int .i64 x.v.voter)).setCell ⟨g, i * 4 + 1, none⟩ (.int .i64 x.v.rank)).setCell ⟨g, i * 4 + 2, none⟩ (.slice x.ka x.kn x.kc)).setCell ⟨g, i * 4 + 3, none⟩ (.slice x.la x.ln x.lc)) g 55 (vcc (cur.set i x) ++ rest) from by
            have e1 := (((HKR3.out.set (i * 4) (.int .i64 x.v.voter)).set (i * 4 + 1) (.int .i64 x.v.rank)).set (i * 4 + 2) (.slice x.ka x.kn x.kc)).set (i * 4 + 3) (.slice x.la x.ln x.lc)
            have hlen : i * 4 + 3 < (vcc cur).length := by rw [vcc_len]; omega
            rw [List.set_append_left _ _ (by omega), List.set_append_left _ _ (by simp; omega), List.set_append_left _ _ (by simp; omega), List.set_append_left _ _ (by simp; omega), vcc_set cur x i hix] at e1
            exact e1)
          go_roundw
          case rel =>
            refine ⟨i + 1, j + 1, by go_num, by go_num, cur.set i x, by rw [List.length_set]; exact HI.out.2.2.1, by rw [HNX.out, List.length_append, ← HI.out.1]; rfl, by have := HI.out.2.2.2.1; omega, HI.out.2.2.2.2, ?_, ?_, HFIN.out, grown_set (grown_set (grown_set (grown_set HGR3.out _ _) _ _) _ _) _ _⟩
            · rw [HNX.out, ← HI.out.2.1, List.take_set, List.set_eq_take_append_cons_drop, if_pos (by simp; omega)]
              simp [List.take_take]
            · rw [List.drop_set_of_lt (by omega)]; exact HDR.out
          case measure => simp [intOf]; omega
      · obtain rfl : j = n := by have := HL.out; omega
        have htl : xs.take j = xs := List.take_of_length_le (by have := HL.out; omega)
        rw [htl] at htk hi
        have hfit : i * 4 + (j - i) * 4 ≤ (vcc cur ++ rest).length := by rw [List.length_append, vcc_len, hcl]; have := HL.out; omega
        have hcl2 : ∀ ty, (Builtin.clear_ #[49] ty #[.slice (some ⟨g, i * 4, none⟩) (j - i) (c - i)]).run Try.prog wr = .ok (.tuple #[]) (wr.setCells g (i * 4) (zvotes (j - i))) :=
          fun ty => run_clear_votes wr ty _ g (i * 4) (j - i) (c - i) _ hkb hfit (by omega)
        have HE := Lib.hid (show OwnV (wr.setCells g (i * 4) (zvotes (j - i))) 0 (some ⟨g, 0, none⟩) i c (vcOthers a xs) ∧ w.grownBy (wr.setCells g (i * 4) (zvotes (j - i))) (some g) from by
          have e1 := Bk.setCells (zvotes (j - i)) (i * 4) hkb (by rw [zvotes_len]; exact hfit)
          refine ⟨?_, grown_setCells _ _ hgr⟩
          have e2 : (vcc cur ++ rest).take (i * 4) = vcc (vcOthers a xs) := by
            have e3 : vcc cur = vcc (cur.take i) ++ vcc (cur.drop i) := by rw [← vcc_append, List.take_append_drop]
            rw [e3, htk, List.append_assoc, List.take_left' (by rw [vcc_len, hi])]
          rw [e2, List.append_assoc] at e1
          refine ownV_back e1 ?_ (Nat.zero_le _) hi.symm (by have := HCM.out.1; omega) HCM.out.2
          have e4 := HBL.out
          rw [List.length_append, vcc_len] at e4
          rw [List.length_append, List.length_append, vcc_len, zvotes_len, List.length_drop, List.length_append, vcc_len, hcl, ← hi]
          have := HL.out
          omega)
        have z6 : (i : Int) ≤ (c : Int) := by have := HCM.out.1; omega
        have z7 : ¬ c = 0 := by have := HCM.out.1; omega
        have z5 : ¬ c = i := by have := HCM.out.1; omega
        clear hrow hkb hgr htl htk hdr hcl hi
        have z1 : (i : Int) ≤ (j : Int) := by omega
        have z2 : (0 : Int) ≤ (i : Int) := by omega
        go_wp2_with fail
        go_ret
        exact ⟨i, rfl, HE.out⟩
end Go.Proofs.Ytckmjpbkcpmdpaa
