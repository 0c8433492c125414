/-
  The reference's Numbered. Walks; no statement.
-/
import Derived.Test.YtclnbggehefbeaaDoorPathRef3
import Derived.Handy
import Derived.Laws.IdiomStrings
namespace Go.Proofs.YtclnbggehefbeaaDoor
set_option maxRecDepth 100000
open Go.RowKit
set_option linter.unusedVariables false

/-- the five digits, cell by cell -/
theorem digit_cells (z : Int) (h0 : 0 ≤ z) : #[Value.int .u8 (48 + z / 10 / 10 / 10 / 10 % 10), .int .u8 (48 + z / 10 / 10 / 10 % 10), .int .u8 (48 + z / 10 / 10 % 10), .int .u8 (48 + z / 10 % 10), .int .u8 (48 + z % 10)] = ((digits5 z.toNat).map bv).toArray := by
  obtain ⟨u, rfl⟩ : ∃ u : Nat, z = u := ⟨z.toNat, by omega⟩
  have hd : ∀ (k : Nat) (y : Int), y % 10 = ((k % 10 : Nat) : Int) → Value.int .u8 (48 + y % 10) = bv (UInt8.ofNat (48 + k % 10)) := by
    intro k y h
    unfold bv
    rw [h]
    congr 1
    have : (UInt8.ofNat (48 + k % 10)).toNat = 48 + k % 10 := by
      rw [UInt8.toNat_ofNat']
      omega
    rw [this]
    omega
  rw [Int.toNat_natCast]
  unfold digits5
  simp only [List.map_cons, List.map_nil]
  rw [hd (u / 10000) _ (by omega), hd (u / 1000) _ (by omega), hd (u / 100) _ (by omega), hd (u / 10) _ (by omega), hd u _ (by omega)]
theorem digits_text (z : Int) (h0 : 0 ≤ z) (W : World) :
    (convert 49 9 (.slice (some ⟨W.heap.size, 0, none⟩) 5 5)).run Tryd.prog (W.alloc (.cells #[Value.int .u8 (48 + z / 10 / 10 / 10 / 10 % 10), .int .u8 (48 + z / 10 / 10 / 10 % 10), .int .u8 (48 + z / 10 / 10 % 10), .int .u8 (48 + z / 10 % 10), .int .u8 (48 + z % 10)] 5))
      = .ok (.string ⟨(digits5 z.toNat).toArray⟩) (W.alloc (.cells #[Value.int .u8 (48 + z / 10 / 10 / 10 / 10 % 10), .int .u8 (48 + z / 10 / 10 / 10 % 10), .int .u8 (48 + z / 10 / 10 % 10), .int .u8 (48 + z / 10 % 10), .int .u8 (48 + z % 10)] 5)) := by
  rw [digit_cells z h0]
  have hl : (digits5 z.toNat).length = 5 := rfl
  have := run_convert_bytes_back (P := Tryd.prog) (W.alloc (.cells ((digits5 z.toNat).map bv).toArray 5)) 49 9 5 ⟨W.heap.size, 0, none⟩ 5 (digits5 z.toNat) Tryd.underlying49 Tryd.underlying5 Tryd.underlying9
    (fun j hj => by
      have h := (Rd.new W ((digits5 z.toNat).map bv) 5).2 j (bv (digits5 z.toNat)[j]) (by rw [List.getElem?_map, List.getElem?_eq_getElem hj]; rfl)
      obtain ⟨a, ea, _, hc⟩ := h
      injection ea with ea
      rw [← ea] at hc
      exact hc)
  rw [hl] at this
  exact this
set_option maxHeartbeats 6400000 in
theorem refNumbered_any (s : ByteArray) (z : Int) (w : World) (hs : s.size ≤ maxLen) : Calls Tryd.prog 21 #[.string s, .int .i64 z] w (Ans (optV (numberedP s.data.toList z)) w) := by
  obtain ⟨l, rfl⟩ : ∃ l : List UInt8, s = ⟨l.toArray⟩ := ⟨s.data.toList, (sv_of s).symm⟩
  show Calls _ _ _ _ (Ans (optV (numberedP l z)) w)
  have HC := Lib.hid (show Calls _ _ _ _ (Ans (optV (nameP l)) w) from refName_any ⟨l.toArray⟩ w hs)
  rcases opt_cases (nameP l) with ⟨ho, hv⟩ | ⟨x, ho, hv⟩
  · have HV := Lib.hid (show numberedP l z = none by unfold numberedP; rw [if_neg]; intro e; rw [ho] at e; exact absurd e.1 (by simp))
    rw [hv] at HC
    clear ho hv hs
    go_enter Tryd.func21, Tryd.ntmps21
    go_wp2_with fail
    refine (HC.out).mono ?_
    rintro e w1 ⟨rfl, hb1⟩
    go_wp2_with fail
    go_ret2
    rw [HV.out]
    exact ⟨rfl, hb1⟩
  · rw [hv] at HC
    by_cases hn : 0 ≤ z ∧ z ≤ 99999
    · obtain ⟨hn1, hn2⟩ := hn
      have h64 : l.length ≤ 64 := by
        rcases path_cases l with h | ⟨rfl, _⟩ | ⟨ps, q, _, _, _, _, h⟩
        · rw [(belowP_none h).2.2] at ho; cases ho
        · simp
        · exact h
      have hz0 : decide (z < 0) = false := by simp; omega
      have hz1 : decide (z > 99999) = false := by simp; omega
      have kc := fun W => digits_text z hn1 W
      have hV : numberedP l z = if (partsOf (l ++ digits5 z.toNat)).isSome = true then some (l ++ digits5 z.toNat) else none := by
        unfold numberedP
        by_cases h : (partsOf (l ++ digits5 z.toNat)).isSome = true
        · rw [if_pos h, if_pos ⟨by rw [ho]; rfl, by omega, by omega, h⟩]
        · rw [if_neg h, if_neg (fun e => h e.2.2.2)]
      have hdl : (digits5 z.toNat).length = 5 := rfl
      have HK := Lib.hid (fun (x : ByteArray) W (hx : x.data.toList = l ++ digits5 z.toNat) => show Calls Tryd.prog 15 #[.string x] W (Ans (.int .i64 (errB (partsOf (l ++ digits5 z.toNat)).isSome)) W) by
        rw [← hx]; exact refCheck_any x W (by rw [Lib.size_eq, hx, List.length_append, hdl]; unfold maxLen; omega))
      have HCL := Lib.hid (cat_list l (digits5 z.toNat))
      generalize digits5 z.toNat = ds at *
      generalize numberedP l z = o at *
      clear ho hv hs
      have hz2 : 0 ≤ z := hn1
      cases hsm : (partsOf (l ++ ds)).isSome <;>
      (rw [hsm] at HK hV
       have HV := Lib.hid hV
       clear hV hsm
       go_enter Tryd.func21, Tryd.ntmps21
       go_wp2_with fail
       refine (HC.out).mono ?_
       rintro e w1 ⟨rfl, hb1⟩
       clear HC
       go_wp2_with fail
       refine wp_loop_rounds 6 ?_
       repeat any_goals (rw [rounds_succ]; go_wp2_with fail)
       refine (HK.out _ _ (by simp)).mono ?_
       rintro e w2 ⟨rfl, hb2⟩
       go_wp2_with fail
       go_ret2
       rw [HV.out]
       first
         | exact ⟨rfl, hb1.trans (((Below.refl _ _).alloc (Nat.le_refl _) _ |>.trans (hb2.mono (by simp))).mono hb1.size)⟩
         | (refine ⟨?_, hb1.trans (((Below.refl _ _).alloc (Nat.le_refl _) _ |>.trans (hb2.mono (by simp))).mono hb1.size)⟩; show Ending.returned (.tuple #[.string ((⟨l.toArray⟩ : ByteArray) ++ (⟨ds.toArray⟩ : ByteArray)), .int .i64 0]) = _; rw [HCL.out]; rfl))
    · have HV := Lib.hid (show numberedP l z = none by unfold numberedP; rw [if_neg]; intro e; exact hn ⟨e.2.1, e.2.2.1⟩)
      have h2 : z < 0 ∨ (¬ z < 0 ∧ z > 99999) := by omega
      clear hn ho hv hs
      rcases h2 with h2 | ⟨h2, h3⟩ <;>
      (go_enter Tryd.func21, Tryd.ntmps21
       go_wp2_with fail
       refine (HC.out).mono ?_
       rintro e w1 ⟨rfl, hb1⟩
       go_wp2_with fail
       go_ret2
       rw [HV.out]
       exact ⟨rfl, hb1⟩)
end Go.Proofs.YtclnbggehefbeaaDoor
