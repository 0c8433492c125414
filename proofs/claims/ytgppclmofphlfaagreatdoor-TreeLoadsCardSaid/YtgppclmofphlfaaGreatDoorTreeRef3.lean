/-
  The reference's kids. Walks; no statement.
-/
import Derived.Test.YtgppclmofphlfaaGreatDoorTreeRef2
import Derived.Test.YtgppclmofphlfaaGreatDoorMPathR
import Derived.Test.YtgppclmofphlfaaGreatDoorMTreeA
namespace Go.Proofs.YtgppclmofphlfaaGreatDoor
set_option maxRecDepth 100000
open Go.RowKit
set_option linter.unusedVariables false

set_option maxHeartbeats 3200000 in
theorem refKids_any (p : ByteArray) (A : Option Addr) (c : Nat) (t : List Lf) (F : Nat → Prop) (w : World) (h : RdS RLf F w A c t) (hn : t.length ≤ 1000) (hsz : ∀ l ∈ t, l.path.length ≤ maxLen) :
    Calls Tryz.prog 50 #[.agg #[.slice A t.length c], .string p] w (FreshT (tKids p.data.toList t) w) := by
  obtain ⟨q, rfl⟩ : ∃ l : List UInt8, p = ⟨l.toArray⟩ := ⟨p.data.toList, (sv_of p).symm⟩
  show Calls _ _ _ _ (FreshT (tKids q t) w)
  obtain ⟨i0, hi, hz0, hz1, hz2⟩ := info_parts info_str
  have hB1 := (Below.refl w.heap.size w).alloc (Nat.le_refl _) (.cells #[.slice A t.length c] 30)
  have HR := Lib.hid h
  obtain ⟨W1, hW1⟩ : ∃ W1, W1 = w.alloc (.cells #[.slice A t.length c] 30) := ⟨_, rfl⟩
  rw [← hW1] at hB1
  have HB1 := Lib.hid hB1
  have HS1 := Lib.hid (show W1.heap.size = w.heap.size + 1 by rw [hW1]; simp)
  have HK := Lib.hid (show Bk W1 w.heap.size 30 [.slice A t.length c] by rw [hW1]; exact Bk.new w _ _)
  have HE := Lib.hid (show OwnT (W1.alloc (.cells #[] 9)) (w.heap.size + 1) (some ⟨w.heap.size + 1, 0, none⟩) 0 0 [] by
    have := ownT_empty W1
    rw [HS1.out] at this
    exact this)
  have HWE := Lib.hid hW1
  have HSZ := Lib.hid hsz
  clear h hB1 hW1 hsz
  go_enter Tryz.func50, Tryz.ntmps50
  go_wp2_with fail
  rw [← HWE.out]
  go_loopw [5, 6] (fun s i wr => ∃ (A' : Option Addr) (n' c' k : Nat), k ≤ t.length ∧ s = .slice A' n' c' ∧ i = .int .i64 k ∧ OwnT wr (w.heap.size + 1) A' n' c' (tKids q (t.take k)) ∧ n' ≤ k ∧ Below (w.heap.size + 1) W1 wr) (fun _ i _ => t.length - (intOf i).toNat)
  case atStart => exact ⟨_, 0, 0, 0, by omega, rfl, rfl, HE.out, by omega, (Below.refl _ _).alloc (by rw [HS1.out]; exact Nat.le_refl _) _⟩
  case round =>
    obtain ⟨A', n', c', k, hk, rfl, rfl, ho, hnk, hb⟩ := hrel
    have HBwr := Lib.hid hb
    have HBwn := Lib.hid (show Below w.heap.size w wr from HB1.out.trans (hb.mono (by omega)))
    have HO := Lib.hid ho
    have j0 : wr.cell? ⟨w.heap.size, 0, none⟩ = some (.slice A t.length c) := (HK.out.below hb (by omega)).at_ rfl
    have hszr : w.heap.size + 1 ≤ wr.heap.size := by have h1 := hb.size; have h2 := HS1.out; omega
    clear ho hb
    by_cases hlt : k < t.length
    · obtain ⟨x, hx⟩ : ∃ x, t[k]? = some x := ⟨_, List.getElem?_eq_getElem hlt⟩
      have HT := Lib.hid (show t.take (k + 1) = t.take k ++ [x] by
        obtain ⟨hh, rfl⟩ := List.getElem?_eq_some_iff.1 hx
        exact List.take_succ_eq_append_getElem hh)
      have hxs : x.path.length ≤ maxLen := HSZ.out x (by obtain ⟨hh, rfl⟩ := List.getElem?_eq_some_iff.1 hx; exact List.getElem_mem hh)
      obtain ⟨y, XA, XC, rfl, hyb, u0, _⟩ := HR.out.lf6 hx
      have HCW := Lib.hid (fun w' (hb : Below w.heap.size w w') => cell_kept u0 hb)
      have c0 := HCW.out wr HBwn.out
      have HP := Lib.hid (show Calls _ _ _ _ (Ans (optV (parentP x.path)) wr) from refParent_any ⟨x.path.toArray⟩ wr hxs)
      have HN := Lib.hid (tKids_snoc q (t.take k) x)
      have y1 : (0 : Int) ≤ (k : Int) := by omega
      have y2 : (k : Int) < (t.length : Int) := by omega
      clear hx hyb u0 hxs
      rcases opt_cases (parentP x.path) with ⟨e, ev⟩ | ⟨up, e, ev⟩
      · rw [ev] at HP
        have HV := Lib.hid (show tKids q (t.take (k + 1)) = tKids q (t.take k) by
          rw [HT.out, HN.out, e, if_neg (by simp), List.append_nil])
        clear e ev
        go_wp2_with fail
        refine HP.out.mono ?_
        rintro e w2 ⟨rfl, hb2⟩
        have HO2 := Lib.hid (HO.out.below hb2)
        have HB2 := Lib.hid (below_next HBwr.out hb2 (by omega))
        clear hb2
        go_wp2_with fail
        go_roundw
        case rel => exact ⟨A', n', c', k + 1, by omega, rfl, by go_num, by rw [HV.out]; exact HO2.out, by omega, HB2.out⟩
        case measure => simp [intOf]; omega
      · rw [ev] at HP
        by_cases hup : up = q
        · have b1 : (up == q) = true := by simpa using hup
          have HV := Lib.hid (show tKids q (t.take (k + 1)) = tKids q (t.take k) ++ [x.path] by
            rw [HT.out, HN.out, e, hup, if_pos rfl])
          clear e ev hup
          go_wp2_with fail
          refine HP.out.mono ?_
          rintro e w2 ⟨rfl, hb2⟩
          have HO2 := Lib.hid (HO.out.below hb2)
          have HB2 := Lib.hid (below_next HBwr.out hb2 (by omega))
          have c02 := cell_kept c0 hb2
          have j02 := cell_kept j0 hb2
          have hsz2 : w.heap.size + 1 ≤ w2.heap.size := by have := hb2.size; omega
          clear hb2
          go_wp2_with (first
            | (at_builtin
               refine wpList_append_rd _ rfl (.tmp 34) (.tmp 41) 53 rfl (w.heap.size + 1) 9 i0 _ 16 Tryz.underlying53 hi hz0 hz1 hz2 rfl A' n' c' ((tKids q (t.take k)).map sv) rfl (World.ownsRow.alloc HO2.out _) (some ⟨w2.heap.size, 0, none⟩) 1 1 [sv x.path] rfl
                 (Rd.new w2 [sv x.path] _) (by intro u hu; rw [List.mem_singleton.1 hu]; rfl) (by simp only [maxLen]; omega) (by omega) (by simp; omega) ?_
               intro A3 c3 w3 hown3 hg3 hrow3))
          go_roundw
          case rel =>
            refine ⟨A3, n' + 1, c3, k + 1, by omega, rfl, by go_num, ?_, by omega, ?_⟩
            · unfold OwnT
              rw [HV.out, List.map_append]
              exact hown3
            · exact (HB2.out.alloc (by have := HS1.out; have := HB2.out.size; omega) _).grown hg3 (by simp; omega) (fun g e => (World.ownsRow.lt HO2.out g e).1)
          case measure => simp [intOf]; omega
        · have b1 : (up == q) = false := by simpa using hup
          have HV := Lib.hid (show tKids q (t.take (k + 1)) = tKids q (t.take k) by
            rw [HT.out, HN.out, e, if_neg (fun h => hup (Option.some.inj h)), List.append_nil])
          clear e ev hup
          go_wp2_with fail
          refine HP.out.mono ?_
          rintro e w2 ⟨rfl, hb2⟩
          have HO2 := Lib.hid (HO.out.below hb2)
          have HB2 := Lib.hid (below_next HBwr.out hb2 (by omega))
          clear hb2
          go_wp2_with fail
          go_roundw
          case rel => exact ⟨A', n', c', k + 1, by omega, rfl, by go_num, by rw [HV.out]; exact HO2.out, by omega, HB2.out⟩
          case measure => simp [intOf]; omega
    · obtain rfl : k = t.length := by omega
      have HX := Lib.hid (show OwnT wr w.heap.size A' n' c' (tKids q t) by have := HO.out; rw [List.take_length] at this; exact this.more (by omega))
      go_wp2_with fail
      go_ret
      exact ⟨A', n', c', rfl, HX.out, HBwn.out⟩
end Go.Proofs.YtgppclmofphlfaaGreatDoor
