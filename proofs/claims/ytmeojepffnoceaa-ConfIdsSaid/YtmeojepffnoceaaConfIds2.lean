/-
  The program's Ids: a walk over the plain words. No statement.
-/
import Derived.Test.YtmeojepffnoceaaConfDev3
import Derived.Test.YtmeojepffnoceaaConfIds1
namespace Go.Proofs.Ytmeojepffnoceaa
open Go.RowKit
set_option linter.unusedVariables false

set_option maxHeartbeats 3200000 in
theorem ids_any (u r p wi ev pa : Int) (A : Option Addr) (n c : Nat) (B : Option Addr) (m q : Nat) (roles : List Int) (w : World) (hr : Rd w B m (roles.map iv)) (hm : m ≤ 1000) :
    Calls Try.prog 23 #[.agg #[.int .i64 u, .int .i64 r, .int .i64 p, .int .i64 wi, .int .i64 ev, .int .i64 pa, .slice A n c], .slice B m q] w (FreshId (Cf.ids ⟨u, r, p, wi, ev, pa, n⟩ roles) w) := by
  obtain ⟨i0, hi, hz0, hz1, hz2⟩ := info_parts info_id
  have hx : roles.length = m := by simpa using hr.1
  have HX := Lib.hid hx
  have HC := Lib.hid (fun X ro => count_any u r p wi ev pa A n c X ro)
  have HE := Lib.hid (Cf.cn_eq ⟨u, r, p, wi, ev, pa, n⟩)
  have HL := Lib.hid (Cf.cn_le ⟨u, r, p, wi, ev, pa, n⟩)
  have HN := Lib.hid (Cf.ids_next ⟨u, r, p, wi, ev, pa, n⟩)
  have HT := Lib.hid (Cf.ids_len ⟨u, r, p, wi, ev, pa, n⟩)
  have HZ := Lib.hid (show Cf.ids ⟨u, r, p, wi, ev, pa, n⟩ [] = [] from rfl)
  have HB0 := Lib.hid ((Below.refl w.heap.size w).alloc (Nat.le_refl _) (.cells #[.int .i64 u, .int .i64 r, .int .i64 p, .int .i64 wi, .int .i64 ev, .int .i64 pa, .slice A n c] 24))
  have HK := Lib.hid (Bk.new w 24 [.int .i64 u, .int .i64 r, .int .i64 p, .int .i64 wi, .int .i64 ev, .int .i64 pa, .slice A n c])
  have HR := Lib.hid hr
  generalize Cf.count ⟨u, r, p, wi, ev, pa, n⟩ = cnt at *
  generalize Cf.cn ⟨u, r, p, wi, ev, pa, n⟩ = cn at *
  generalize Cf.ids ⟨u, r, p, wi, ev, pa, n⟩ = ids at *
  clear hx hr
  go_enter Try.func23, Try.ntmps23
  go_wp2_with fail
  go_loopw [5, 11] (fun s i wr => ∃ (A' : Option Addr) (n' c' k : Nat), k ≤ m ∧ s = .slice A' n' c' ∧ i = .int .i64 k ∧ OwnId wr (w.heap.size + 1) A' n' c' (ids (roles.take k)) ∧ Below w.heap.size w wr ∧
    Bk wr w.heap.size 24 [.int .i64 u, .int .i64 r, .int .i64 p, .int .i64 wi, .int .i64 ev, .int .i64 pa, .slice A n c]) (fun _ i _ => m - (intOf i).toNat)
  case atStart => exact ⟨none, 0, 0, 0, by omega, rfl, rfl, by simpa [HZ.out] using OwnId.nil_ _ _, HB0.out, HK.out⟩
  case round =>
    obtain ⟨A', n', c', k, hk, rfl, rfl, ho, hb, kc⟩ := hrel
    by_cases hlt : k < m
    · obtain ⟨a, rfl, hba, hca⟩ := (HR.out.below hb).at_ hlt
      have hkl : k < roles.length := by rw [HX.out]; exact hlt
      have gx : (roles.map iv).getD k undef = .int .i64 roles[k] := by
        rw [getD_eq (by simpa using hkl)]; simp [iv]
      rw [gx] at hca
      have HNX := Lib.hid (HN.out roles k hkl)
      have hn' : n' ≤ 8 * k := by have e1 := ho.len; have e2 := HT.out (roles.take k); rw [List.length_take] at e2; omega
      have HN' := Lib.hid hn'
      generalize roles[k] = ro at *
      have HCR := Lib.hid (HC.out wr ro)
      obtain ⟨c0, c1, c2, c3, c4, c5, c6⟩ := kc.seven
      have HO := Lib.hid ho
      have HB := Lib.hid hb
      have HKC := Lib.hid kc
      have y1 : (0 : Int) ≤ (k : Int) := by omega
      have y2 : (k : Int) < (m : Int) := by omega
      have hcn : cn ro ≤ 8 := HL.out ro
      have hs := hb.size
      have w1 : IntKind.i64.wrap ((k : Int) + 1) = (k : Int) + 1 := by simp only [IntKind.wrap, IntKind.bits, IntKind.signed]; simp; omega
      clear ho hb kc gx hba hkl hn'
      go_wp2_with fail
      refine HCR.out.mono ?_
      rintro e w2 ⟨rfl, hb2⟩
      rw [HE.out ro]
      have HB2 := Lib.hid (below_next HB.out hb2 HB.out.size)
      have HO2 := Lib.hid (HO.out.below hb2)
      have HK2 := Lib.hid (HKC.out.kept hb2)
      clear hb2 c0 c1 c2 c3 c4 c5 c6 hca
      go_wp2_with fail
      go_loopw [5, 18] (fun s j wx => ∃ (A' : Option Addr) (n' c' h : Nat), h ≤ cn ro ∧ n' ≤ 8 * k + h ∧ s = .slice A' n' c' ∧ j = .int .i64 h ∧ OwnId wx (w.heap.size + 1) A' n' c' (ids (roles.take k) ++ idsK ro h) ∧ Below w.heap.size w wx ∧
        Bk wx w.heap.size 24 [.int .i64 u, .int .i64 r, .int .i64 p, .int .i64 wi, .int .i64 ev, .int .i64 pa, .slice A n c]) (fun _ j _ => cn ro - (intOf j).toNat)
      case atStart => exact ⟨A', n', c', 0, by omega, by have := HN'.out; omega, rfl, rfl, by simpa [idsK] using HO2.out, HB2.out, HK2.out⟩
      case round =>
        obtain ⟨A3, n3, c3, h, hh, hn3, rfl, rfl, ho3, hb3, kc3⟩ := hrel
        by_cases hlt3 : h < cn ro
        · have z1 : (0 : Int) ≤ (h : Int) := by omega
          have z2 : (h : Int) < (cn ro : Int) := by omega
          have HO3 := Lib.hid ho3
          have HB3 := Lib.hid hb3
          have HK3 := Lib.hid kc3
          have hs3 := hb3.size
          clear ho3 hb3 kc3
          go_wp2_with (at_builtin
                       refine wpList_append_own_at _ rfl _ _ 37 rfl (w.heap.size + 1) 26 i0 _ 2 16 Try.underlying37 hi hz0 hz1 hz2 rfl (by omega) (.slice A3 n3 c3) n3 (idc (ids (roles.take k) ++ idsK ro h)) rfl (HO3.out.alloc _)
                         ⟨wr.heap.size, 0, none⟩ 1 1 [.int .i64 ro, .int .i64 (h : Int)] rfl rfl (id_cells wr ro h 26) (by simp [Value.oneCell']) (by simp only [maxLen]; omega) (by omega) (by have := HB3.out.size; have := HK3.out.lt; simp; omega) ?_
                       intro v4 w4 hown4 hg4 hnil4 hrow4)
          obtain ⟨A4, c4, rfl⟩ : ∃ A4 c4, v4 = .slice A4 (n3 + 1) c4 := by
            rcases hown4.2 with ⟨_, e⟩ | ⟨g, cap, cur, e, _⟩
            · omega
            · exact ⟨_, _, e⟩
          have b4 := HB3.out.alloc HB3.out.size (.cells #[.int .i64 ro, .int .i64 (h : Int)] 26)
          have HB4 := Lib.hid (b4.grown hg4 b4.size (fun g hg => by have := HO3.out.block g hg; omega))
          have HK4 := Lib.hid ((HK3.out.alloc (.cells #[.int .i64 ro, .int .i64 (h : Int)] 26)).grown hg4 (fun hg => by have := HO3.out.block _ hg.symm; omega))
          have HO4 := Lib.hid (show OwnId w4 (w.heap.size + 1) A4 (n3 + 1) c4 (ids (roles.take k) ++ idsK ro (h + 1)) by
            unfold OwnId
            rw [idsK_next, ← List.append_assoc, idc_append]
            exact hown4)
          clear hown4 hg4 hnil4 hrow4 b4
          go_roundw
          case rel => exact ⟨A4, n3 + 1, c4, h + 1, by omega, by omega, rfl, by go_num, HO4.out, HB4.out, HK4.out⟩
          case measure => simp [intOf]; omega
        · have e3 : h = cn ro := by omega
          subst e3
          have HO3 := Lib.hid (show OwnId wr (w.heap.size + 1) A3 n3 c3 (ids (roles.take (k + 1))) by rw [HNX.out]; exact ho3)
          have HB3 := Lib.hid hb3
          have HK3 := Lib.hid kc3
          have z2 : ¬ (cn ro : Int) < (cn ro : Int) := by omega
          clear ho3 hb3 kc3
          go_wp2_with fail
          go_roundw
          case rel => exact ⟨A3, n3, c3, k + 1, by omega, rfl, by go_num, HO3.out, HB3.out, HK3.out⟩
          case measure => simp [intOf]; omega
    · have e : roles.take k = roles := List.take_of_length_le (by have := HX.out; omega)
      rw [e] at ho
      have HO := Lib.hid (ho.more (by omega : w.heap.size ≤ w.heap.size + 1))
      have HB := Lib.hid hb
      clear ho hb kc
      go_wp2_with fail
      go_ret
      exact ⟨A', n', c', rfl, HO.out, HB.out⟩
end Go.Proofs.Ytmeojepffnoceaa
