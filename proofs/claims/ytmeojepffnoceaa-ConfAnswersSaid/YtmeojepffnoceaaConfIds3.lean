/-
  The reference's Ids: a walk over the plain words. No statement.
-/
import Derived.Test.YtmeojepffnoceaaConfRef2
import Derived.Test.YtmeojepffnoceaaConfIds1
namespace Go.Proofs.Ytmeojepffnoceaa
open Go.RowKit
set_option linter.unusedVariables false

set_option maxHeartbeats 3200000 in
theorem refIds_any (u r p wi ev pa : Int) (A : Option Addr) (n c : Nat) (B : Option Addr) (m q : Nat) (roles : List Int) (w : World) (hr : Rd w B m (roles.map iv)) (hm : m ≤ 1000) :
    Calls Try.prog 24 #[.agg #[.int .i64 u, .int .i64 r, .int .i64 p, .int .i64 wi, .int .i64 ev, .int .i64 pa, .slice A n c], .slice B m q] w (FreshId (Cf.ids ⟨u, r, p, wi, ev, pa, n⟩ roles) w) := by
  obtain ⟨i0, hi, hz0, hz1, hz2⟩ := info_parts info_id
  have hx : roles.length = m := by simpa using hr.1
  have HX := Lib.hid hx
  have HC := Lib.hid (show ∀ ro X, Below w.heap.size w X → Calls Try.prog 13 #[.agg #[.int .i64 u, .int .i64 r, .int .i64 p, .int .i64 wi, .int .i64 ev, .int .i64 pa, .slice A n c], .int .i64 ro] X (fun e w' => e = .returned (.int .i64 (Cf.cn ⟨u, r, p, wi, ev, pa, n⟩ ro : Int)) ∧ Below w.heap.size w w' ∧ Below X.heap.size X w') from
    fun ro X hw => (refCount_any u r p wi ev pa A n c X ro).mono fun e w' ⟨he, hb⟩ => ⟨by rw [he, Cf.cn_eq], below_next hw hb hw.size, hb⟩)
  have HL := Lib.hid (Cf.cn_le ⟨u, r, p, wi, ev, pa, n⟩)
  have HN := Lib.hid (Cf.ids_next ⟨u, r, p, wi, ev, pa, n⟩)
  have HT := Lib.hid (Cf.ids_len ⟨u, r, p, wi, ev, pa, n⟩)
  have HZ := Lib.hid (show Cf.ids ⟨u, r, p, wi, ev, pa, n⟩ [] = [] from rfl)
  have b0 := (Below.refl w.heap.size w).alloc (Nat.le_refl _) (.cells #[.int .i64 u, .int .i64 r, .int .i64 p, .int .i64 wi, .int .i64 ev, .int .i64 pa, .slice A n c] 24)
  have HB0 := Lib.hid (b0.alloc b0.size (.cells #[] 26))
  have HK := Lib.hid ((Bk.new w 24 [.int .i64 u, .int .i64 r, .int .i64 p, .int .i64 wi, .int .i64 ev, .int .i64 pa, .slice A n c]).alloc (.cells #[] 26))
  have he := OwnId.empty (w.alloc (.cells #[.int .i64 u, .int .i64 r, .int .i64 p, .int .i64 wi, .int .i64 ev, .int .i64 pa, .slice A n c] 24))
  rw [show (w.alloc (.cells #[.int .i64 u, .int .i64 r, .int .i64 p, .int .i64 wi, .int .i64 ev, .int .i64 pa, .slice A n c] 24)).heap.size = w.heap.size + 1 by simp] at he
  have HE := Lib.hid he
  clear b0 he
  have HR := Lib.hid hr
  generalize Cf.cn ⟨u, r, p, wi, ev, pa, n⟩ = cn at *
  generalize Cf.ids ⟨u, r, p, wi, ev, pa, n⟩ = ids at *
  clear hx hr
  go_enter Try.func24, Try.ntmps24
  go_wp2_with fail
  go_loopw [5, 6] (fun s i wr => ∃ (A' : Option Addr) (n' c' k : Nat), k ≤ m ∧ s = .slice A' n' c' ∧ i = .int .i64 k ∧ OwnId wr (w.heap.size + 1) A' n' c' (ids (roles.take k)) ∧ Below w.heap.size w wr ∧
    Bk wr w.heap.size 24 [.int .i64 u, .int .i64 r, .int .i64 p, .int .i64 wi, .int .i64 ev, .int .i64 pa, .slice A n c]) (fun _ i _ => m - (intOf i).toNat)
  case atStart => exact ⟨_, 0, 0, 0, by omega, rfl, rfl, by simpa [HZ.out] using HE.out, HB0.out, HK.out⟩
  case round =>
    obtain ⟨A', n', c', k, hk, rfl, rfl, ho, hb, kc⟩ := hrel
    by_cases hlt : k < m
    · obtain ⟨a, rfl, hba, hca⟩ := (HR.out.below hb).at_ hlt
      have hkl : k < roles.length := by rw [HX.out]; exact hlt
      have gx : (roles.map iv).getD k undef = .int .i64 roles[k] := by
        rw [getD_eq (by simpa using hkl)]; simp [iv]
      rw [gx] at hca
      have HNX := Lib.hid (HN.out roles k hkl)
      have hn' : n' ≤ 8 * k := by have e1 := ho.len; have e2 := HT.out (roles.take k); rw [List.length_take] at e2; omega
      have HN' := Lib.hid hn'
      have hcell : ∀ X, Below w.heap.size w X → X.cell? (a.add k) = some (.int .i64 roles[k]) := fun X hX => by
        obtain ⟨a', ea, _, hc2⟩ := (HR.out.below hX).at_ hlt
        obtain rfl := Option.some.inj ea
        rw [gx] at hc2; exact hc2
      generalize roles[k] = ro at *
      have HO := Lib.hid ho
      have HB := Lib.hid hb
      have HKC := Lib.hid kc
      have y1 : (0 : Int) ≤ (k : Int) := by omega
      have y2 : (k : Int) < (m : Int) := by omega
      have hcn : cn ro ≤ 8 := HL.out ro
      have w1 : IntKind.i64.wrap ((k : Int) + 1) = (k : Int) + 1 := by simp only [IntKind.wrap, IntKind.bits, IntKind.signed]; simp; omega
      have HCA := Lib.hid (show ∀ X, Below w.heap.size w X → X.cell? (a.add k) = some (.int .i64 ro) from hcell)
      clear ho hb kc gx hba hkl hn' hca hcell
      go_wp2_with fail
      go_loopw [5, 7] (fun s j wx => ∃ (A' : Option Addr) (n' c' h : Nat), h ≤ cn ro ∧ n' ≤ 8 * k + h ∧ s = .slice A' n' c' ∧ j = .int .i64 h ∧ OwnId wx (w.heap.size + 1) A' n' c' (ids (roles.take k) ++ idsK ro h) ∧ Below w.heap.size w wx ∧
        Bk wx w.heap.size 24 [.int .i64 u, .int .i64 r, .int .i64 p, .int .i64 wi, .int .i64 ev, .int .i64 pa, .slice A n c]) (fun _ j _ => cn ro - (intOf j).toNat)
      case atStart => exact ⟨A', n', c', 0, by omega, by have := HN'.out; omega, rfl, rfl, by simpa [idsK] using HO.out, HB.out, HKC.out⟩
      case round =>
        obtain ⟨A3, n3, c3, h, hh, hn3, rfl, rfl, ho3, hb3, kc3⟩ := hrel
        have ca : wr.cell? (a.add k) = some (.int .i64 ro) := HCA.out _ hb3
        have hw := hb3
        have kc := kc3
        have ho := ho3
        have hh1 : h < cn ro ∨ h = cn ro := by omega
        have HH := Lib.hid hh1
        clear ho3 hb3 kc3 hh1
        go_wp2_with fail
        go_region_held3 (fun w' => (w'.cell? ⟨w.heap.size, 0, none⟩ = some (.int .i64 u) ∧ w'.cell? ⟨w.heap.size, 1, none⟩ = some (.int .i64 r) ∧ w'.cell? ⟨w.heap.size, 2, none⟩ = some (.int .i64 p) ∧ w'.cell? ⟨w.heap.size, 3, none⟩ = some (.int .i64 wi) ∧ w'.cell? ⟨w.heap.size, 4, none⟩ = some (.int .i64 ev) ∧ w'.cell? ⟨w.heap.size, 5, none⟩ = some (.int .i64 pa) ∧ w'.cell? ⟨w.heap.size, 6, none⟩ = some (.slice A n c)) ∧ w'.cell? (a.add k) = some (.int .i64 ro)) (first | with_reducible exact ⟨(bk_drew kc).seven, cell_drew ca⟩ | with_reducible exact ⟨kc.seven, ca⟩ | go_keep)
          (first
          | (go_at_call 13; with_reducible refine (HC.out _ _ ?_).mono ?_
             focus first | with_reducible exact hw | with_reducible exact below_drew hw
             rintro e w' ⟨rfl, hw', hx⟩
             first | replace kc := kc.kept hx | replace kc := bk_keptD kc hx
             first | replace ho := ho.below hx | replace ho := own_belowD ho hx
             replace ca := HCA.out _ hw'
             replace hw := hw'
             clear hw' hx))
        all_goals
          rcases HH.out with hlt3 | e3
          · have z1 : (0 : Int) ≤ (h : Int) := by omega
            have z2 : (h : Int) < (cn ro : Int) := by omega
            go_wp2_with (at_builtin
                         refine wpList_append_own_at _ rfl _ _ 37 rfl (w.heap.size + 1) 26 i0 _ 2 16 Try.underlying37 hi hz0 hz1 hz2 rfl (by omega) (.slice A3 n3 c3) n3 (idc (ids (roles.take k) ++ idsK ro h)) rfl (ho.alloc _)
                           ⟨w'.heap.size, 0, none⟩ 1 1 [.int .i64 ro, .int .i64 (h : Int)] rfl rfl (id_cells w' ro h 26) (by simp [Value.oneCell']) (by simp only [maxLen]; omega) (by omega) (by have := hw.size; have := kc.lt; simp; omega) ?_
                         intro v4 w4 hown4 hg4 hnil4 hrow4)
            obtain ⟨A4, c4, rfl⟩ : ∃ A4 c4, v4 = .slice A4 (n3 + 1) c4 := by
              rcases hown4.2 with ⟨_, e⟩ | ⟨g, cap, cur, e, _⟩
              · omega
              · exact ⟨_, _, e⟩
            have b4 := hw.alloc hw.size (.cells #[.int .i64 ro, .int .i64 (h : Int)] 26)
            have HB4 := Lib.hid (b4.grown hg4 b4.size (fun g hg => by have := ho.block g hg; omega))
            have HK4 := Lib.hid ((kc.alloc (.cells #[.int .i64 ro, .int .i64 (h : Int)] 26)).grown hg4 (fun hg => by have := ho.block _ hg.symm; omega))
            have HO4 := Lib.hid (show OwnId w4 (w.heap.size + 1) A4 (n3 + 1) c4 (ids (roles.take k) ++ idsK ro (h + 1)) by
              unfold OwnId
              rw [idsK_next, ← List.append_assoc, idc_append]
              exact hown4)
            clear hown4 hg4 hnil4 hrow4 b4 ho hw kc ca
            go_roundw
            case rel => exact ⟨A4, n3 + 1, c4, h + 1, by omega, by omega, rfl, by go_num, HO4.out, HB4.out, HK4.out⟩
            case measure => simp [intOf]; omega
          · subst e3
            have HO3 := Lib.hid (show OwnId w' (w.heap.size + 1) A3 n3 c3 (ids (roles.take (k + 1))) by rw [HNX.out]; exact ho)
            have HB3 := Lib.hid hw
            have HK3 := Lib.hid kc
            have z2 : ¬ (cn ro : Int) < (cn ro : Int) := by omega
            clear ho hw kc ca
            go_wp2_with fail
            go_roundw
            case rel => exact ⟨A3, n3, c3, k + 1, by omega, rfl, by go_num, HO3.out, HB3.out, HK3.out⟩
            case measure => simp [intOf]; omega
    · have e : roles.take k = roles := List.take_of_length_le (by have := HX.out; omega)
      rw [e] at ho
      have HO := Lib.hid (ho.more (by omega : w.heap.size ≤ w.heap.size + 1))
      have HB := Lib.hid hb
      clear ho hb kc
      go_wp2_with fail
      go_ret
      exact ⟨A', n', c', rfl, HO.out, HB.out⟩
end Go.Proofs.Ytmeojepffnoceaa
