import Derived.Test.YtfdmnnbcnaofgaaDoorNum
namespace Go.Proofs.YtfdmnnbcnaofgaaDoor
open Go.RowKit
open Pk

theorem refNum_bad (v : Int) (w : World) (hv : v < 0 ∨ 4611686018427387904 ≤ v) : Calls Tryd.prog 57 #[.int .i64 v] w (Err2 10 w) := by
  by_cases h0 : v < 0
  · clear hv
    go_enter Tryd.func57, Tryd.ntmps57
    go_wp2
    go_ret2
    exact ⟨rfl, rfl⟩
  · have h1 : 4611686018427387904 ≤ v := by omega
    clear hv
    go_enter Tryd.func57, Tryd.ntmps57
    go_wp2
    go_ret2
    exact ⟨rfl, rfl⟩

set_option maxHeartbeats 800000 in
set_option maxRecDepth 100000 in
theorem refNum_ok (v : Nat) (w : World) (hv : v < 4611686018427387904) : Calls Tryd.prog 57 #[.int .i64 v] w (Fresh2 w.heap.size (encN v) w) := by
  obtain ⟨i0, hi, hz0, hz1, hz2⟩ := info_parts info_u8
  have h0 : ¬ (v : Int) < 0 := by omega
  have h1 : ¬ (4611686018427387904 : Int) ≤ v := by omega
  have hlen := encN_len9 hv
  have hlit := World.ownsRow_lit (e := 5) (base := w.heap.size) (size := 1) w #[Value.int .u8 ((v : Int) % 128)] 1 (Nat.le_refl _) (by simp [maxLen]) rfl
  have hbv : bv (UInt8.ofNat (v % 128)) = .int .u8 ((v : Int) % 128) := by rw [byte_small (by omega)]; congr 1
  have HLIT := Lib.hid hlit
  have HBV := Lib.hid hbv
  clear hlit hbv
  go_enter Tryd.func57, Tryd.ntmps57
  go_wp2
  go_loopw [0, 4] (fun u b wr => ∃ (A' : Option Addr) (n' c' q : Nat) (l' : List UInt8), b = .slice A' (n' + 1) c' ∧ u = .int .i64 q ∧ q < 4611686018427387904 ∧ OwnB wr w.heap.size A' (n' + 1) c' (l' ++ [UInt8.ofNat (q % 128)]) ∧ l' ++ encN q = encN v ∧
      Below w.heap.size w wr) (fun u _ _ => (intOf u).toNat)
  case atStart =>
    refine ⟨some ⟨w.heap.size, 0, none⟩, 0, 1, v, [], rfl, rfl, hv, ?_, rfl, (Below.refl _ _).alloc (Nat.le_refl _) _⟩
    unfold OwnB
    rw [List.nil_append, List.map_cons, HBV.out]
    exact HLIT.out
  case round =>
    obtain ⟨A', n', c', q, l', rfl, rfl, hq, ho, hll, hg⟩ := hrel
    have hlt : l'.length = n' := by have := OwnB.len ho; simpa using this
    have hqp := encN_pos q
    have hnn : n' + (encN q).length = (encN v).length := by
      have e1 := congrArg List.length hll
      simp only [List.length_append] at e1
      omega
    have hgs := hg.size
    by_cases hb : 128 ≤ q
    · have HL := Lib.hid (show l' ++ [UInt8.ofNat (q % 128 + 128)] ++ encN (q / 128) = encN v by rw [← hll, encN_big hb]; simp)
      obtain ⟨g, cap, hv', hgb, hgl⟩ := World.ownsRow.form ho (by omega)
      injection hv' with hA' _ hcap
      subst hA' hcap
      have hcell := World.ownsRow.cellAt ho n' (by omega)
      have hfr := World.ownsRow.frozenAt ho n'
      have e5 : ((l' ++ [UInt8.ofNat (q % 128)]).map bv)[n']? = some (.int .u8 ((q : Int) % 128)) := by
        rw [List.map_append, List.getElem?_append_right (by simp [hlt])]
        simp only [List.length_map, hlt, Nat.sub_self, List.map_cons, List.map_nil, List.getElem?_cons_zero]
        rw [byte_small (by omega)]; congr 2
      rw [e5] at hcell
      obtain ⟨hst, hsg⟩ := World.ownsRow.stored ho n' (.int .u8 ((q : Int) % 128 + 128))
      have e6 : ((l' ++ [UInt8.ofNat (q % 128)]).map bv).set n' (.int .u8 ((q : Int) % 128 + 128)) = (l' ++ [UInt8.ofNat (q % 128 + 128)]).map bv := by
        simp only [List.map_append, List.map_cons, List.map_nil]
        rw [List.set_append_right _ _ (by simp [hlt])]
        simp only [List.length_map, hlt, Nat.sub_self, List.set_cons_zero]
        rw [byte_more]
      rw [e6] at hst
      have HST := Lib.hid hst
      have HSG := Lib.hid hsg
      have HM := Lib.hid (show [Value.int .u8 ((q : Int) / 128 % 128)] = [UInt8.ofNat (q / 128 % 128)].map bv by rw [List.map_cons, byte_small (by omega)]; rfl)
      have hn2 : n' ≤ 10 := by omega
      have HL2 := Lib.hid hlt
      clear hst hsg e5 e6 hll hlt hqp hnn hlen hv h1 ho
      have HR := Lib.hid (show Rd ((wr.setCell ⟨g, n', none⟩ (.int .u8 ((q : Int) % 128 + 128))).alloc (.cells #[.int .u8 ((q : Int) / 128 % 128)] 5)) (some ⟨wr.heap.size, 0, none⟩) 1 [.int .u8 ((q : Int) / 128 % 128)] by
        have := Rd.new (wr.setCell ⟨g, n', none⟩ (.int .u8 ((q : Int) % 128 + 128))) [.int .u8 ((q : Int) / 128 % 128)] 5
        simpa using this)
      go_wp2_with (at_builtin
                   refine wpList_append_rd _ rfl _ _ 22 rfl w.heap.size 5 i0 _ 1 Tryd.underlying22 hi hz0 hz1 hz2 rfl (some ⟨g, 0, none⟩) (n' + 1) c' ((l' ++ [UInt8.ofNat (q % 128 + 128)]).map bv) rfl (World.ownsRow.alloc HST.out _) (some ⟨wr.heap.size, 0, none⟩) 1 1 [.int .u8 ((q : Int) / 128 % 128)] rfl
                     HR.out (by simp [Value.oneCell']) (by simp only [maxLen]; omega) (by omega) (by simp; omega) ?_
                   intro A2 c2 w2 hown2 hg2 hrow2)
      go_roundw
      case rel =>
        refine ⟨A2, n' + 1, c2, q / 128, l' ++ [UInt8.ofNat (q % 128 + 128)], rfl, by go_num, by omega, ?_, HL.out, ?_⟩
        · unfold OwnB; rw [List.map_append, ← HM.out]; exact hown2
        · have b1 := hg.grown HSG.out hgs (fun k e => by injection e with e; omega)
          have b2 := b1.alloc b1.size (.cells #[.int .u8 ((q : Int) / 128 % 128)] 5)
          exact b2.grown hg2 b2.size (fun k e => by simp [Value.ownBlock] at e; omega)
      case measure => simp [intOf]; omega
    · have HL := Lib.hid (show l' ++ [UInt8.ofNat (q % 128)] = encN v by rw [← hll, encN_small (by omega), Nat.mod_eq_of_lt (by omega)])
      clear hll hnn hqp hlen hlt hv h1
      go_wp2
      go_ret2
      exact ⟨A', n' + 1, c', rfl, by rw [← HL.out]; exact ho, hg⟩
end Go.Proofs.YtfdmnnbcnaofgaaDoor
