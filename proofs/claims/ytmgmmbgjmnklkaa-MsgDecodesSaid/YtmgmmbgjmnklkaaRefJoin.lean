import Derived.Test.YtmgmmbgjmnklkaaJoin
namespace Go.Proofs.Ytmgmmbgjmnklkaa
set_option maxRecDepth 100000
open Go.RowKit
open Pk
set_option linter.unusedVariables false

theorem refJoin_many (A : Option Addr) (n c : Nat) (ls : List (List UInt8)) (w : World) (hl : ls.length = n) (hn : 1024 < n) : Calls Try.prog 44 #[.slice A n c] w (JoinPost ls w) := by
  have hb : joinBad ls = true := by unfold joinBad; simp; left; omega
  have HB := Lib.hid hb
  clear hb hl
  go_enter Try.func44, Try.ntmps44
  go_wp2
  go_ret2
  exact ⟨Below.refl _ _, .inl ⟨HB.out, rfl⟩⟩

set_option maxHeartbeats 1600000 in
set_option maxRecDepth 100000 in
theorem refJoin_few (A : Option Addr) (n c : Nat) (ls : List (List UInt8)) (w : World) (h : RdRows w A n ls) (ht : total ls ≤ 68719476736) (hn : n ≤ 1024) : Calls Try.prog 44 #[.slice A n c] w (JoinPost ls w) := by
  obtain ⟨i0, hi, hz0, hz1, hz2⟩ := info_parts info_u8
  have hx : ls.length = n := h.1
  have HT := Lib.hid ht
  have HX := Lib.hid hx
  have HE := Lib.hid (own_empty w)
  clear ht hx
  go_enter Try.func44, Try.ntmps44
  go_wp2
  go_loopw [4, 5] (fun s i wr => ∃ (A' : Option Addr) (n' c' k : Nat), k ≤ n ∧ s = .slice A' n' c' ∧ i = .int .i64 k ∧ longField (ls.take k) = false ∧ OwnB wr w.heap.size A' n' c' (joinN (ls.take k)) ∧ Below w.heap.size w wr) (fun _ i _ => n - (intOf i).toNat)
  case atStart => exact ⟨_, 0, 0, 0, by omega, rfl, rfl, rfl, HE.out, (Below.refl _ _).alloc (Nat.le_refl _) _⟩
  case round =>
    obtain ⟨A', n', c', k, hk, rfl, rfl, hlf, ho, hb⟩ := hrel
    by_cases hlt : k < n
    · obtain ⟨a, B, d, rfl, hbw, hcw, hd1, hd2, hrw, _⟩ := h.at_ hlt
      have hcell := (hb.cell (p := a.add k) (by rw [add_block]; exact hbw)).trans hcw
      have hsn := take_snocD ls [] k (by rw [HX.out]; exact hlt)
      have hjn : joinN (ls.take (k + 1)) = joinN (ls.take k) ++ encN (ls.getD k []).length ++ ls.getD k [] := by
        rw [hsn, joinN_append]; simp [joinN]
      have hmem := getD_mem (d := ([] : List UInt8)) (show k < ls.length by rw [HX.out]; exact hlt)
      have hlong := fun hh => longField_at hmem hh
      have hshort := longField_take ls k (by rw [HX.out]; exact hlt) hlf
      have hlen := OwnB.len ho
      have hjl := joinN_len (ls := ls.take k) (by have := total_take ls k; have := HT.out; omega)
      have htt := total_take ls k
      have hn' : n' ≤ 687194767360 := by have := HT.out; omega
      have e1 : (0 : Int) ≤ (k : Int) := by omega
      have e2 : (k : Int) < (n : Int) := by omega
      have hs := hb.size
      have HBW := Lib.hid hbw
      clear hbw hlen hjl htt hsn hd1 hd2 hlf hmem
      generalize ls.getD k [] = p at *
      by_cases hp : 65536 < p.length
      · have hbad := Lib.hid (show joinBad ls = true by unfold joinBad; rw [hlong hp]; simp)
        clear hlong hshort hjn hrw hcw
        go_wp2
        go_ret2
        exact ⟨hb, .inl ⟨hbad.out, rfl⟩⟩
      · have HS := Lib.hid (hshort (by omega))
        have HJ := Lib.hid hjn
        have HA := Lib.hid (fun W => refNum_ok p.length W (by omega))
        have HRW := Lib.hid hrw
        have HCW := Lib.hid hcw
        have hlp := encN_len9 (v := p.length) (by omega)
        clear hlong hshort hjn hrw hcw
        go_wp2_with fail
        refine (HA.out _).mono ?_
        rintro e w1 ⟨A1, n1, c1, rfl, ho1, hb1⟩
        have hn1 : n1 ≤ 9 := by have := OwnB.len ho1; omega
        have hs1 := hb1.size
        have HRD1 := Lib.hid ho1.rd
        have hoo : OwnB w1 w.heap.size A' n' c' (joinN (ls.take k)) := ho.below hb1
        have hbb : Below w.heap.size w w1 := hb.trans (hb1.mono hs)
        have hss := hbb.size
        go_wp2_with (first
          | (at_builtin
             refine wpList_append_rd _ rfl (.tmp 33) (.tmp 34) 22 rfl w.heap.size 5 i0 _ 1 Try.underlying22 hi hz0 hz1 hz2 rfl A' n' c' ((joinN (ls.take k)).map bv) rfl hoo A1 n1 c1 ((encN p.length).map bv) rfl
               HRD1.out (oneCell_bytes _) (by simp only [maxLen]; omega) (by omega) hss ?_
             intro A2 c2 w2 hown2 hg2 hrow2
             have hb2 : Below w.heap.size w w2 := hbb.grown hg2 hss (OwnB.block hoo)
             have hs2 := hb2.size
             have hcell2 := (hb2.cell (p := a.add k) (by rw [add_block]; exact HBW.out)).trans HCW.out)
          | (at_builtin
             refine wpList_append_rd _ rfl (.tmp 36) (.tmp 40) 22 rfl w.heap.size 5 i0 _ 1 Try.underlying22 hi hz0 hz1 hz2 rfl A2 (n' + n1) c2 ((joinN (ls.take k)).map bv ++ (encN p.length).map bv) rfl hown2 B p.length d (p.map bv) rfl
               (HRW.out.below hb2) (oneCell_bytes _) (by simp only [maxLen]; omega) (by omega) hs2 ?_
             intro A3 c3 w3 hown3 hg3 hrow3))
        go_roundw
        case rel =>
          refine ⟨A3, n' + n1 + p.length, c3, k + 1, by omega, rfl, by go_num, HS.out, ?_, hb2.grown hg3 hs2 (fun g e => (World.ownsRow.lt hown2 g e).1)⟩
          unfold OwnB
          rw [HJ.out, List.map_append, List.map_append]
          exact hown3
        case measure => simp [intOf]; omega
    · have e : ls.take k = ls := List.take_of_length_le (by have := HX.out; omega)
      rw [e] at ho hlf
      have hbad := Lib.hid (show joinBad ls = false by unfold joinBad; rw [hlf]; have := HX.out; simp; omega)
      clear e hlf
      go_wp2
      go_ret2
      exact ⟨hb, .inr ⟨hbad.out, A', n', c', rfl, ho⟩⟩
theorem refJoin_any (A : Option Addr) (n c : Nat) (ls : List (List UInt8)) (w : World) (h : RdRows w A n ls) (ht : total ls ≤ 68719476736) : Calls Try.prog 44 #[.slice A n c] w (JoinPost ls w) := by
  rcases Nat.lt_or_ge 1024 n with hn | hn
  · exact refJoin_many A n c ls w h.1 hn
  · exact refJoin_few A n c ls w h ht hn
end Go.Proofs.Ytmgmmbgjmnklkaa
