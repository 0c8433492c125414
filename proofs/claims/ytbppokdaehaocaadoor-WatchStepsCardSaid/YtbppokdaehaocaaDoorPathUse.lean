/-
  Texts compared and copied. Walks; no statement.
-/
import Derived.Test.YtbppokdaehaocaaDoorPathLem
import Derived.WalkSpells
namespace Go.Proofs.YtbppokdaehaocaaDoor
set_option maxRecDepth 100000
open Go.RowKit
set_option linter.unusedVariables false

theorem sameTexts_len (A A' : Option Addr) (n n' c c' : Nat) (w : World) (hn : n ≠ n') :
    Calls Tryd.prog 19 #[.slice A n c, .slice A' n' c'] w (Quiet (.bool false) w) := by
  have h1 : ((n : Int) != (n' : Int)) = true := by rw [bne_iff_ne]; omega
  go_enter Tryd.func19, Tryd.ntmps19
  go_wp2
  go_ret
  exact ⟨rfl, 0, rfl⟩
set_option maxHeartbeats 1600000 in
theorem sameTexts_eq (A A' : Option Addr) (n c c' : Nat) (w : World) (xs ys : List (List UInt8)) (h : RdT w A n xs) (h' : RdT w A' n ys) (hm : n ≤ maxLen) :
    Calls Tryd.prog 19 #[.slice A n c, .slice A' n c'] w (Quiet (.bool (decide (xs = ys))) w) := by
  unfold maxLen at hm
  have h1 : ((n : Int) != (n : Int)) = false := by simp
  have hx : xs.length = n := h.len
  have hy : ys.length = n := h'.len
  go_enter Tryd.func19, Tryd.ntmps19
  go_wp2
  go_loopw [5] (fun i wr => ∃ k m : Nat, k ≤ n ∧ i = .int .i64 k ∧ wr = w.drewN m ∧ xs.take k = ys.take k) (fun i _ => n - (intOf i).toNat)
  case atStart => exact ⟨0, 0, Nat.zero_le _, rfl, rfl, by simp⟩
  case round =>
    obtain ⟨k, m, hk, rfl, rfl, ht⟩ := hrel
    by_cases hlt : k < n
    · obtain ⟨a, rfl, hb, hc⟩ := h.at_ hlt
      obtain ⟨a', rfl, hb', hc'⟩ := h'.at_ hlt
      have e1 : (0 : Int) ≤ (k : Int) := by omega
      have e2 : (k : Int) < (n : Int) := by omega
      have tx := take_snocD xs [] k (by omega)
      have ty := take_snocD ys [] k (by omega)
      have HN := Lib.hid (show xs.getD k [] ≠ ys.getD k [] → decide (xs = ys) = false from fun hne => by
        simp only [decide_eq_false_iff_not]
        intro e
        exact hne (by rw [e]))
      clear h h' hb hb'
      generalize xs.getD k [] = x at *
      generalize ys.getD k [] = y at *
      by_cases hxy : x = y
      · have T := Lib.hid (show xs.take (k + 1) = ys.take (k + 1) by rw [tx, ty, ht, hxy])
        subst hxy
        clear tx ty ht HN
        go_wp2
        go_quiet (fail)
        go_wp2
        go_roundw
        case rel => exact ⟨k + 1, _, by omega, by go_num, rfl, T.out⟩
        case measure => simp [intOf]; omega
      · have hd := Lib.hid (HN.out hxy)
        have hb : (x == y) = false := by simpa using hxy
        have hb2 : (x != y) = true := by simpa using hxy
        clear tx ty ht hxy HN
        go_wp2
        go_quiet (fail)
        go_wp2
        go_ret
        exact ⟨ret_bool hd.out.symm, _, World.drewN_drewN w _ _⟩
    · have hd := Lib.hid (show decide (xs = ys) = true by
        have e : k = n := by omega
        subst e
        rw [List.take_of_length_le (by omega), List.take_of_length_le (by omega)] at ht
        simp [ht])
      clear ht h h'
      go_wp2
      go_ret
      exact ⟨ret_bool hd.out.symm, _, rfl⟩
theorem sameTexts_any (A A' : Option Addr) (n n' c c' : Nat) (w : World) (xs ys : List (List UInt8)) (h : RdT w A n xs) (h' : RdT w A' n' ys) (hm : n ≤ maxLen) :
    Calls Tryd.prog 19 #[.slice A n c, .slice A' n' c'] w (Quiet (.bool (decide (xs = ys))) w) := by
  by_cases e : n = n'
  · subst e; exact sameTexts_eq A A' n c c' w xs ys h h' hm
  · have hd : decide (xs = ys) = false := by
      simp only [decide_eq_false_iff_not]
      intro hxy
      subst hxy
      exact e (h.len.symm.trans h'.len)
    rw [hd]
    exact sameTexts_len A A' n n' c c' w e
theorem copyTexts_any (A : Option Addr) (n c : Nat) (ls : List (List UInt8)) (w : World) (h : RdT w A n ls) (hn : n ≤ 8796093022208) :
    Calls Tryd.prog 15 #[.slice A n c] w (FreshT ls w) := by
  obtain ⟨i0, hi, hz0, hz1, hz2⟩ := info_parts info_str
  have HH := Lib.hid h
  have HO := Lib.hid (ownT_empty w)
  have hlen := h.len
  clear h
  go_enter Tryd.func15, Tryd.ntmps15
  go_wp2_with (first
    | (at_builtin
       refine wpList_append_rd _ rfl (.tmp 5) (.tmp 6) 32 rfl w.heap.size 9 i0 _ 16 Tryd.underlying32 hi hz0 hz1 hz2 rfl (some ⟨w.heap.size, 0, none⟩) 0 0 [] rfl HO.out A n c (ls.map sv) rfl
         ((Rd.alloc HH.out _)) (oneCell_texts _) (by simp only [maxLen]; omega) (by omega) (by simp) ?_
       intro A3 c3 w3 hown3 hg3 hrow3))
  go_ret
  refine ⟨A3, n, c3, by simp, ?_, ?_⟩
  · have h0 : 0 + n = n := by omega
    rw [h0] at hown3
    exact hown3
  · exact ((Below.refl _ _).alloc (Nat.le_refl _) _).grown hg3 (by simp) (fun g e => (World.ownsRow.lt HO.out g e).1)
end Go.Proofs.YtbppokdaehaocaaDoor
