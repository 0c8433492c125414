/-
  A copy of a row of sessions. A walk; no statement.
-/
import Derived.Test.YtfbdmemjojjgnaaSessMem
import Derived.BigQuiet
namespace Go.Proofs.Ytfbdmemjojjgnaa
set_option maxRecDepth 100000
open Go.RowKit
set_option linter.unusedVariables false

theorem rds_sec {F : Nat → Prop} {w : World} {A : Option Addr} {c : Nat} {t : List Se} (h : RdS RSe F w A c t) (a : Addr) (ha : A = some a) : ∀ j u, (sec t)[j]? = some u → w.cell? (a.add j) = some u := by
  intro j u hu
  have hj : j < t.length * 3 := by rw [← sec_len]; exact (List.getElem?_eq_some_iff.1 hu).1
  have hk : j / 3 < t.length := by omega
  obtain ⟨a', cs, e, hb, hc, rfl⟩ := h.at_ (List.getElem?_eq_getElem hk)
  obtain rfl : a = a' := by rw [ha] at e; exact Option.some.inj e
  obtain ⟨h0, h1, h2⟩ := sec_at t (j / 3) _ (List.getElem?_eq_getElem hk)
  have hj3 : j = j / 3 * 3 + j % 3 := by omega
  rw [hj3] at hu ⊢
  rcases (show j % 3 = 0 ∨ j % 3 = 1 ∨ j % 3 = 2 by omega) with r | r | r <;> rw [r] at hu ⊢
  · rw [Nat.add_zero, h0] at hu
    obtain rfl := Option.some.inj hu
    exact hc 0 _ rfl
  · rw [h1] at hu
    obtain rfl := Option.some.inj hu
    exact hc 1 _ rfl
  · rw [h2] at hu
    obtain rfl := Option.some.inj hu
    exact hc 2 _ rfl
/-- many watches behind a row of the call's own -/
theorem wpList_app_ses {w : World} {ops : Array Oper} {rest : List Oper} {o : Oper} {a : Act} {Q : Exit → Act → World → Prop} (hgd : o.guard = none) (s x : Operand)
    (ho : o.op = .call { callee := .builtin .append, args := #[s, x], argTypes := #[23, 23] }) (base : Nat) (A : Option Addr) (n c : Nat) (l : List Se) (hs : a.eval s = .slice A n c) (hown : OwnE w base A n c l)
    (ad : Addr) (m mc : Nat) (ys : List Se) (hx : a.eval x = .slice (some ad) m mc) (hl : ys.length = m) (hnews : ∀ j u, (sec ys)[j]? = some u → w.cell? (ad.add j) = some u) (hm0 : 0 < m) (hn : n + m ≤ 100000) (hbase : base ≤ w.heap.size)
    (h : ∀ A' c' w', Hid (OwnE w' base A' (n + m) c' (l ++ ys)) → Hid (w.grownBy w' (Value.slice A n c).ownBlock) → wpList Try.prog ops Q rest (a.put o.dst (.slice A' (n + m) c')) w') : wpList Try.prog ops Q (o :: rest) a w := by
  obtain ⟨i0, hi, hz0, hz1, hz2⟩ := info_parts info_sess
  refine wpList_append_own_at _ hgd _ _ 23 ho base 36 i0 _ 3 24 Try.underlying23 hi hz0 hz1 hz2 rfl (by omega) (.slice A n c) n (sec l) hs hown ad m mc (sec ys) hx (by rw [sec_len, hl]) hnews (one_sec ys) (by simp only [maxLen]; omega) (by omega) hbase ?_
  intro v' w' h1 h2 _ h4
  obtain ⟨A', c', rfl⟩ : ∃ A' c', v' = .slice A' (n + m) c' := by
    rcases h1.2 with ⟨_, e⟩ | ⟨g, cap, cur, e, _⟩
    · omega
    · exact ⟨_, _, e⟩
  exact h A' c' w' (Lib.hid (by unfold OwnE; rw [sec_append]; exact h1)) (Lib.hid h2)
set_option maxHeartbeats 1600000 in
theorem copyE_any (A : Option Addr) (c : Nat) (t : List Se) (F : Nat → Prop) (w : World) (h : RdS RSe F w A c t) (hn : t.length ≤ 1000) : Calls Try.prog 10 #[.slice A t.length c] w (FreshE t w) := by
  have HO := Lib.hid (ownE_empty w)
  have HB := Lib.hid ((Below.refl w.heap.size w).alloc (Nat.le_refl _) (.cells #[] 36))
  have hsz : w.heap.size ≤ (w.alloc (.cells #[] 36)).heap.size := by simp
  have HSZ := Lib.hid hsz
  by_cases h0 : t = []
  · subst h0
    rcases A with _ | a
    · clear h hn
      go_enter Try.func10, Try.ntmps10
      go_wp2_with fail
      go_ret
      exact ⟨_, 0, rfl, HO.out, HB.out⟩
    · clear h hn
      go_enter Try.func10, Try.ntmps10
      go_wp2_with fail
      go_ret
      exact ⟨_, 0, rfl, HO.out, HB.out⟩
  · have hl : 0 < t.length := List.length_pos_iff.2 h0
    obtain ⟨a, _, rfl, _⟩ := h.at_ (List.getElem?_eq_getElem hl)
    have HC := Lib.hid (rds_sec (h.below HB.out) a rfl)
    obtain ⟨n, hnl⟩ : ∃ n, n = t.length := ⟨_, rfl⟩
    have HL := Lib.hid hnl.symm
    rw [← hnl] at hl hn
    rw [← hnl]
    clear h h0 hnl
    go_enter Try.func10, Try.ntmps10
    go_wp2_with (at_builtin; refine wpList_app_ses rfl _ _ rfl w.heap.size (some ⟨w.heap.size, 0, none⟩) 0 0 [] rfl HO.out a n c t rfl HL.out HC.out hl (by omega) HSZ.out ?_; intro A4 c4 w4 HO4 HG4)
    go_ret
    have ho := HO4.out
    rw [Nat.zero_add, List.nil_append] at ho
    exact ⟨A4, c4, by rw [HL.out]; rfl, by rw [HL.out]; exact ho, HB.out.grown HG4.out HSZ.out (fun b hb => Nat.le_of_eq (Option.some.inj hb))⟩
end Go.Proofs.Ytfbdmemjojjgnaa
