/-
  Watches: one is put into a row (Insert). A walk; no statement.
-/
import Derived.Test.YtbppokdaehaocaaDoorWatchFind
import Derived.Lib.Overlaps
import Derived.Lib.AppendZerosOnto
import Derived.Laws.CopyRow
import Derived.Laws.IdiomCopy
import Derived.Laws.Externs
import Derived.Deep.RegionLaw
namespace Go.Proofs.YtbppokdaehaocaaDoor
set_option maxRecDepth 100000
open Go.RowKit
set_option linter.unusedVariables false

theorem run_copy_wt (w : World) (ty : TypeId) (b o dLen dCap : Nat) (ad : Addr) (sLen sCap : Nat) (cur cs : List Value) (hb : Bk w b 31 cur) (hn : cs.length = Nat.min sLen dLen * 3)
    (hsrc : ∀ j v, cs[j]? = some v → w.cell? (ad.add j) = some v) (hfit : o + cs.length ≤ cur.length) (h1 : ∀ v ∈ cs, v.oneCell' = true) :
    (Builtin.copy_ #[27, 27] ty #[.slice (some ⟨b, o, none⟩) dLen dCap, .slice (some ad) sLen sCap]).run Tryd.prog w = .ok (goInt (Nat.min sLen dLen)) (w.setCells b o cs) := by
  have hl := run_loadCells_list (P := Tryd.prog) w ad cs hsrc
  have hst := run_storeCells_cells (P := Tryd.prog) b o cs 0 w (fun j hj => by
      rw [Nat.add_zero, hb.cell, List.getElem?_eq_getElem (by omega)]; rfl) (fun j _ => hb.frozen _) h1
  have hu := Tryd.underlying27
  have hs := info_watch3
  cases hq : Tryd.prog.info? 31 with
  | none => simp [hq] at hs
  | some i =>
    have hi : i.size = 3 := by simpa [hq] using hs
    simp [Builtin.copy_, run_underlying hu, Builtin.lenOf, Builtin.firstCells, sizeOf, typeInfo, hq, hi, ← hn, hl, hst]
theorem wpList_copy_wt {w : World} {ops : Array Oper} {rest : List Oper} {o : Oper} {a : Act} {Q : Exit → Act → World → Prop} (hgd : o.guard = none) (d s : Operand)
    (ho : o.op = .call { callee := .builtin .copy, args := #[d, s], argTypes := #[27, 27] }) (b off dLen dCap : Nat) (ad : Addr) (sLen sCap : Nat) (hd : a.eval d = .slice (some ⟨b, off, none⟩) dLen dCap) (hs : a.eval s = .slice (some ad) sLen sCap)
    (cur cs : List Value) (hb : Bk w b 31 cur) (hn : cs.length = Nat.min sLen dLen * 3)
    (hsrc : ∀ j v, cs[j]? = some v → w.cell? (ad.add j) = some v) (hfit : off + cs.length ≤ cur.length) (h1 : ∀ v ∈ cs, v.oneCell' = true)
    (h : ∀ w', Hid (Bk w' b 31 (cur.take off ++ cs ++ cur.drop (off + cs.length))) → Hid (w.grownBy w' (some b)) → wpList Tryd.prog ops Q rest (a.put o.dst (goInt (Nat.min sLen dLen))) w') : wpList Tryd.prog ops Q (o :: rest) a w := by
  refine wpList_plain hgd fun K hK => ?_
  have hrun := run_copy_wt w o.type b off dLen dCap ad sLen sCap cur cs hb hn hsrc hfit h1
  unfold Oper.wp
  simp [execOp, ho, resolve, invoke, builtin, hd, hs, hrun, Result.andThen]
  exact hK _ _ (h _ (Lib.hid (hb.setCells cs off hfit)) (Lib.hid (grown_setCells cs off (grown_refl w _))))
theorem step_copy_wt {ops : Array Oper} {o : Oper} {a : Act} {w : World} {K : Act → World → Prop} {Q : Exit → Act → World → Prop} {E : Prop} (hgd : o.guard = none) (d s : Operand)
    (ho : o.op = .call { callee := .builtin .copy, args := #[d, s], argTypes := #[27, 27] }) (b off dLen dCap : Nat) (ad : Addr) (sLen sCap : Nat) (hd : a.eval d = .slice (some ⟨b, off, none⟩) dLen dCap) (hs : a.eval s = .slice (some ad) sLen sCap)
    (cur cs : List Value) (hb : Bk w b 31 cur) (hn : cs.length = Nat.min sLen dLen * 3)
    (hsrc : ∀ j v, cs[j]? = some v → w.cell? (ad.add j) = some v) (hfit : off + cs.length ≤ cur.length) (h1 : ∀ v ∈ cs, v.oneCell' = true)
    (h : ∀ w', Hid (Bk w' b 31 (cur.take off ++ cs ++ cur.drop (off + cs.length))) → Hid (w.grownBy w' (some b)) → K (a.put o.dst (goInt (Nat.min sLen dLen))) w') :
    if Region.wanted o (yielded ops a.tmps) = true then Oper.wp Tryd.prog o a w K Q else E := by
  have hw : Region.wanted o (yielded ops a.tmps) = true := by simp [Region.wanted, hgd]
  rw [if_pos hw]
  have hrun := run_copy_wt w o.type b off dLen dCap ad sLen sCap cur cs hb hn hsrc hfit h1
  unfold Oper.wp
  simp [execOp, ho, resolve, invoke, builtin, hd, hs, hrun, Result.andThen]
  exact h _ (Lib.hid (hb.setCells cs off hfit)) (Lib.hid (grown_setCells cs off (grown_refl w _)))
/-- what a call that puts one watch in leaves -/
def InsP (A : Option Addr) (n c : Nat) (t' : List Wt) (w : World) (e : Ending) (w' : World) : Prop :=
  ∃ A' c', e = .returned (.slice A' (n + 1) c') ∧ OwnW w' 0 A' (n + 1) c' t' ∧ w.grownBy w' (Value.slice A n c).ownBlock ∧ ((Value.slice A' (n + 1) c').ownBlock = (Value.slice A n c).ownBlock ∨ ∀ b, (Value.slice A' (n + 1) c').ownBlock = some b → w.heap.size ≤ b)
theorem insP_app {A A' : Option Addr} {n c c' : Nat} {t : List Wt} {x : Wt} {w w' : World} (h1 : OwnW w' 0 A' (n + 1) c' (t ++ [x])) (h2 : w.grownBy w' (Value.slice A n c).ownBlock) (h3 : (Value.slice A' (n + 1) c').ownBlock = (Value.slice A n c).ownBlock ∨ (Value.slice A' (n + 1) c').ownBlock = some w.heap.size) (hl : t.length = n) :
    InsP A n c (t.take n ++ x :: t.drop n) w (.returned (.slice A' (n + 1) c')) w' :=
  ⟨A', c', rfl, by rw [List.take_of_length_le (by omega), List.drop_of_length_le (by omega)]; exact h1, h2, h3.imp id fun e b hb => by rw [e] at hb; injection hb with hb; omega⟩
set_option maxHeartbeats 3200000 in
theorem insert_end (A : Option Addr) (n c V : Nat) (t : List Wt) (x : Wt) (w : World) (ho : OwnW w 0 A n c t) (hV : Bk w V 31 (wtC x)) (hn : n ≤ 100000) :
    Calls Tryd.prog 32 #[.slice A n c, .int .i64 n, .slice (some ⟨V, 0, none⟩) 1 1] w (InsP A n c (t.take n ++ x :: t.drop n) w) := by
  have hl := ho.len
  have hcap := ho.cap
  have HO := Lib.hid ho
  have HL := Lib.hid hl
  have HN := Lib.hid (show ∀ j u, (wtC x)[j]? = some u → w.cell? ((⟨V, 0, none⟩ : Addr).add j) = some u from fun j u hu => by
    rw [at_add, Nat.zero_add]; exact hV.at_ hu)
  have z0 : ¬ ((1 : Int) = 0) := by omega
  rcases ho.2 with ⟨e1, e2⟩ | ⟨g, cap, cur, e1, _, _, hnc, hcm, _⟩
  · injection e1 with e3 _ e5
    subst e3 e5 e2
    clear ho hcap hV hl
    go_enter Tryd.func32, Tryd.ntmps32
    go_wp2_with (at_builtin; refine wpList_app_wt rfl _ _ rfl 0 none 0 0 t rfl HO.out ⟨V, 0, none⟩ x rfl HN.out (by omega) (Nat.zero_le _) ?_; intro A' c' w' HO' HG' HR')
    go_ret
    exact insP_app HO'.out HG'.out HR'.out HL.out
  · injection e1 with e3 _ e5
    subst e3 e5
    have hcm2 : c ≤ 9223372036854775807 := by simp only [maxLen] at hcm; omega
    clear ho hcap hV hl hcm
    by_cases hc : c = n
    · subst hc
      go_enter Tryd.func32, Tryd.ntmps32
      go_wp2_with (at_builtin; refine wpList_app_wt rfl _ _ rfl 0 (some ⟨g, 0, none⟩) c c t rfl HO.out ⟨V, 0, none⟩ x rfl HN.out (by omega) (Nat.zero_le _) ?_; intro A' c' w' HO' HG' HR')
      go_ret
      exact insP_app HO'.out HG'.out HR'.out HL.out
    · go_enter Tryd.func32, Tryd.ntmps32
      go_wp2_with (at_builtin; refine wpList_app_wt rfl _ _ rfl 0 (some ⟨g, 0, none⟩) n c t rfl HO.out ⟨V, 0, none⟩ x rfl HN.out (by omega) (Nat.zero_le _) ?_; intro A' c' w' HO' HG' HR')
      go_ret
      exact insP_app HO'.out HG'.out HR'.out HL.out
end Go.Proofs.YtbppokdaehaocaaDoor
