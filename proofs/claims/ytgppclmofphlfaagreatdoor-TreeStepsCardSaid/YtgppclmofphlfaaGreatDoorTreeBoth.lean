/-
  The document's tree in a variable of the law's, beside the program's; both compared. A walk and plain lemmas; no statement.
-/
import Derived.Test.YtgppclmofphlfaaGreatDoorMTreeL
import Derived.Test.YtgppclmofphlfaaGreatDoorTreeSame
import Derived.Test.YtgppclmofphlfaaGreatDoorTreeRef12
import Derived.Test.YtgppclmofphlfaaGreatDoorTreeRef7
import Derived.Test.YtgppclmofphlfaaGreatDoorTreeRef10
namespace Go.Proofs.YtgppclmofphlfaaGreatDoor
set_option maxRecDepth 100000
open Go.RowKit
set_option linter.unusedVariables false

/-- the variable at gm holds the tree t as a value; the program's tree (its blocks F) leaves it alone -/
def RefOn (F : Nat → Prop) (gm : Nat) (t : List Lf) (w : World) : Prop := ¬ F gm ∧ ∃ A c, Bk w gm 30 [.slice A t.length c] ∧ RdS RLf (fun b => ¬ F b ∧ b ≠ gm) w A c t
section
variable {F F' : Nat → Prop} {gm : Nat} {t t' : List Lf} {w w' : World}
theorem RefOn.below (h : RefOn F gm t w) (hb : Below w.heap.size w w') : RefOn F gm t w' := by
  obtain ⟨h1, A, c, h2, h3⟩ := h
  exact ⟨h1, A, c, h2.kept hb, h3.below hb⟩
theorem RefOn.lt (h : RefOn F gm t w) : gm < w.heap.size := h.2.choose_spec.choose_spec.1.lt
/-- behind a call that changes the program's tree -/
theorem RefOn.did (h : RefOn F gm t w) (hF : ∀ k, F' k → F k ∨ w.heap.size ≤ k) (hc : Chg F w w') : RefOn F' gm t w' := by
  have hlt := h.lt
  obtain ⟨h1, A, c, h2, h3⟩ := h
  refine ⟨fun hf => ?_, A, c, hc.bk h2 h1, h3.keep ⟨hc.size, fun b hb hl => hc.block b hl hb.1⟩ fun b hb hl => ⟨fun hf => ?_, hb.2⟩⟩
  · rcases hF gm hf with q | q
    · exact h1 q
    · omega
  · rcases hF b hf with q | q
    · exact hb.1 q
    · omega
/-- another value put -/
theorem RefOn.put (h : RefOn F gm t w) (hF : ∀ k, F k → k < w.heap.size) (hX : Below w.heap.size w w') {A : Option Addr} {c : Nat} (hr : RdS RLf (fun b => (¬ F b ∧ b ≠ gm) ∨ w.heap.size ≤ b) w' A c t') : RefOn F gm t' (w'.setCell ⟨gm, 0, none⟩ (.slice A t'.length c)) := by
  have hlt := h.lt
  obtain ⟨h1, A0, c0, h2, h3⟩ := h
  have g1 := grown_set (grown_refl w' (some gm)) 0 (Value.slice A t'.length c)
  have hp : ∀ b, ((¬ F b ∧ b ≠ gm) ∨ w.heap.size ≤ b) → ¬ F b ∧ b ≠ gm := fun b hb => by
    rcases hb with hb | hb
    · exact hb
    · exact ⟨fun hf => by have := hF b hf; omega, by omega⟩
  exact ⟨h1, A, c, (h2.kept hX).set 0 _, hr.keep (Kp.of_grown g1 fun b hb e => by injection e with e; exact (hp b hb).2 e) fun b hb _ => hp b hb⟩
/-- a new variable -/
theorem RefOn.new {G : Nat → Prop} {A : Option Addr} {c : Nat} (hF : ∀ k, F k → k < w.heap.size) (hr : RdS RLf G w A c t) (hG : ∀ b, G b → b < w.heap.size → ¬ F b) : RefOn F w.heap.size t (w.alloc (.cells #[.slice A t.length c] 30)) :=
  ⟨fun hf => Nat.lt_irrefl _ (hF _ hf), A, c, Bk.new w _ [.slice A t.length c], (hr.keep (F' := fun b => ¬ F b ∧ b < w.heap.size) ⟨Nat.le_refl _, fun _ _ _ => rfl⟩ (fun b hb hl => ⟨hG b hb hl, hl⟩)).keep (Kp.of_below ((Below.refl w.heap.size w).alloc (Nat.le_refl _) _)) fun b hb _ => ⟨hb.1, by omega⟩⟩
/-- the program's tree beside a store into the variable -/
theorem TOn.beside {w0 : World} {g n : Nat} (h : TOn F w0 g n t' w) (h1 : ¬ F gm) (h0 : w0.heap.size ≤ gm) (v : Value) : TOn F w0 g n t' (w.setCell ⟨gm, 0, none⟩ v) :=
  h.chg (G := (· = gm)) ((Chg.refl (· = gm) w).set (.inl rfl) 0 v) (fun k hk e => h1 (by rw [← e]; exact hk)) (fun k e => by rw [e]; exact h0)
end
set_option maxHeartbeats 3200000 in
theorem same_any (g : Nat) (t : List Lf) (F : Nat → Prop) (w : World) (hT : TreeAt F w g t) (hn : t.length ≤ 900) (hp : ∀ l ∈ t, l.path.length ≤ 64) (hd : ∀ l ∈ t, l.data.length ≤ 1000) (A : Option Addr) (c : Nat) (t' : List Lf) (G : Nat → Prop) (hr : RdS RLf G w A c t') :
    Calls Tryz.prog 26 #[.pointer (some ⟨g, 0, none⟩), .agg #[.slice A t'.length c]] w (Tells (.bool (decide (t = t'))) w) := by
  obtain ⟨bq, hbq⟩ : ∃ b, b = decide (t = t') := ⟨_, rfl⟩
  rw [← hbq]
  have HBQ := Lib.hid hbq
  obtain ⟨W1, hW1⟩ : ∃ W1, W1 = w.alloc (.cells #[.slice A t'.length c] 30) := ⟨_, rfl⟩
  have HB1 := Lib.hid (show Below w.heap.size w W1 by rw [hW1]; exact (Below.refl _ w).alloc (Nat.le_refl _) _)
  have HK1 := Lib.hid (show Bk W1 w.heap.size 30 [.slice A t'.length c] by rw [hW1]; exact Bk.new w 30 [.slice A t'.length c])
  have HW1 := Lib.hid hW1
  have HBD := Lib.hid (below_drew (Below.refl W1.heap.size W1))
  have HAL := Lib.hid (all_any g t F W1.drew ((hT.below HB1.out).below (below_drew (Below.refl _ _))) hn hp hd)
  have HRD := Lib.hid (fun X (hb : Below W1.heap.size W1 X) => hr.below (HB1.out.trans (hb.mono HB1.out.size)))
  have HSX := Lib.hid (fun X (hb : Below W1.heap.size W1 X) => show X.cell? ⟨w.heap.size, 0, none⟩ = some (.slice A t'.length c) from (HK1.out.kept hb).at_ rfl)
  clear hW1 hbq hT hn hp hd hr
  go_enter Tryz.func26, Tryz.ntmps26
  go_upto_region 1 with fail
  rw [← HW1.out]
  go_region_held (fun X => X.cell? ⟨w.heap.size, 0, none⟩ = some (.slice A t'.length c))
    (first | with_reducible exact HSX.out _ HB3.out | with_reducible exact HSX.out _ HB2.out | with_reducible exact HSX.out _ HBD.out)
    (first
      | (go_at_call 37
         refine HAL.out.mono ?_
         rintro e w2 ⟨A2, c2, rfl, ho2, hb2⟩
         have HB2 := Lib.hid (show Below W1.heap.size W1 w2 from HBD.out.trans hb2)
         have HR2 := Lib.hid (ho2.rds (fun b hb => hb))
         clear ho2 hb2)
      | (go_at_call 36
         refine (sameLeaves_any A2 A c2 c t t' _ _ w2 HR2.out (HRD.out w2 HB2.out)).mono ?_
         rintro e w3 ⟨rfl, hb3⟩
         have HB3 := Lib.hid (HB2.out.trans (hb3.mono HB2.out.size))
         clear hb3))
  go_wp2_with fail
  go_ret
  exact ⟨by rw [HBQ.out]; rfl, HB1.out.trans (HB3.out.mono HB1.out.size)⟩
end Go.Proofs.YtgppclmofphlfaaGreatDoor
