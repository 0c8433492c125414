/-
  Nodes copied. Walks; no statement.
-/
import Derived.Test.YtgppclmofphlfaaGreatDoorMTreeA
import Derived.Test.YtgppclmofphlfaaGreatDoorMBase
namespace Go.Proofs.YtgppclmofphlfaaGreatDoor
set_option maxRecDepth 100000
open Go.RowKit
set_option linter.unusedVariables false

def lfsBig (ls : List Lf) : Prop := ls.length * 72 ≤ 140737488355328 ∧ ∀ l ∈ ls, l.data.length ≤ 140737488355328
set_option maxHeartbeats 3200000 in
theorem copyLeaves_any (A : Option Addr) (c : Nat) (ls : List Lf) (F : Nat → Prop) (w : World) (h : RdS RLf F w A c ls) (hn : lfsBig ls) :
    Calls Tryz.prog 33 #[.slice A ls.length c] w (FreshS RLf ls w) := by
  obtain ⟨i0, hi, hz0, hz1, hz2⟩ := info_parts info_leaf
  have HR := Lib.hid h
  have HN := Lib.hid hn
  have hlen : ls.length * 72 ≤ 140737488355328 := hn.1
  have HE := Lib.hid (OwnS.empty RLf 50 (From w.heap.size) w)
  clear h hn
  go_enter Tryz.func33, Tryz.ntmps33
  go_wp2_with fail
  go_loopw [3, 4] (fun s i wr => ∃ (A' : Option Addr) (n' c' : Nat), n' ≤ ls.length ∧ s = .slice A' n' c' ∧ i = .int .i64 n' ∧ OwnS RLf 50 (From w.heap.size) w.heap.size wr A' n' c' (ls.take n') ∧ Below w.heap.size w wr) (fun _ i _ => ls.length - (intOf i).toNat)
  case atStart => exact ⟨_, 0, 0, by omega, rfl, rfl, HE.out, (Below.refl _ _).alloc (Nat.le_refl _) _⟩
  case round =>
    obtain ⟨A', n', c', hk, rfl, rfl, ho, hb⟩ := hrel
    have HB := Lib.hid hb
    by_cases hlt : n' < ls.length
    · obtain ⟨l, hl⟩ : ∃ l, ls[n']? = some l := ⟨_, List.getElem?_eq_getElem hlt⟩
      obtain ⟨x, B, d, rfl, hxb, c0, c1, c2, c3, c4, c5, hr⟩ := (HR.out.below hb).lf6 hl
      have hmem : l ∈ ls := by obtain ⟨hh, rfl⟩ := List.getElem?_eq_some_iff.1 hl; exact List.getElem_mem hh
      have HSN := Lib.hid (show ls.take (n' + 1) = ls.take n' ++ [l] by obtain ⟨hh, rfl⟩ := List.getElem?_eq_some_iff.1 hl; exact List.take_succ_eq_append_getElem hh)
      have HO := Lib.hid ho
      have HC := Lib.hid (copyBytes_big B l.data.length d l.data _ (hr.below ((Below.refl wr.heap.size wr).alloc (Nat.le_refl _) (.cells (lfC l B d).toArray 50))).rd (HN.out.2 l hmem))
      have HK := Lib.hid (Bk.new wr 50 (lfC l B d))
      have HA := Lib.hid ((Below.refl wr.heap.size wr).alloc (Nat.le_refl _) (.cells (lfC l B d).toArray 50))
      have y1 : (0 : Int) ≤ (n' : Int) := by omega
      have y2 : (n' : Int) < (ls.length : Int) := by omega
      clear hl hb hr ho hmem hxb
      go_wp2_with fail
      refine HC.out.mono ?_
      rintro en w3 ⟨A3, n3, d3, rfl, ho3, hb3⟩
      obtain rfl : l.data.length = n3 := ho3.len
      have hbw := below_next HA.out hb3 HA.out.size
      have HBW := Lib.hid hbw
      have HB3 := Lib.hid (below_next HB.out hbw HB.out.size)
      have hsz3 : wr.heap.size + 1 ≤ w3.heap.size := by have := hb3.size; simpa using this
      have HK3 := Lib.hid (HK.out.kept hb3)
      have k0 : w3.cell? ⟨wr.heap.size, 0, none⟩ = some (.string ⟨l.path.toArray⟩) := HK3.out.at_ rfl
      have k1 : w3.cell? ⟨wr.heap.size, 1, none⟩ = some (.slice B l.data.length d) := HK3.out.at_ rfl
      have k2 : w3.cell? ⟨wr.heap.size, 2, none⟩ = some (.int .i64 l.ver) := HK3.out.at_ rfl
      have k3 : w3.cell? ⟨wr.heap.size, 3, none⟩ = some (.int .i64 l.own) := HK3.out.at_ rfl
      have k4 : w3.cell? ⟨wr.heap.size, 4, none⟩ = some (.int .i64 l.next) := HK3.out.at_ rfl
      have k5 : w3.cell? ⟨wr.heap.size, 5, none⟩ = some (.int .i64 l.born) := HK3.out.at_ rfl
      have f1 := HK3.out.frozen 1
      have hsw : w.heap.size ≤ w3.heap.size := HB3.out.size
      have HWR := Lib.hid HB.out.size
      have HBG := Lib.hid (fun g hg => HO.out.block g hg)
      have HBL := Lib.hid (fun g hg => HO.out.block_lt g hg)
      obtain ⟨hl0, css, hcl, hou0, hin0⟩ := HO.out
      have HL0 := Lib.hid hl0
      have HCL := Lib.hid hcl
      have hg : w3.grownBy (w3.setCell ⟨wr.heap.size, 1, none⟩ (.slice A3 l.data.length d3)) (some wr.heap.size) := grown_set (grown_refl w3 (some wr.heap.size)) 1 _
      have hou3 := World.ownsRow.kept hou0 (grown_of_below hbw none) (by cases (Value.slice A' n' c').ownBlock <;> simp)
      have hou := World.ownsRow.kept hou3 hg (.inr fun e => by have := HBL.out _ e; omega)
      have hkp : ∀ (j : Nat) (y : Lf) (cs : List Value), (ls.take n')[j]? = some y → css[j]? = some cs → RLf.rd (fun b => (From w.heap.size b ∧ some b ≠ (Value.slice A' n' c').ownBlock)) (w3.setCell ⟨wr.heap.size, 1, none⟩ (.slice A3 l.data.length d3)) cs y := fun j y cs hy hc => by
        have h1 := RLf.keep (F' := fun b => (From w.heap.size b ∧ some b ≠ (Value.slice A' n' c').ownBlock) ∧ b < wr.heap.size) (hin0 j y cs hy hc) (Kp.of_below hbw) (fun b hb hl => ⟨hb, hl⟩)
        exact RLf.keep h1 (Kp.of_grown hg fun b hb e => by injection e with e; have := hb.2; omega) fun b hb _ => hb.1
      have HKP := Lib.hid hkp
      have hbf := bf_set (BF.own ho3) hg (fun b hb => by unfold From at hb; simp at hb; omega)
      have HBF := Lib.hid (show BF (From (wr.heap.size + 1)) _ A3 d3 l.data from bf_from hbf (by simp))
      have HB4 := Lib.hid (HB3.out.grown hg HB3.out.size (fun g hg => by cases hg; exact HWR.out))
      have hsz4 : (w3.setCell ⟨wr.heap.size, 1, none⟩ (.slice A3 l.data.length d3)).heap.size = w3.heap.size := by simp
      have HSZ := Lib.hid hsz4
      clear hkp hbf hin0 hou0 hou3 hg ho3 hb3 hbw hl0 hcl c0 c1 c2 c3 c4 c5
      go_wp2_with (at_builtin
                   refine wpList_append_own_at _ rfl _ _ 28 rfl w.heap.size 50 i0 _ 6 72 Tryz.underlying28 hi hz0 hz1 hz2 rfl (by omega) (.slice A' n' c') n' css.flatten rfl (World.ownsRow.alloc hou _) ⟨w3.heap.size, 0, none⟩ 1 1 (lfC l A3 d3) rfl rfl
                     (by have := news_row (w3.setCell ⟨wr.heap.size, 1, none⟩ (.slice A3 l.data.length d3)) (lfC l A3 d3) 50; rw [HSZ.out] at this; exact this) (by simp [lfC, Value.oneCell']) (by simp only [maxLen]; omega) (by omega) (by simp; omega) ?_
                   intro v4 w4 hown4 hg4 hnil4 hrow4)
      obtain ⟨A4, c4, rfl⟩ := form_row hown4
      have hB4 := (Below.refl (w3.setCell ⟨wr.heap.size, 1, none⟩ (.slice A3 l.data.length d3)).heap.size (w3.setCell ⟨wr.heap.size, 1, none⟩ (.slice A3 l.data.length d3))).alloc (Nat.le_refl _) (.cells (lfC l A3 d3).toArray 50)
      have HX := Lib.hid (show OwnS RLf 50 (From w.heap.size) w.heap.size w4 A4 (n' + 1) c4 (ls.take n' ++ [l]) from
        OwnS.push (R := RLf) (G := From w.heap.size) (F := From (wr.heap.size + 1)) (w := (w3.setCell ⟨wr.heap.size, 1, none⟩ (.slice A3 l.data.length d3)).alloc (.cells (lfC l A3 d3).toArray 50)) HL0.out HCL.out
          (fun j y cs hy hc => RLf.below (HKP.out j y cs hy hc) hB4) (RLf.below (show RLf.rd (From (wr.heap.size + 1)) _ (lfC l A3 d3) l from ⟨A3, d3, rfl, HBF.out⟩) hB4)
          (fun b hb _ => ⟨by have := HWR.out; unfold From at *; omega, fun e => by have := HBL.out b e.symm; unfold From at hb; omega⟩) hg4 hown4 hrow4)
      have HB5 := Lib.hid ((HB4.out.alloc HB4.out.size (.cells (lfC l A3 d3).toArray 50)).grown hg4 (by have := HB4.out.size; simp at this ⊢; omega) (fun g hg => HBG.out g hg))
      clear hown4 hg4 hrow4 hB4 hou hnil4
      go_roundw
      case rel => exact ⟨A4, n' + 1, c4, by omega, rfl, by go_num, by rw [HSN.out]; exact HX.out, HB5.out⟩
      case measure => simp [intOf]; omega
    · obtain rfl : n' = ls.length := by omega
      rw [List.take_length] at ho
      have HX := Lib.hid (ho.rds (fun b hb => hb))
      clear hb ho
      go_wp2_with fail
      go_ret
      exact ⟨A', c', rfl, HX.out, HB.out⟩
end Go.Proofs.YtgppclmofphlfaaGreatDoor
