import Derived.Test.YtfdmnnbcnaofgaaDoorPutBig
import Derived.StillTailTactics
namespace Go.Proofs.YtfdmnnbcnaofgaaDoor
set_option linter.unusedVariables false
open Go.RowKit
open Sh

namespace Sh
theorem sum_split (m : List UInt8) (q : Nat) (hq : q = m.length / 64) (s : S8) (hs : s = absorb q init m) (n : Nat) (tl : List UInt8) (hp : pad m = m.take (64 * q) ++ tl) (hn : tl.length = 64 * n) : sum m = (absorb n s tl).bytes := by
  unfold sum
  have hl : (m.take (64 * q)).length = 64 * q := by rw [List.length_take]; omega
  have e : (pad m).length / 64 = q + n := by rw [hp, List.length_append, hl, hn]; omega
  rw [e, hp, absorb_more q n init _ tl hl, absorb_front q init m (by omega), ← hs]
theorem end_lo {m blk : List UInt8} {s : S8} {f : Nat} (h : Par m s blk f) (hb : blk.length = 64) (hf : f < 56) : sum m = (mixS s ((blk.take f ++ [128] ++ zeros (55 - f)) ++ big 8 (m.length * 8))).bytes := by
  obtain ⟨h1, h2, h3⟩ := h
  have hz : (119 - m.length % 64) % 64 = 55 - f := by omega
  have e := sum_split m _ rfl s h1 1 ((blk.take f ++ [128] ++ zeros (55 - f)) ++ big 8 (m.length * 8)) (by
    unfold pad
    rw [hz, h3, ← List.append_assoc, ← List.append_assoc, ← List.append_assoc, List.take_append_drop]) (by
    simp only [List.length_append, List.length_take, zeros_len, big_len, List.length_cons, List.length_nil]; omega)
  rw [e]
  show (mixS s (List.take 64 _)).bytes = _
  rw [List.take_of_length_le (by simp only [List.length_append, List.length_take, zeros_len, big_len, List.length_cons, List.length_nil]; omega)]
theorem end_hi {m blk : List UInt8} {s : S8} {f : Nat} (h : Par m s blk f) (hb : blk.length = 64) (hf : 56 ≤ f) : sum m = (mixS (mixS s (blk.take f ++ [128] ++ zeros (63 - f))) (zeros 56 ++ big 8 (m.length * 8))).bytes := by
  obtain ⟨h1, h2, h3⟩ := h
  have hz : (119 - m.length % 64) % 64 = (63 - f) + 56 := by omega
  have hl1 : (blk.take f ++ [128] ++ zeros (63 - f)).length = 64 := by simp only [List.length_append, List.length_take, zeros_len, List.length_cons, List.length_nil]; omega
  have e := sum_split m _ rfl s h1 2 ((blk.take f ++ [128] ++ zeros (63 - f)) ++ (zeros 56 ++ big 8 (m.length * 8))) (by
    unfold pad
    have hzz : zeros (63 - f + 56) = zeros (63 - f) ++ zeros 56 := List.replicate_append_replicate.symm
    rw [hz, hzz, h3]
    simp only [← List.append_assoc]
    rw [List.take_append_drop]) (by
    simp only [List.length_append, hl1, zeros_len, big_len])
  rw [e]
  show (mixS (mixS s (List.take 64 _)) (List.take 64 (List.drop 64 _))).bytes = _
  have e1 : List.take 64 ((blk.take f ++ [128] ++ zeros (63 - f)) ++ (zeros 56 ++ big 8 (m.length * 8))) = blk.take f ++ [128] ++ zeros (63 - f) := by rw [← hl1, List.take_left]
  have e2 : List.drop 64 ((blk.take f ++ [128] ++ zeros (63 - f)) ++ (zeros 56 ++ big 8 (m.length * 8))) = zeros 56 ++ big 8 (m.length * 8) := by rw [← hl1, List.drop_left]
  rw [e1, e2, List.take_of_length_le (l := zeros 56 ++ big 8 (m.length * 8)) (by rw [List.length_append, zeros_len, big_len]; omega)]
/-- the block, once a bit 1 and zeros are laid in -/
theorem end_blk {blk : List UInt8} {f : Nat} (hb : blk.length = 64) (hf : f < 64) : (blk.set f 128).take (f + 1) ++ zeros (63 - f) ++ (blk.set f 128).drop (f + 1 + (zeros (63 - f)).length) = blk.take f ++ [128] ++ zeros (63 - f) := by
  rw [List.drop_eq_nil_of_le (by simp [zeros_len, hb]; omega), List.append_nil, List.take_succ_eq_append_getElem (by simp [hb]; omega)]
  simp [List.take_set_of_le]
end Sh

theorem stCells_setByte {ws : List UInt32} (h : ws.length = 8) {blk : List UInt8} (hb : blk.length = 64) (f len : Nat) {i : Nat} (hi : i < 64) (x : UInt8) : (stCells ws blk f len).set (8 + i) (bv x) = stCells ws (blk.set i x) f len := by
  unfold stCells
  rw [List.set_append_right _ _ (by simp [h]), List.length_map, h, Nat.add_sub_cancel_left, List.set_append_left _ _ (by simp [hb]; omega), List.map_set]

/-- clear on a piece of a block that is known, as one step of a region that draws its order -/
theorem step_clear_bk {P : Program} {ops : Array Oper} {o : Oper} {a : Act} {w : World} {K : Act → World → Prop} {Q : Exit → Act → World → Prop} {E : Prop} (hgd : o.guard = none) (d : Operand) (dT : TypeId)
    (ho : o.op = .call { callee := .builtin .clear, args := #[d], argTypes := #[dT] }) (elem : TypeId) (z : Value) (hu : P.underlying dT = some (.slice elem)) (hz : ∀ w, (zeroValue elem).run P w = .ok z w) (hz1 : z.cells = #[z]) (h1 : z.oneCell' = true)
    (g off off' n c : Nat) (hd : a.eval d = .slice (some ⟨g, off', none⟩) n c) (hoff : 0 < n → off' = off) (t : TypeId) (cur : List Value) (hb : Bk w g t cur) (hfit : off + n ≤ cur.length)
    (h : ∀ w', Hid (Bk w' g t (cur.take off ++ List.replicate n z ++ cur.drop (off + n))) → Hid (w.grownBy w' (some g)) → K (a.put o.dst (.tuple #[])) w') :
    if Region.wanted o (yielded ops a.tmps) = true then Oper.wp P o a w K Q else E := by
  have hw : Region.wanted o (yielded ops a.tmps) = true := by simp [Region.wanted, hgd]
  rw [if_pos hw]
  by_cases h0 : 0 < n
  · obtain rfl := hoff h0
    have hrun := Lib.run_clear_slice (P := P) w dT elem o.type z hu hz hz1 h1 g off' n c h0 (fun j hj => (hb.there hfit j hj).1) (fun j hj => (hb.there hfit j hj).2)
    unfold Oper.wp
    simp [execOp, ho, resolve, invoke, builtin, hd, hrun, Result.andThen]
    refine h _ (Lib.hid ?_) (Lib.hid (grown_setCells _ off' (grown_refl w _)))
    have e := Bk.setCells (List.replicate n z) off' hb (by simpa using hfit)
    simpa using e
  · have e0 : n = 0 := by omega
    subst e0
    have hrun : (Builtin.clear_ #[dT] o.type #[.slice (some ⟨g, off', none⟩) 0 c]).run P w = .ok (.tuple #[]) w := by simp [Builtin.clear_, run_underlying hu]
    unfold Oper.wp
    simp [execOp, ho, resolve, invoke, builtin, hd, hrun, Result.andThen]
    refine h _ (Lib.hid ?_) (Lib.hid (grown_refl w _))
    simpa using hb
theorem wpList_clear_bk {P : Program} {ops : Array Oper} {rest : List Oper} {o : Oper} {a : Act} {w : World} {Q : Exit → Act → World → Prop} (hgd : o.guard = none) (d : Operand) (dT : TypeId)
    (ho : o.op = .call { callee := .builtin .clear, args := #[d], argTypes := #[dT] }) (elem : TypeId) (z : Value) (hu : P.underlying dT = some (.slice elem)) (hz : ∀ w, (zeroValue elem).run P w = .ok z w) (hz1 : z.cells = #[z]) (h1 : z.oneCell' = true)
    (g off n c : Nat) (hd : a.eval d = .slice (some ⟨g, off, none⟩) n c) (hn : 0 < n) (t : TypeId) (cur : List Value) (hb : Bk w g t cur) (hfit : off + n ≤ cur.length)
    (h : ∀ w', Hid (Bk w' g t (cur.take off ++ List.replicate n z ++ cur.drop (off + n))) → Hid (w.grownBy w' (some g)) → wpList P ops Q rest (a.put o.dst (.tuple #[])) w') : wpList P ops Q (o :: rest) a w := by
  refine wpList_plain hgd fun K hK => ?_
  have hrun := Lib.run_clear_slice (P := P) w dT elem o.type z hu hz hz1 h1 g off n c hn (fun j hj => (hb.there hfit j hj).1) (fun j hj => (hb.there hfit j hj).2)
  unfold Oper.wp
  simp [execOp, ho, resolve, invoke, builtin, hd, hrun, Result.andThen]
  refine hK _ _ (h _ (Lib.hid ?_) (Lib.hid (grown_setCells _ off (grown_refl w _))))
  have e := Bk.setCells (List.replicate n z) off hb (by simpa using hfit)
  simpa using e
/-- the bytes of the first n words -/
def bytesTo (ws : List UInt32) (n : Nat) : List UInt8 := (ws.take n).flatMap fun x => big 4 x.toNat
theorem bytesTo_len (ws : List UInt32) (n : Nat) (h : n ≤ ws.length) : (bytesTo ws n).length = 4 * n := by
  have e : ∀ l : List UInt32, (l.flatMap fun x => big 4 x.toNat).length = 4 * l.length := by
    intro l
    induction l with
    | nil => rfl
    | cons a r ih => simp [ih, big_len]; omega
  rw [bytesTo, e, List.length_take]; omega
theorem bytesTo_succ (ws : List UInt32) (n : Nat) (h : n < ws.length) : bytesTo ws (n + 1) = bytesTo ws n ++ big 4 (ws.getD n 0).toNat := by
  unfold bytesTo
  rw [List.take_succ_eq_append_getElem h, List.flatMap_append]
  simp [h]
/-- the row of the digest, once n words stand in it -/
def sumRow (ws : List UInt32) (n : Nat) : List Value := (bytesTo ws n).map bv ++ List.replicate (32 - 4 * n) (.int .u8 0)
theorem sumRow_len (ws : List UInt32) (n : Nat) (h : n ≤ ws.length) (h8 : n ≤ 8) : (sumRow ws n).length = 32 := by
  simp only [sumRow, List.length_append, List.length_map, bytesTo_len ws n h, List.length_replicate]; omega
theorem sumRow_lay (ws : List UInt32) (n : Nat) (h : n < ws.length) (h8 : n < 8) : layBig (sumRow ws n) (4 * n) 4 4 (ws.getD n 0).toNat = sumRow ws (n + 1) := by
  unfold layBig sumRow
  have hl : ((bytesTo ws n).map bv).length = 4 * n := by rw [List.length_map, bytesTo_len ws n (by omega)]
  have e1 : ((bytesTo ws n).map bv ++ List.replicate (32 - 4 * n) (Value.int .u8 0)).take (4 * n + (4 - 4)) = (bytesTo ws n).map bv := by
    rw [show 4 * n + (4 - 4) = ((bytesTo ws n).map bv).length by omega, List.take_left]
  have e2 : ((bytesTo ws n).map bv ++ List.replicate (32 - 4 * n) (Value.int .u8 0)).drop (4 * n + 4) = List.replicate (32 - 4 * (n + 1)) (Value.int .u8 0) := by
    rw [show 4 * n + 4 = ((bytesTo ws n).map bv).length + 4 by omega, List.drop_length_add_append, List.drop_replicate]
    congr 1
  rw [e1, e2, bytesTo_succ ws n h, List.map_append]
theorem sumRow_8 (s : S8) : sumRow s.list 8 = s.bytes.map bv := by
  unfold sumRow bytesTo S8.bytes
  rw [List.take_of_length_le (show s.list.length ≤ 8 from Nat.le_refl 8)]
  simp
theorem zeros_map (n : Nat) : (zeros n).map bv = List.replicate n (.int .u8 0) := by simp [zeros, bv]
end Go.Proofs.YtfdmnnbcnaofgaaDoor
