import Derived.Test.YtmiejaohkgemnaaDoorWrite
import Derived.Lib.SliceRun
import Derived.StillTailTactics

namespace Go.Proofs.YtmiejaohkgemnaaDoor
set_option linter.unusedVariables false
open Go.RowKit
open Sh

theorem big_cons (t v : Nat) : big (t + 1) v = UInt8.ofNat (v / 256 ^ t) :: big t v := by
  induction t generalizing v with
  | zero => simp [big]
  | succ t ih =>
    rw [show big (t + 1 + 1) v = big (t + 1) (v / 256) ++ [UInt8.ofNat v] from rfl, ih (v / 256), show big (t + 1) v = big t (v / 256) ++ [UInt8.ofNat v] from rfl, Nat.div_div_eq_div_mul, Nat.pow_succ, Nat.mul_comm (256 ^ t) 256]
    rfl
theorem byte_low (x : Nat) : bv (UInt8.ofNat x) = .int .u8 ((x : Int) % 256) := by
  unfold bv
  congr 1

def PutBig (g : Nat) (t : TypeId) (cs : List Value) (w : World) (e : Ending) (w' : World) : Prop := e = .returned (.tuple #[]) ∧ Bk w' g t cs ∧ w.grownBy w' (some g)

/-- the row with the lowest bytes of v laid in, t of them -/
def layBig (cs : List Value) (o k t v : Nat) : List Value := cs.take (o + (k - t)) ++ (big t v).map bv ++ cs.drop (o + k)
theorem layBig_0 (cs : List Value) (o k v : Nat) (h : o + k ≤ cs.length) : layBig cs o k 0 v = cs := by simp [layBig, big]
theorem layBig_len (cs : List Value) (o k t v : Nat) (h : o + k ≤ cs.length) (ht : t ≤ k) : (layBig cs o k t v).length = cs.length := by
  simp only [layBig, List.length_append, List.length_take, List.length_drop, List.length_map, big_len]; omega
theorem layBig_set (cs : List Value) (o k t v : Nat) (h : o + k ≤ cs.length) (ht : t < k) : (layBig cs o k t v).set (o + (k - (t + 1))) (bv (UInt8.ofNat (v / 256 ^ t))) = layBig cs o k (t + 1) v := by
  unfold layBig
  have e1 : cs.take (o + (k - t)) = cs.take (o + (k - (t + 1))) ++ [cs[o + (k - (t + 1))]'(by omega)] := by
    rw [show o + (k - t) = o + (k - (t + 1)) + 1 by omega, List.take_succ_eq_append_getElem]
  rw [e1, big_cons, List.append_assoc, List.append_assoc, List.set_append_right _ _ (by rw [List.length_take]; omega)]
  rw [show o + (k - (t + 1)) - (cs.take (o + (k - (t + 1)))).length = 0 by rw [List.length_take]; omega]
  simp

set_option maxHeartbeats 1000000 in
set_option maxRecDepth 100000 in
theorem putBig_any (g o k c : Nat) (t : TypeId) (cs : List Value) (v : Nat) (w : World) (h : Bk w g t cs) (hl : o + k ≤ cs.length) (hk : k ≤ 64) (hv : v < 18446744073709551616) :
    Calls Tryd.prog 88 #[.slice (some ⟨g, o, none⟩) k c, .int .u64 (v : Int)] w (PutBig g t (layBig cs o k k v) w) := by
  have HB := Lib.hid h
  have HL := Lib.hid hl
  have HV := Lib.hid hv
  clear h hl hv
  go_enter Tryd.func88, Tryd.ntmps88
  go_wp2_with fail
  go_loopw [1, 4] (fun x i wr => ∃ j : Nat, j ≤ k ∧ i = .int .i64 ((j : Int) - 1) ∧ x = .int .u64 ((v / 256 ^ (k - j) : Nat) : Int) ∧ Bk wr g t (layBig cs o k (k - j) v) ∧ w.grownBy wr (some g)) (fun _ i _ => (intOf i + 1).toNat)
  case atStart => exact ⟨k, Nat.le_refl _, rfl, by simp, by rw [Nat.sub_self, layBig_0 _ _ _ _ HL.out]; exact HB.out, grown_refl _ _⟩
  case round =>
    obtain ⟨j, hj, rfl, rfl, hb, hg⟩ := hrel
    by_cases hlt : 0 < j
    · have HX := Lib.hid (show v / 256 ^ (k - j) / 256 = v / 256 ^ (k - (j - 1)) by
        rw [Nat.div_div_eq_div_mul, ← Nat.pow_succ]; congr 2; omega)
      have hcl : (layBig cs o k (k - j) v).length = cs.length := layBig_len _ _ _ _ _ HL.out (by omega)
      have hat : o + (j - 1) < (layBig cs o k (k - j) v).length := by rw [hcl]; have := HL.out; omega
      obtain ⟨old, hold⟩ : ∃ old, (layBig cs o k (k - j) v)[o + (j - 1)]? = some old := ⟨_, List.getElem?_eq_getElem hat⟩
      have hc : wr.cell? ⟨g, o + (j - 1), none⟩ = some old := hb.at_ hold
      have hf := hb.frozen (o + (j - 1))
      have hset := layBig_set cs o k (k - j) v HL.out (by omega)
      rw [show k - (k - j + 1) = j - 1 by omega, show k - j + 1 = k - (j - 1) by omega] at hset
      have HS := Lib.hid hset
      have HB2 := Lib.hid hb
      have HG2 := Lib.hid hg
      have hx64 : v / 256 ^ (k - j) < 18446744073709551616 := Nat.lt_of_le_of_lt (Nat.div_le_self _ _) HV.out
      clear hset hb hg hold hat hcl
      generalize v / 256 ^ (k - j) = x at HX HS hx64 ⊢
      go_wp2_with fail
      refine ⟨⟨j - 1, by omega, ?_, ?_, ?_, grown_set HG2.out _ _⟩, ?_⟩
      · congr 1; omega
      · rw [← HX.out]; simp
      · have e := HB2.out.set (o + (j - 1)) (bv (UInt8.ofNat x))
        rw [HS.out, byte_low] at e
        exact e
      · simp [intOf]; omega
    · have e0 : j = 0 := by omega
      subst e0
      go_wp2_with fail
      refine bodyPost_end (results_none rfl _ _ _) rfl ?_
      exact ⟨rfl, hb, hg⟩
end Go.Proofs.YtmiejaohkgemnaaDoor

namespace Go.Proofs.YtmiejaohkgemnaaDoor
set_option linter.unusedVariables false
open Go.RowKit
open Sh

namespace Sh
theorem sum_split (m : List UInt8) (q : Nat) (hq : q = m.length / 64) (s : S8) (hs : s = absorb q init m) (n : Nat) (tl : List UInt8) (hp : pad m = m.take (64 * q) ++ tl) (hn : tl.length = 64 * n) : sum m = (absorb n s tl).bytes := by
  unfold sum
  have hl : (m.take (64 * q)).length = 64 * q := by rw [List.length_take]; omega
  have e : (pad m).length / 64 = q + n := by rw [hp, List.length_append, hl, hn]; omega
  rw [e, hp, absorb_more q n init _ tl hl, absorb_front q init m (by omega), ← hs]
theorem end_lo {m blk : List UInt8} {s : S8} {f : Nat} (h : Par m s blk f) (hb : blk.length = 64) (hf : f < 56) : sum m = (mixS s ((blk.take f ++ [128] ++ zeros (55 - f)) ++ big 8 (m.length * 8))).bytes := by
  obtain ⟨h1, h2, h3⟩ := h
  have hz : (119 - m.length % 64) % 64 = 55 - f := by omega
  have e := sum_split m _ rfl s h1 1 ((blk.take f ++ [128] ++ zeros (55 - f)) ++ big 8 (m.length * 8)) (by
    unfold pad
    rw [hz, h3, ← List.append_assoc, ← List.append_assoc, ← List.append_assoc, List.take_append_drop]) (by
    simp only [List.length_append, List.length_take, zeros_len, big_len, List.length_cons, List.length_nil]; omega)
  rw [e]
  show (mixS s (List.take 64 _)).bytes = _
  rw [List.take_of_length_le (by simp only [List.length_append, List.length_take, zeros_len, big_len, List.length_cons, List.length_nil]; omega)]
theorem end_hi {m blk : List UInt8} {s : S8} {f : Nat} (h : Par m s blk f) (hb : blk.length = 64) (hf : 56 ≤ f) : sum m = (mixS (mixS s (blk.take f ++ [128] ++ zeros (63 - f))) (zeros 56 ++ big 8 (m.length * 8))).bytes := by
  obtain ⟨h1, h2, h3⟩ := h
  have hz : (119 - m.length % 64) % 64 = (63 - f) + 56 := by omega
  have hl1 : (blk.take f ++ [128] ++ zeros (63 - f)).length = 64 := by simp only [List.length_append, List.length_take, zeros_len, List.length_cons, List.length_nil]; omega
  have e := sum_split m _ rfl s h1 2 ((blk.take f ++ [128] ++ zeros (63 - f)) ++ (zeros 56 ++ big 8 (m.length * 8))) (by
    unfold pad
    have hzz : zeros (63 - f + 56) = zeros (63 - f) ++ zeros 56 := List.replicate_append_replicate.symm
    rw [hz, hzz, h3]
    simp only [← List.append_assoc]
    rw [List.take_append_drop]) (by
    simp only [List.length_append, hl1, zeros_len, big_len])
  rw [e]
  show (mixS (mixS s (List.take 64 _)) (List.take 64 (List.drop 64 _))).bytes = _
  have e1 : List.take 64 ((blk.take f ++ [128] ++ zeros (63 - f)) ++ (zeros 56 ++ big 8 (m.length * 8))) = blk.take f ++ [128] ++ zeros (63 - f) := by rw [← hl1, List.take_left]
  have e2 : List.drop 64 ((blk.take f ++ [128] ++ zeros (63 - f)) ++ (zeros 56 ++ big 8 (m.length * 8))) = zeros 56 ++ big 8 (m.length * 8) := by rw [← hl1, List.drop_left]
  rw [e1, e2, List.take_of_length_le (l := zeros 56 ++ big 8 (m.length * 8)) (by rw [List.length_append, zeros_len, big_len]; omega)]
/-- the block, once a bit 1 and zeros are laid in -/
theorem end_blk {blk : List UInt8} {f : Nat} (hb : blk.length = 64) (hf : f < 64) : (blk.set f 128).take (f + 1) ++ zeros (63 - f) ++ (blk.set f 128).drop (f + 1 + (zeros (63 - f)).length) = blk.take f ++ [128] ++ zeros (63 - f) := by
  rw [List.drop_eq_nil_of_le (by simp [zeros_len, hb]; omega), List.append_nil, List.take_succ_eq_append_getElem (by simp [hb]; omega)]
  simp [List.take_set_of_le]
end Sh

theorem stCells_setByte {ws : List UInt32} (h : ws.length = 8) {blk : List UInt8} (hb : blk.length = 64) (f len : Nat) {i : Nat} (hi : i < 64) (x : UInt8) : (stCells ws blk f len).set (8 + i) (bv x) = stCells ws (blk.set i x) f len := by
  unfold stCells
  rw [List.set_append_right _ _ (by simp [h]), List.length_map, h, Nat.add_sub_cancel_left, List.set_append_left _ _ (by simp [hb]; omega), List.map_set]

/-- clear on a piece of a block that is known, as one step of a region that draws its order -/
theorem step_clear_bk {P : Program} {ops : Array Oper} {o : Oper} {a : Act} {w : World} {K : Act → World → Prop} {Q : Exit → Act → World → Prop} {E : Prop} (hgd : o.guard = none) (d : Operand) (dT : TypeId)
    (ho : o.op = .call { callee := .builtin .clear, args := #[d], argTypes := #[dT] }) (elem : TypeId) (z : Value) (hu : P.underlying dT = some (.slice elem)) (hz : ∀ w, (zeroValue elem).run P w = .ok z w) (hz1 : z.cells = #[z]) (h1 : z.oneCell' = true)
    (g off off' n c : Nat) (hd : a.eval d = .slice (some ⟨g, off', none⟩) n c) (hoff : 0 < n → off' = off) (t : TypeId) (cur : List Value) (hb : Bk w g t cur) (hfit : off + n ≤ cur.length)
    (h : ∀ w', Hid (Bk w' g t (cur.take off ++ List.replicate n z ++ cur.drop (off + n))) → Hid (w.grownBy w' (some g)) → K (a.put o.dst (.tuple #[])) w') :
    if Region.wanted o (yielded ops a.tmps) = true then Oper.wp P o a w K Q else E := by
  have hw : Region.wanted o (yielded ops a.tmps) = true := by simp [Region.wanted, hgd]
  rw [if_pos hw]
  by_cases h0 : 0 < n
  · obtain rfl := hoff h0
    have hrun := Lib.run_clear_slice (P := P) w dT elem o.type z hu hz hz1 h1 g off' n c h0 (fun j hj => (hb.there hfit j hj).1) (fun j hj => (hb.there hfit j hj).2)
    unfold Oper.wp
    simp [execOp, ho, resolve, invoke, builtin, hd, hrun, Result.andThen]
    refine h _ (Lib.hid ?_) (Lib.hid (grown_setCells _ off' (grown_refl w _)))
    have e := Bk.setCells (List.replicate n z) off' hb (by simpa using hfit)
    simpa using e
  · have e0 : n = 0 := by omega
    subst e0
    have hrun : (Builtin.clear_ #[dT] o.type #[.slice (some ⟨g, off', none⟩) 0 c]).run P w = .ok (.tuple #[]) w := by simp [Builtin.clear_, run_underlying hu]
    unfold Oper.wp
    simp [execOp, ho, resolve, invoke, builtin, hd, hrun, Result.andThen]
    refine h _ (Lib.hid ?_) (Lib.hid (grown_refl w _))
    simpa using hb
theorem wpList_clear_bk {P : Program} {ops : Array Oper} {rest : List Oper} {o : Oper} {a : Act} {w : World} {Q : Exit → Act → World → Prop} (hgd : o.guard = none) (d : Operand) (dT : TypeId)
    (ho : o.op = .call { callee := .builtin .clear, args := #[d], argTypes := #[dT] }) (elem : TypeId) (z : Value) (hu : P.underlying dT = some (.slice elem)) (hz : ∀ w, (zeroValue elem).run P w = .ok z w) (hz1 : z.cells = #[z]) (h1 : z.oneCell' = true)
    (g off n c : Nat) (hd : a.eval d = .slice (some ⟨g, off, none⟩) n c) (hn : 0 < n) (t : TypeId) (cur : List Value) (hb : Bk w g t cur) (hfit : off + n ≤ cur.length)
    (h : ∀ w', Hid (Bk w' g t (cur.take off ++ List.replicate n z ++ cur.drop (off + n))) → Hid (w.grownBy w' (some g)) → wpList P ops Q rest (a.put o.dst (.tuple #[])) w') : wpList P ops Q (o :: rest) a w := by
  refine wpList_plain hgd fun K hK => ?_
  have hrun := Lib.run_clear_slice (P := P) w dT elem o.type z hu hz hz1 h1 g off n c hn (fun j hj => (hb.there hfit j hj).1) (fun j hj => (hb.there hfit j hj).2)
  unfold Oper.wp
  simp [execOp, ho, resolve, invoke, builtin, hd, hrun, Result.andThen]
  refine hK _ _ (h _ (Lib.hid ?_) (Lib.hid (grown_setCells _ off (grown_refl w _))))
  have e := Bk.setCells (List.replicate n z) off hb (by simpa using hfit)
  simpa using e
/-- the bytes of the first n words -/
def bytesTo (ws : List UInt32) (n : Nat) : List UInt8 := (ws.take n).flatMap fun x => big 4 x.toNat
theorem bytesTo_len (ws : List UInt32) (n : Nat) (h : n ≤ ws.length) : (bytesTo ws n).length = 4 * n := by
  have e : ∀ l : List UInt32, (l.flatMap fun x => big 4 x.toNat).length = 4 * l.length := by
    intro l
    induction l with
    | nil => rfl
    | cons a r ih => simp [ih, big_len]; omega
  rw [bytesTo, e, List.length_take]; omega
theorem bytesTo_succ (ws : List UInt32) (n : Nat) (h : n < ws.length) : bytesTo ws (n + 1) = bytesTo ws n ++ big 4 (ws.getD n 0).toNat := by
  unfold bytesTo
  rw [List.take_succ_eq_append_getElem h, List.flatMap_append]
  simp [h]
/-- the row of the digest, once n words stand in it -/
def sumRow (ws : List UInt32) (n : Nat) : List Value := (bytesTo ws n).map bv ++ List.replicate (32 - 4 * n) (.int .u8 0)
theorem sumRow_len (ws : List UInt32) (n : Nat) (h : n ≤ ws.length) (h8 : n ≤ 8) : (sumRow ws n).length = 32 := by
  simp only [sumRow, List.length_append, List.length_map, bytesTo_len ws n h, List.length_replicate]; omega
theorem sumRow_lay (ws : List UInt32) (n : Nat) (h : n < ws.length) (h8 : n < 8) : layBig (sumRow ws n) (4 * n) 4 4 (ws.getD n 0).toNat = sumRow ws (n + 1) := by
  unfold layBig sumRow
  have hl : ((bytesTo ws n).map bv).length = 4 * n := by rw [List.length_map, bytesTo_len ws n (by omega)]
  have e1 : ((bytesTo ws n).map bv ++ List.replicate (32 - 4 * n) (Value.int .u8 0)).take (4 * n + (4 - 4)) = (bytesTo ws n).map bv := by
    rw [show 4 * n + (4 - 4) = ((bytesTo ws n).map bv).length by omega, List.take_left]
  have e2 : ((bytesTo ws n).map bv ++ List.replicate (32 - 4 * n) (Value.int .u8 0)).drop (4 * n + 4) = List.replicate (32 - 4 * (n + 1)) (Value.int .u8 0) := by
    rw [show 4 * n + 4 = ((bytesTo ws n).map bv).length + 4 by omega, List.drop_length_add_append, List.drop_replicate]
    congr 1
  rw [e1, e2, bytesTo_succ ws n h, List.map_append]
theorem sumRow_8 (s : S8) : sumRow s.list 8 = s.bytes.map bv := by
  unfold sumRow bytesTo S8.bytes
  rw [List.take_of_length_le (show s.list.length ≤ 8 from Nat.le_refl 8)]
  simp
theorem zeros_map (n : Nat) : (zeros n).map bv = List.replicate n (.int .u8 0) := by simp [zeros, bv]
end Go.Proofs.YtmiejaohkgemnaaDoor

namespace Go.Proofs.YtmiejaohkgemnaaDoor
open Go.RowKit
open Sh

/-- new memory that holds the bytes l; of what was there only block g may have turned -/
def Ended (g : Nat) (l : List UInt8) (w : World) (e : Ending) (w' : World) : Prop :=
  ∃ g', e = .returned (.slice (some ⟨g', 0, none⟩) 32 32) ∧ w.heap.size ≤ g' ∧ Bk w' g' 5 (l.map bv) ∧ w.grownBy w' (some g)

theorem zero_u8 (w : World) : (zeroValue 5).run Tryd.prog w = .ok (.int .u8 0) w := by kernel_rfl

set_option maxHeartbeats 2000000 in
set_option maxRecDepth 100000 in
theorem end_any (g : Nat) (s : S8) (blk m : List UInt8) (f len : Nat) (w : World) (h : St w g s blk f len) (hp : Par m s blk f) (hT : Tab w) (h0 : 0 < g) (hm : m.length = len) (hlen : len ≤ 2199023255552) :
    Calls Tryd.prog 86 #[.pointer (some ⟨g, 0, none⟩)] w (Ended g (sum m) w) := by
  have hf := hp.lt
  have hgl := h.2.lt
  have hb := h.1
  have c72 : w.cell? ⟨g, 72, none⟩ = some (.int .i64 (f : Int)) := h.2.at_ (stCells_fill (list_len s) h.1 f len)
  have cb : w.cell? ⟨g, 8 + f, none⟩ = some (.int .u8 ((blk.getD f 0).toNat : Int)) := h.2.at_ (stCells_byte (list_len s) h.1 f len hf)
  have fb := h.2.frozen (8 + f)
  obtain ⟨o', hsl, ho'⟩ : ∃ o', (∀ wx, (Instr.sliceAt 128 (.pointer (some ⟨g, 8, none⟩)) (some (.int .i64 ((f : Int) + 1))) none none).run Tryd.prog wx = .ok (.slice (some ⟨g, o', none⟩) (63 - f) (63 - f)) wx) ∧ (0 < 63 - f → o' = 8 + (f + 1)) := by
    by_cases h63 : f = 63
    · subst h63
      exact ⟨8, fun wx => piece_64 g 8 wx, fun q => by omega⟩
    · refine ⟨8 + (f + 1), fun wx => ?_, fun _ => rfl⟩
      have := piece_l g 8 (f + 1) (by omega) wx
      rw [show 64 - (f + 1) = 63 - f by omega] at this
      simpa using this
  have hwr : IntKind.i64.wrap ((f : Int) + 1) = (f : Int) + 1 := by simp [IntKind.wrap, IntKind.bits, IntKind.signed]; omega
  -- the state once 0x80 stands
  have hs1 : St (w.setCell ⟨g, 8 + f, none⟩ (.int .u8 128)) g s (blk.set f 128) f len := by
    refine ⟨by simpa using hb, ?_⟩
    have e := h.2.set (8 + f) (bv 128)
    rw [stCells_setByte (list_len s) hb f len hf] at e
    exact e
  have hg1 := grown_set (grown_refl w (some g)) (8 + f) (.int .u8 128)
  have HS1 := Lib.hid hs1
  have HG1 := Lib.hid hg1
  have HO := Lib.hid ho'
  have HP := Lib.hid hp
  have HT := Lib.hid hT
  have HM := Lib.hid hm
  have HB := Lib.hid hb
  clear h hp hT hs1 hg1 ho' hb hm
  go_enter Tryd.func86, Tryd.ntmps86
  go_wp2_with fail
  go_region
  go_wp2_with fail
  go_region_law (refine step_clear_bk rfl (.tmp 22) 32 rfl 5 (.int .u8 0) Tryd.underlying32 zero_u8 rfl rfl g (8 + (f + 1)) o' (63 - f) (63 - f) rfl HO.out 130 _ HS1.out.2 (by rw [stCells_len (list_len s) HS1.out.1]; omega) ?_
                 intro w2 HB2 HG2)
  have hs2 : St w2 g s (blk.take f ++ [128] ++ zeros (63 - f)) f len := by
    refine ⟨by rw [← end_blk HB.out hf]; exact lay_len (by simpa using HB.out) (by rw [zeros_len]; omega), ?_⟩
    have e := stCells_lay (list_len s) (show (blk.set f 128).length = 64 by simpa using HB.out) f len (f + 1) (zeros (63 - f)) (by rw [zeros_len]; omega)
    rw [end_blk HB.out hf] at e
    rw [← e, zeros_map, List.length_replicate]
    exact HB2.out
  have hg2 : w.grownBy w2 (some g) := grown_trans HG1.out (r' := some g) (grown_trans (grown_drewN (grown_refl _ _) 2) HG2.out (.inl rfl)) (.inl rfl)
  have HS2 := Lib.hid hs2
  have HGG := Lib.hid hg2
  have c72b : w2.cell? ⟨g, 72, none⟩ = some (.int .i64 (f : Int)) := hs2.2.at_ (stCells_fill (list_len s) hs2.1 f len)
  clear HB2 HG2 hs2 hg2 hsl cb fb c72
  rcases Nat.lt_or_ge f 56 with hlo | hhi
  focus
    have hsum : sum m = (mixS s ((blk.take f ++ [128] ++ zeros (63 - f)).take 56 ++ big 8 (len * 8))).bytes := by
      rw [end_lo HP.out HB.out hlo, HM.out]
      congr 4
      rw [show 63 - f = 55 - f + 8 by omega]
      have e : zeros (55 - f + 8) = zeros (55 - f) ++ zeros 8 := List.replicate_append_replicate.symm
      have hl : (blk.take f ++ [128] ++ zeros (55 - f)).length = 56 := by
        simp only [List.length_append, List.length_take, zeros_len, List.length_cons, List.length_nil, HB.out]; omega
      rw [e, ← List.append_assoc, ← hl, List.take_left]
    have HSUM := Lib.hid hsum
    clear hsum
    go_wp2_with fail
    generalize blk.take f ++ [128] ++ zeros (63 - f) = blk3 at HS2 HSUM
    have HS4 := HS2
    have HG4 := HGG
    clear HS2 HGG c72b
    generalize s = s3 at HS4 HSUM
    generalize w2 = wX at HS4 HG4 ⊢
  rotate_left
  focus
    have hsum : sum m = (mixS (mixS s (blk.take f ++ [128] ++ zeros (63 - f))) ((zeros 64).take 56 ++ big 8 (len * 8))).bytes := by
      rw [end_hi HP.out HB.out hhi, HM.out]
      rfl
    have HSUM := Lib.hid hsum
    have HMIX := Lib.hid (mix_any g s _ f len _ HS2.out (HT.out.grown HGG.out h0))
    have hpa : ∀ wx, (Instr.sliceAt 128 (.pointer (some ⟨g, 8, none⟩)) none none none).run Tryd.prog wx = .ok (.slice (some ⟨g, 8, none⟩) 64 64) wx := piece_all g 8
    clear hsum
    go_wp2_with fail
    refine HMIX.out.mono ?_
    rintro e w3 ⟨rfl, hs3, hg3⟩
    have HS3 := Lib.hid hs3
    have HG3 := Lib.hid hg3
    clear hs3 hg3
    have hcl := Lib.run_clear_slice (P := Tryd.prog) w3 32 5 0 (.int .u8 0) Tryd.underlying32 zero_u8 rfl rfl g 8 64 64 (by decide) (fun j hj => (HS3.out.2.there (o := 8) (n := 64) (by rw [stCells_len (list_len _) HS3.out.1]; decide) j hj).1) (fun j hj => (HS3.out.2.there (o := 8) (n := 64) (by rw [stCells_len (list_len _) HS3.out.1]; decide) j hj).2)
    have hs4 : St (w3.setCells g 8 (List.replicate 64 (.int .u8 0))) g (mixS s (blk.take f ++ [128] ++ zeros (63 - f))) (zeros 64) f len := by
      refine ⟨zeros_len _, ?_⟩
      have e := Bk.setCells (List.replicate 64 (.int .u8 0)) 8 HS3.out.2 (by rw [stCells_len (list_len _) HS3.out.1]; decide)
      have e2 := stCells_lay (list_len (mixS s (blk.take f ++ [128] ++ zeros (63 - f)))) HS3.out.1 f len 0 (zeros 64) (by rw [zeros_len]; decide)
      rw [zeros_map] at e2
      rw [e2] at e
      have e3 : (blk.take f ++ [128] ++ zeros (63 - f)).take 0 ++ zeros 64 ++ (blk.take f ++ [128] ++ zeros (63 - f)).drop (0 + (zeros 64).length) = zeros 64 := by
        rw [List.drop_eq_nil_of_le (by rw [zeros_len, HS3.out.1]; decide), List.append_nil]; rfl
      rw [e3] at e
      exact e
    have hg4 : w.grownBy (w3.setCells g 8 (List.replicate 64 (.int .u8 0))) (some g) := grown_setCells _ _ (grown_trans HGG.out HG3.out (.inl rfl))
    generalize w3.setCells g 8 (List.replicate 64 (.int .u8 0)) = wX at hcl hs4 hg4
    have HS4 := Lib.hid hs4
    have HG4 := Lib.hid hg4
    clear hs4 hg4
    go_wp2_with fail
    clear hcl c72b HGG HS2 HMIX HG3 HS3 hpa
    generalize mixS s (blk.take f ++ [128] ++ zeros (63 - f)) = s3 at HSUM HS4
    generalize zeros 64 = blk3 at HSUM HS4
  all_goals
    have hb3 := HS4.out.1
    have cl : wX.cell? ⟨g, 73, none⟩ = some (.int .u64 (len : Int)) := HS4.out.2.at_ (stCells_long (list_len s3) hb3 f len)
    have hp8 : ∀ wx, (Instr.sliceAt 128 (.pointer (some ⟨g, 8, none⟩)) (some (.int .i64 56)) none none).run Tryd.prog wx = .ok (.slice (some ⟨g, 64, none⟩) 8 8) wx := piece_l g 8 56 (by decide)
    have PB : Calls Tryd.prog 88 #[.slice (some ⟨g, 64, none⟩) 8 8, .int .u64 ((len : Int) * 8)] wX.drew (PutBig g 130 (layBig (stCells s3.list blk3 f len) 64 8 8 (len * 8)) wX.drew) := by
      rw [show ((len : Int) * 8) = ((len * 8 : Nat) : Int) by omega]
      exact putBig_any g 64 8 8 _ _ (len * 8) _ (HS4.out.2.drewN 1) (by rw [stCells_len (list_len s3) hb3]; decide) (by decide) (by omega)
    have HPB := Lib.hid PB
    have hblk : blk3.take 56 ++ big 8 (len * 8) ++ blk3.drop (56 + (big 8 (len * 8)).length) = blk3.take 56 ++ big 8 (len * 8) := by
      rw [List.drop_eq_nil_of_le (by rw [big_len]; omega), List.append_nil]
    have hlay := stCells_lay (list_len s3) hb3 f len 56 (big 8 (len * 8)) (by rw [big_len]; decide)
    rw [hblk] at hlay
    have HLAY := Lib.hid hlay
    have HB4 := Lib.hid (show (blk3.take 56 ++ big 8 (len * 8)).length = 64 by rw [List.length_append, List.length_take, big_len]; omega)
    have hw8 : IntKind.u64.wrap ((len : Int) * 8) = (len : Int) * 8 := by rw [IntKind.wrap_u64]; omega
    clear PB hblk hlay hb3
    go_still_tail 9, (by kernel_rfl)
    change wpList _ _ _ _ _ wX.drew
    go_wp2_with fail
    refine HPB.out.mono ?_
    rintro e w5 ⟨rfl, hb5, hg5⟩
    have hs5 : St w5 g s3 (blk3.take 56 ++ big 8 (len * 8)) f len := by
      refine ⟨HB4.out, ?_⟩
      rw [← HLAY.out]
      simpa [layBig, big_len] using hb5
    have hg5' : w.grownBy w5 (some g) := grown_trans (grown_drewN HG4.out 1) hg5 (.inl rfl)
    have HMIX5 := Lib.hid (mix_any g s3 _ f len w5 hs5 (HT.out.grown hg5' h0))
    have HG5 := Lib.hid hg5'
    clear hb5 hg5 hs5 hg5' hw8 hp8 cl HPB HLAY HS4 HG4
    go_wp2_with fail
    refine HMIX5.out.mono ?_
    rintro e w6 ⟨rfl, hs6, hg6⟩
    have hg6' : w.grownBy w6 (some g) := grown_trans HG5.out hg6 (.inl rfl)
    generalize mixS s3 (blk3.take 56 ++ big 8 (len * 8)) = s6 at HSUM hs6
    generalize blk3.take 56 ++ big 8 (len * 8) = blk6 at hs6
    have hmk : ∀ w : World, (Instr.makeSlice 32 (.int .i64 32) (.int .i64 32)).run Tryd.prog w = .ok (.slice (some ⟨w.heap.size, 0, none⟩) 32 32) (w.alloc (.cells (sumRow s6.list 0).toArray 5)) := fun _ => by kernel_rfl
    have hrow : ∀ o : Obj, (w6.alloc o).rangeAt g 0 (s6.list.map wv) := by
      intro o j v hv
      have hj : j < 8 := by
        have := (List.getElem?_eq_some_iff.1 hv).1
        simpa [list_len] using this
      rw [Nat.zero_add, (hs6.2.alloc o).at_ (stCells_word (list_len s6) blk6 f len hj)]
      simp only [List.getElem?_map] at hv
      rw [List.getElem?_eq_getElem (show j < s6.list.length from hj)] at hv
      simp only [Option.map_some] at hv
      rw [← hv]
      simp [wv, List.getD, List.getElem?_eq_getElem (show j < s6.list.length from hj)]
    have hrow2 := hrow (.cells (sumRow s6.list 0).toArray 5)
    have hB0 := Bk.new w6 5 (sumRow s6.list 0)
    have hG0 : w.grownBy (w6.alloc (.cells (sumRow s6.list 0).toArray 5)) (some g) := grown_alloc hg6' _
    have hsz : w.heap.size ≤ w6.heap.size := hg6'.size
    have hgl6 : g < w6.heap.size := hs6.2.lt
    clear hrow hs6 hg6 hg6'
    have hi8 : (Tryd.prog.info? 125).map (·.size) = some (s6.list.map wv).length := by rw [info_w8]; rfl
    have HB0 := Lib.hid hB0
    have HG0 := Lib.hid hG0
    clear hB0 hG0
    go_wp2_with (refine wpList_load_mid rfl 125 _ rfl g 0 rfl (s6.list.map wv) _ hrow2 Tryd.underlying125 rfl hi8 ?_)
    go_loopw [51] (fun i wr => ∃ n : Nat, n ≤ 8 ∧ i = .int .i64 n ∧ Bk wr w6.heap.size 5 (sumRow s6.list n) ∧ w.grownBy wr (some g)) (fun i _ => 8 - (intOf i).toNat)
    case atStart => exact ⟨0, by omega, rfl, HB0.out, HG0.out⟩
    case round =>
      clear hrow2 hmk
      obtain ⟨n, hn, rfl, hb, hg⟩ := hrel
      by_cases hlt : n < 8
      · have hix : ∀ wx, (Instr.index 125 (.agg (s6.list.map wv).toArray) (.int .i64 (n : Int))).run Tryd.prog wx = .ok (.int .u32 ((s6.list.getD n 0).toNat : Int)) wx := index_words _ _ under_w8 s6.list rfl n hlt
        have hsl : ∀ wx, (Instr.slice 32 (.slice (some ⟨w6.heap.size, 0, none⟩) 32 32) (some (.int .i64 (4 * (n : Int)))) (some (.int .i64 (4 * (n : Int) + 4))) none).run Tryd.prog wx = .ok (.slice (some ⟨w6.heap.size, 4 * n, none⟩) 4 (32 - 4 * n)) wx := by
          intro wx
          rw [run_slice_lh wx _ _ _ _ (by kernel_rfl) .i64 .i64 (4 * (n : Int)) (4 * (n : Int) + 4) (by omega) (by omega) (by omega)]
          have e : Tryd.prog.elem 32 = 5 := by kernel_rfl
          rw [e, size_u8]
          have e1 : (4 * (n : Int)).toNat = 4 * n := by omega
          have e2 : (4 * (n : Int) + 4).toNat = 4 * n + 4 := by omega
          simp [Result.andThen, sliced, e1, e2, at_add, show ¬ 32 = 4 * n by omega]
        have PB := putBig_any w6.heap.size (4 * n) 4 (32 - 4 * n) 5 (sumRow s6.list n) (s6.list.getD n 0).toNat wr hb (by rw [sumRow_len _ _ hn (by omega)]; omega) (by decide) (by have := u32_lt (s6.list.getD n 0); omega)
        rw [sumRow_lay s6.list n hlt hlt] at PB
        have hx := u32_lt (s6.list.getD n 0)
        have HPB := Lib.hid PB
        have HG := Lib.hid hg
        clear PB hb hg
        generalize s6.list.getD n 0 = x at hix HPB hx
        go_wp2_with fail
        refine HPB.out.mono ?_
        rintro e w8 ⟨rfl, hb8, hg8⟩
        go_wp2_with fail
        refine ⟨⟨n + 1, by omega, by go_num, hb8, grown_new HG.out hg8 hsz⟩, ?_⟩
        simp [intOf]; omega
      · have e8 : n = 8 := by omega
        subst e8
        go_wp2_with fail
        go_ret
        refine ⟨w6.heap.size, rfl, hsz, ?_, hg⟩
        rw [HSUM.out, ← sumRow_8]
        exact hb
end Go.Proofs.YtmiejaohkgemnaaDoor
