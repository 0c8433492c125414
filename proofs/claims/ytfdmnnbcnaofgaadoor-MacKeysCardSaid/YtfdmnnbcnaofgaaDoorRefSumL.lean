import Derived.Test.YtfdmnnbcnaofgaaDoorSum
import Derived.Deep.RegionHeld3
namespace Go.Proofs.YtfdmnnbcnaofgaaDoor
section
open Go.RowKit
namespace Sh

theorem absorb_step (q : Nat) (s : S8) (m : List UInt8) : absorb (q + 1) s m = mixS (absorb q s m) ((m.drop (64 * q)).take 64) := by
  induction q generalizing s m with
  | zero => rfl
  | succ q ih =>
    show absorb (q + 1) (mixS s (m.take 64)) (m.drop 64) = mixS (absorb q (mixS s (m.take 64)) (m.drop 64)) _
    rw [ih, List.drop_drop, show 64 + 64 * q = 64 * (q + 1) by omega]
theorem big_at (k v t : Nat) (h : t < k) : (big k v)[t]? = some (UInt8.ofNat (v / 256 ^ (k - 1 - t))) := by
  induction k generalizing t with
  | zero => omega
  | succ k ih =>
    rw [big_cons]
    cases t with
    | zero => simp
    | succ t =>
      rw [List.getElem?_cons_succ, ih t (by omega)]
      congr 4
      omega
/-- how many bytes 0 are laid behind -/
def gap (n : Nat) : Nat := (119 - n % 64) % 64
theorem pad_eq (m : List UInt8) : pad m = m ++ [128] ++ zeros (gap m.length) ++ big 8 (m.length * 8) := rfl
theorem gap_lt (n j : Nat) (h : j < gap n) : (n + 1 + j) % 64 ≠ 56 := by unfold gap at h; omega
theorem gap_end (n j : Nat) (h : j = gap n) : (n + 1 + j) % 64 = 56 := by subst h; unfold gap; omega
theorem zeros_snoc (j : Nat) : zeros j ++ [0] = zeros (j + 1) := by
  show List.replicate j 0 ++ List.replicate 1 0 = _
  rw [List.replicate_append_replicate]; rfl
/-- the first t bytes of the length -/
theorem big_take (k v t : Nat) (h : t < k) : (big k v).take (t + 1) = (big k v).take t ++ [UInt8.ofNat (v / 256 ^ (k - 1 - t))] := by
  have e := big_at k v t h
  obtain ⟨hl, he⟩ := List.getElem?_eq_some_iff.1 e
  rw [List.take_succ_eq_append_getElem hl, he]
end Sh
open Sh
theorem byte_len (n k : Nat) : bv (UInt8.ofNat (n * 8 / 256 ^ k)) = .int .u8 ((n : Int) * 8 / 2 ^ (8 * k) % 256) := by
  rw [byte_low]
  congr 2
  have e : (2 : Int) ^ (8 * k) = ((256 ^ k : Nat) : Int) := by
    rw [Int.pow_mul]; simp
  rw [e, Int.natCast_ediv]
  simp
end
section
open Go.RowKit
open Sh
set_option linter.unusedVariables false

/-- the loops of a body, each ahead of those inside it -/
def codeLoops : Code → List Code
  | .loop c => c :: codeLoops c
  | .seq a b => codeLoops a ++ codeLoops b
  | .block _ c => codeLoops c
  | .scope c => codeLoops c
  | .cond _ a b => codeLoops a ++ codeLoops b
  | _ => []
noncomputable def sumLoop (n : Nat) : Code := (Tryd.f32.body.bind fun c => (codeLoops c)[n]?).getD .skip

/-- a value that is put together, by its run -/
theorem wpList_build {P : Program} {ops : Array Oper} {rest : List Oper} {o : Oper} {a : Act} {w : World} {Q : Exit → Act → World → Prop} (hgd : o.guard = none) (t : TypeId) (parts : Array (Nat × Operand))
    (ho : o.op = .build t parts) (v : Value) (hrun : ∀ w, (Instr.build t (parts.map fun p => (p.1, a.eval p.2))).run P w = .ok v w) (h : wpList P ops Q rest (a.put o.dst v) w) : wpList P ops Q (o :: rest) a w := by
  refine wpList_plain hgd fun K hK => ?_
  unfold Oper.wp
  simp only [execOp, ho, Sem.run_bind, hrun, Result.andThen_ok, Sem.run_pure]
  exact hK _ _ h

/-- a whole row is stored into a block that is known -/
theorem wpList_store_bk {P : Program} {ops : Array Oper} {rest : List Oper} {o : Oper} {a : Act} {w : World} {Q : Exit → Act → World → Prop} (hgd : o.guard = none) (ty : TypeId) (x y : Operand) (ho : o.op = .store ty x y)
    (g : Nat) (vs : List Value) (hx : a.eval x = .pointer (some ⟨g, 0, none⟩)) (hy : a.eval y = .agg vs.toArray) (t : TypeId) (cur : List Value) (hb : Bk w g t cur) (hl : vs.length = cur.length)
    (hi : (P.info? ty).map (·.size) = some vs.length) (h1 : vs.all (·.oneCell') = true) (h : ∀ w', Hid (Bk w' g t vs) → Hid (w.grownBy w' (some g)) → wpList P ops Q rest (a.put o.dst undef) w') : wpList P ops Q (o :: rest) a w := by
  refine wpList_store_mid hgd ty x y ho g 0 vs.toArray hx hy (hb.there (by simp; omega)) (by simpa using hi) (all_oneCell_toArray (fun v hv => List.all_eq_true.1 h1 v hv)) ?_
  exact h _ (Lib.hid (hb.setAll vs hl)) (Lib.hid (grown_setCells vs 0 (grown_refl w _)))
theorem mem_words (ws : List UInt32) : (ws.map wv).all (·.oneCell') = true := List.all_eq_true.2 fun v hv => by obtain ⟨x, _, rfl⟩ := List.mem_map.1 hv; rfl
theorem mem_zeros : (rowW []).all (·.oneCell') = true := rfl
theorem turnQ (x : UInt32) (n : Nat) [hn : NeZero n] (w : World) (k : Nat) (h2 : n < 32 := by omega) :
    Calls Tryd.prog 53 #[.int .u32 (x.toNat : Int), .int .u64 (n : Int)] (w.drewN k) fun e w'' => e = .returned (.int .u32 ((rotr x n).toNat : Int)) ∧ ∃ m, w'' = w.drewN m :=
  Calls.quiet_of (n := k) (turn_any x n (w.drewN k) (Nat.pos_of_ne_zero hn.out) h2)
/-- likewise behind another region that drew -/
theorem turnQ2 (x : UInt32) (n : Nat) [hn : NeZero n] (w : World) (a k : Nat) (h2 : n < 32 := by omega) :
    Calls Tryd.prog 53 #[.int .u32 (x.toNat : Int), .int .u64 (n : Int)] (w.drewN (a + k)) fun e w'' => e = .returned (.int .u32 ((rotr x n).toNat : Int)) ∧ ∃ m, w'' = w.drewN (a + m) :=
  (turn_any x n (w.drewN (a + k)) (Nat.pos_of_ne_zero hn.out) h2).mono fun e w'' h => ⟨h.1, by
    obtain ⟨_, m, hm⟩ := h
    exact ⟨k + m, by rw [hm, World.drewN_drewN, Nat.add_assoc]⟩⟩
theorem rndA_wv (a b c d e f g h k w : UInt32) : ((h.toNat : Int) + ((S1 e).toNat : Int) + ((ch e f g).toNat : Int) + (k.toNat : Int) + (w.toNat : Int) + (((S0 a).toNat : Int) + ((mj a b c).toNat : Int))) % 4294967296 = ((rnd k w ⟨a, b, c, d, e, f, g, h⟩).a.toNat : Int) := by
  show _ = (((h + S1 e + ch e f g + k + w + (S0 a + mj a b c) : UInt32)).toNat : Int)
  rw [UInt32.toNat_add, UInt32.toNat_add, UInt32.toNat_add, UInt32.toNat_add, UInt32.toNat_add, UInt32.toNat_add]
  omega
theorem rndE_wv (a b c d e f g h k w : UInt32) : ((d.toNat : Int) + ((h.toNat : Int) + ((S1 e).toNat : Int) + ((ch e f g).toNat : Int) + (k.toNat : Int) + (w.toNat : Int))) % 4294967296 = ((rnd k w ⟨a, b, c, d, e, f, g, h⟩).e.toNat : Int) := by
  show _ = (((d + (h + S1 e + ch e f g + k + w) : UInt32)).toNat : Int)
  rw [UInt32.toNat_add, UInt32.toNat_add, UInt32.toNat_add, UInt32.toNat_add, UInt32.toNat_add]
  omega
/-- append onto a row of the call's own, as one step of a region that draws its order -/
theorem step_append_rd {P : Program} {ops : Array Oper} {o : Oper} {a : Act} {w : World} {K : Act → World → Prop} {Q : Exit → Act → World → Prop} {E : Prop} (hgd : o.guard = none) (s x : Operand) (t : TypeId)
    (ho : o.op = .call { callee := .builtin .append, args := #[s, x], argTypes := #[t, t] })
    (base : Nat) (e : TypeId) (i : TypeInfo) (z : Value) (bytes : Nat) (ht : P.underlying t = some (.slice e)) (hi : P.info? e = some i) (hz : i.zero = some z)
    (hsize : i.size = 1) (hby : i.bytes = bytes) (hzs : z.cells.size = 1)
    (A : Option Addr) (n c : Nat) (xs : List Value) (hs : a.eval s = .slice A n c) (hown : w.ownsRow base e 1 (.slice A n c) n xs)
    (A2 : Option Addr) (m c2 : Nat) (news : List Value) (hx : a.eval x = .slice A2 m c2) (hr : Rd w A2 m news) (h1 : ∀ u ∈ news, u.oneCell' = true)
    (h63 : n + m ≤ maxLen) (hbytes : (n + m) * bytes ≤ 140737488355328) (hbase : base ≤ w.heap.size)
    (h : ∀ A' c' w', Hid (w'.ownsRow base e 1 (.slice A' (n + m) c') (n + m) (xs ++ news)) → Hid (w.grownBy w' (Value.slice A n c).ownBlock) →
      Hid ((Value.slice A' (n + m) c').ownBlock = (Value.slice A n c).ownBlock ∨ (Value.slice A' (n + m) c').ownBlock = some w.heap.size) → K (a.put o.dst (.slice A' (n + m) c')) w') :
    if Region.wanted o (yielded ops a.tmps) = true then Oper.wp P o a w K Q else E := by
  have hw : Region.wanted o (yielded ops a.tmps) = true := by simp [Region.wanted, hgd]
  rw [if_pos hw]
  obtain ⟨A', c', w', hrun, h2, h3, h4⟩ := run_append_rd (P := P) w base t o.type e i z bytes ht hi hz hsize hby hzs A n c xs hown A2 m c2 news hr h1 h63 hbytes hbase
  unfold Oper.wp execOp
  simp only [ho, resolve, invoke, builtin, Sem.run_bind, Sem.run_pure, Result.andThen_ok, List.map_toArray, List.map_cons, List.map_nil, hs, hx, hrun]
  exact h A' c' w' (Lib.hid h2) (Lib.hid h3) (Lib.hid h4)
/-- a row of the call's own and a block of another type lie apart -/
theorem own_bk_ne {w : World} {base : Nat} {e t : TypeId} {size n g : Nat} {v : Value} {xs cs : List Value} (h : w.ownsRow base e size v n xs) (hb : Bk w g t cs) (hne : e ≠ t) : v.ownBlock ≠ some g := by
  rcases h.2 with ⟨rfl, _⟩ | ⟨g', cap, cur, rfl, _, hg, _⟩
  · simp [Value.ownBlock]
  · intro he
    have e1 : g' = g := by simpa [Value.ownBlock] using he
    subst e1
    unfold Bk at hb
    rw [hg] at hb
    injection hb with hb
    injection hb with _ ht
    exact hne ht
theorem big4 (x : UInt32) : (big 4 x.toNat).map bv = [.int .u8 ((x.toNat : Int) / 16777216 % 256), .int .u8 ((x.toNat : Int) / 65536 % 256), .int .u8 ((x.toNat : Int) / 256 % 256), .int .u8 ((x.toNat : Int) % 256)] := by
  have e : big 4 x.toNat = [UInt8.ofNat (x.toNat / 256 / 256 / 256), UInt8.ofNat (x.toNat / 256 / 256), UInt8.ofNat (x.toNat / 256), UInt8.ofNat x.toNat] := rfl
  rw [e]
  simp only [List.map_cons, List.map_nil, byte_low]
  congr 2
  · congr 1; omega
  · congr 1
    · congr 1; omega
theorem big4w (x : UInt32) : (big 4 x.toNat).map bv = [.int .u8 (IntKind.u8.wrap ((x.toNat : Int) / 16777216)), .int .u8 (IntKind.u8.wrap ((x.toNat : Int) / 65536)), .int .u8 (IntKind.u8.wrap ((x.toNat : Int) / 256)), .int .u8 (IntKind.u8.wrap (x.toNat : Int))] := by
  rw [big4, IntKind.wrap_u8', IntKind.wrap_u8', IntKind.wrap_u8', IntKind.wrap_u8']
theorem words_set (ws : List UInt32) (i : Nat) (x : UInt32) : (ws.map wv).set i (.int .u32 (x.toNat : Int)) = (ws.set i x).map wv := by rw [List.map_set]; rfl
theorem words_at {ws : List UInt32} {i : Nat} (h : i < ws.length) : (ws.map wv)[i]? = some (.int .u32 ((ws.getD i 0).toNat : Int)) := by
  simp [wv, h]
theorem ch_ref (e f g : UInt32) : bits .xor .u32 (bits .and .u32 (e.toNat : Int) (f.toNat : Int)) (bits .and .u32 (bits .xor .u32 (e.toNat : Int) 4294967295) (g.toNat : Int)) = ((ch e f g).toNat : Int) := by
  have h := xor_wv e 4294967295
  have h2 : bits .xor .u32 (e.toNat : Int) 4294967295 = ((e ^^^ 4294967295).toNat : Int) := h
  rw [h2, and_wv, and_wv, xor_wv]; rfl
theorem zero_w64 (w : World) : (zeroValue 79).run Tryd.prog w = .ok (.agg (rowW []).toArray) w := by kernel_rfl
theorem zero_w8 (w : World) : (zeroValue 71).run Tryd.prog w = .ok (.agg ([0, 0, 0, 0, 0, 0, 0, 0].map wv).toArray) w := by kernel_rfl
theorem rowW_nil_len : (rowW []).length = 64 := rfl
theorem K_len : K.length = 64 := rfl
set_option maxRecDepth 100000 in
theorem table_any (w : World) : Calls Tryd.prog 52 #[] w (Words K w) := by
  have hz := zero_w64
  have hB := Bk.new w 79 (rowW [])
  have hi : (Tryd.prog.info? 79).map (·.size) = some (K.map wv).toArray.size := by rw [info_w64, List.size_toArray, List.length_map, K_len]
  have ht : (w.alloc (.cells (rowW []).toArray 79)).there w.heap.size 0 (K.map wv).toArray.size := hB.there (by rw [List.size_toArray, List.length_map, K_len, rowW_nil_len]; decide)
  have h1 := one_words K
  have hB2 := Lib.hid (hB.setAll (K.map wv) (by rw [List.length_map, K_len, rowW_nil_len]))
  have hR := Lib.hid (below_setCells' (g := w.heap.size) (Nat.le_refl _) (K.map wv) 0 ((Below.refl w.heap.size w).alloc (Nat.le_refl _) (.cells (rowW []).toArray 79)))
  clear hB
  go_enter Tryd.func52, Tryd.ntmps52
  go_wp2_with (with_reducible change wpList _ _ _ _ _ _; first
    | refine wpList_build rfl 79 _ rfl (.agg (K.map wv).toArray) (fun _ => by kernel_rfl) ?_
    | refine wpList_store_mid rfl 79 _ _ rfl w.heap.size 0 (K.map wv).toArray rfl rfl ht hi h1 ?_)
  refine bodyPost_ret_by (results_cell_row rfl _ _ w.heap.size 79 _ _ _ rfl hB2.out Tryd.underlying79 rfl hi) rfl ?_
  exact ⟨rfl, hR.out⟩
end
end Go.Proofs.YtfdmnnbcnaofgaaDoor
