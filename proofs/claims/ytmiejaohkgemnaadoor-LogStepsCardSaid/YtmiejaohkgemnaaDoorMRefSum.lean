import Derived.Test.YtmiejaohkgemnaaDoorSum
import Derived.Deep.RegionHeld3

namespace Go.Proofs.YtmiejaohkgemnaaDoor
section
open Go.RowKit
namespace Sh

theorem absorb_step (q : Nat) (s : S8) (m : List UInt8) : absorb (q + 1) s m = mixS (absorb q s m) ((m.drop (64 * q)).take 64) := by
  induction q generalizing s m with
  | zero => rfl
  | succ q ih =>
    show absorb (q + 1) (mixS s (m.take 64)) (m.drop 64) = mixS (absorb q (mixS s (m.take 64)) (m.drop 64)) _
    rw [ih, List.drop_drop, show 64 + 64 * q = 64 * (q + 1) by omega]
theorem big_at (k v t : Nat) (h : t < k) : (big k v)[t]? = some (UInt8.ofNat (v / 256 ^ (k - 1 - t))) := by
  induction k generalizing t with
  | zero => omega
  | succ k ih =>
    rw [big_cons]
    cases t with
    | zero => simp
    | succ t =>
      rw [List.getElem?_cons_succ, ih t (by omega)]
      congr 4
      omega
/-- how many bytes 0 are laid behind -/
def gap (n : Nat) : Nat := (119 - n % 64) % 64
theorem pad_eq (m : List UInt8) : pad m = m ++ [128] ++ zeros (gap m.length) ++ big 8 (m.length * 8) := rfl
theorem gap_lt (n j : Nat) (h : j < gap n) : (n + 1 + j) % 64 ≠ 56 := by unfold gap at h; omega
theorem gap_end (n j : Nat) (h : j = gap n) : (n + 1 + j) % 64 = 56 := by subst h; unfold gap; omega
theorem zeros_snoc (j : Nat) : zeros j ++ [0] = zeros (j + 1) := by
  show List.replicate j 0 ++ List.replicate 1 0 = _
  rw [List.replicate_append_replicate]; rfl
/-- the first t bytes of the length -/
theorem big_take (k v t : Nat) (h : t < k) : (big k v).take (t + 1) = (big k v).take t ++ [UInt8.ofNat (v / 256 ^ (k - 1 - t))] := by
  have e := big_at k v t h
  obtain ⟨hl, he⟩ := List.getElem?_eq_some_iff.1 e
  rw [List.take_succ_eq_append_getElem hl, he]
end Sh
open Sh
theorem byte_len (n k : Nat) : bv (UInt8.ofNat (n * 8 / 256 ^ k)) = .int .u8 ((n : Int) * 8 / 2 ^ (8 * k) % 256) := by
  rw [byte_low]
  congr 2
  have e : (2 : Int) ^ (8 * k) = ((256 ^ k : Nat) : Int) := by
    rw [Int.pow_mul]; simp
  rw [e, Int.natCast_ediv]
  simp
end
section
open Go.RowKit
open Sh
set_option linter.unusedVariables false

/-- the loops of a body, each ahead of those inside it -/
def codeLoops : Code → List Code
  | .loop c => c :: codeLoops c
  | .seq a b => codeLoops a ++ codeLoops b
  | .block _ c => codeLoops c
  | .scope c => codeLoops c
  | .cond _ a b => codeLoops a ++ codeLoops b
  | _ => []
noncomputable def sumLoop (n : Nat) : Code := (Tryd.f67.body.bind fun c => (codeLoops c)[n]?).getD .skip

/-- a value that is put together, by its run -/
theorem wpList_build {P : Program} {ops : Array Oper} {rest : List Oper} {o : Oper} {a : Act} {w : World} {Q : Exit → Act → World → Prop} (hgd : o.guard = none) (t : TypeId) (parts : Array (Nat × Operand))
    (ho : o.op = .build t parts) (v : Value) (hrun : ∀ w, (Instr.build t (parts.map fun p => (p.1, a.eval p.2))).run P w = .ok v w) (h : wpList P ops Q rest (a.put o.dst v) w) : wpList P ops Q (o :: rest) a w := by
  refine wpList_plain hgd fun K hK => ?_
  unfold Oper.wp
  simp only [execOp, ho, Sem.run_bind, hrun, Result.andThen_ok, Sem.run_pure]
  exact hK _ _ h

/-- a whole row is stored into a block that is known -/
theorem wpList_store_bk {P : Program} {ops : Array Oper} {rest : List Oper} {o : Oper} {a : Act} {w : World} {Q : Exit → Act → World → Prop} (hgd : o.guard = none) (ty : TypeId) (x y : Operand) (ho : o.op = .store ty x y)
    (g : Nat) (vs : List Value) (hx : a.eval x = .pointer (some ⟨g, 0, none⟩)) (hy : a.eval y = .agg vs.toArray) (t : TypeId) (cur : List Value) (hb : Bk w g t cur) (hl : vs.length = cur.length)
    (hi : (P.info? ty).map (·.size) = some vs.length) (h1 : vs.all (·.oneCell') = true) (h : ∀ w', Hid (Bk w' g t vs) → Hid (w.grownBy w' (some g)) → wpList P ops Q rest (a.put o.dst undef) w') : wpList P ops Q (o :: rest) a w := by
  refine wpList_store_mid hgd ty x y ho g 0 vs.toArray hx hy (hb.there (by simp; omega)) (by simpa using hi) (all_oneCell_toArray (fun v hv => List.all_eq_true.1 h1 v hv)) ?_
  exact h _ (Lib.hid (hb.setAll vs hl)) (Lib.hid (grown_setCells vs 0 (grown_refl w _)))
theorem mem_words (ws : List UInt32) : (ws.map wv).all (·.oneCell') = true := List.all_eq_true.2 fun v hv => by obtain ⟨x, _, rfl⟩ := List.mem_map.1 hv; rfl
theorem mem_zeros : (rowW []).all (·.oneCell') = true := rfl
theorem turnQ (x : UInt32) (n : Nat) [hn : NeZero n] (w : World) (k : Nat) (h2 : n < 32 := by omega) :
    Calls Tryd.prog 80 #[.int .u32 (x.toNat : Int), .int .u64 (n : Int)] (w.drewN k) fun e w'' => e = .returned (.int .u32 ((rotr x n).toNat : Int)) ∧ ∃ m, w'' = w.drewN m :=
  Calls.quiet_of (n := k) (turn_any x n (w.drewN k) (Nat.pos_of_ne_zero hn.out) h2)
/-- likewise behind another region that drew -/
theorem turnQ2 (x : UInt32) (n : Nat) [hn : NeZero n] (w : World) (a k : Nat) (h2 : n < 32 := by omega) :
    Calls Tryd.prog 80 #[.int .u32 (x.toNat : Int), .int .u64 (n : Int)] (w.drewN (a + k)) fun e w'' => e = .returned (.int .u32 ((rotr x n).toNat : Int)) ∧ ∃ m, w'' = w.drewN (a + m) :=
  (turn_any x n (w.drewN (a + k)) (Nat.pos_of_ne_zero hn.out) h2).mono fun e w'' h => ⟨h.1, by
    obtain ⟨_, m, hm⟩ := h
    exact ⟨k + m, by rw [hm, World.drewN_drewN, Nat.add_assoc]⟩⟩
theorem rndA_wv (a b c d e f g h k w : UInt32) : ((h.toNat : Int) + ((S1 e).toNat : Int) + ((ch e f g).toNat : Int) + (k.toNat : Int) + (w.toNat : Int) + (((S0 a).toNat : Int) + ((mj a b c).toNat : Int))) % 4294967296 = ((rnd k w ⟨a, b, c, d, e, f, g, h⟩).a.toNat : Int) := by
  show _ = (((h + S1 e + ch e f g + k + w + (S0 a + mj a b c) : UInt32)).toNat : Int)
  rw [UInt32.toNat_add, UInt32.toNat_add, UInt32.toNat_add, UInt32.toNat_add, UInt32.toNat_add, UInt32.toNat_add]
  omega
theorem rndE_wv (a b c d e f g h k w : UInt32) : ((d.toNat : Int) + ((h.toNat : Int) + ((S1 e).toNat : Int) + ((ch e f g).toNat : Int) + (k.toNat : Int) + (w.toNat : Int))) % 4294967296 = ((rnd k w ⟨a, b, c, d, e, f, g, h⟩).e.toNat : Int) := by
  show _ = (((d + (h + S1 e + ch e f g + k + w) : UInt32)).toNat : Int)
  rw [UInt32.toNat_add, UInt32.toNat_add, UInt32.toNat_add, UInt32.toNat_add, UInt32.toNat_add]
  omega
/-- append onto a row of the call's own, as one step of a region that draws its order -/
theorem step_append_rd {P : Program} {ops : Array Oper} {o : Oper} {a : Act} {w : World} {K : Act → World → Prop} {Q : Exit → Act → World → Prop} {E : Prop} (hgd : o.guard = none) (s x : Operand) (t : TypeId)
    (ho : o.op = .call { callee := .builtin .append, args := #[s, x], argTypes := #[t, t] })
    (base : Nat) (e : TypeId) (i : TypeInfo) (z : Value) (bytes : Nat) (ht : P.underlying t = some (.slice e)) (hi : P.info? e = some i) (hz : i.zero = some z)
    (hsize : i.size = 1) (hby : i.bytes = bytes) (hzs : z.cells.size = 1)
    (A : Option Addr) (n c : Nat) (xs : List Value) (hs : a.eval s = .slice A n c) (hown : w.ownsRow base e 1 (.slice A n c) n xs)
    (A2 : Option Addr) (m c2 : Nat) (news : List Value) (hx : a.eval x = .slice A2 m c2) (hr : Rd w A2 m news) (h1 : ∀ u ∈ news, u.oneCell' = true)
    (h63 : n + m ≤ maxLen) (hbytes : (n + m) * bytes ≤ 140737488355328) (hbase : base ≤ w.heap.size)
    (h : ∀ A' c' w', Hid (w'.ownsRow base e 1 (.slice A' (n + m) c') (n + m) (xs ++ news)) → Hid (w.grownBy w' (Value.slice A n c).ownBlock) →
      Hid ((Value.slice A' (n + m) c').ownBlock = (Value.slice A n c).ownBlock ∨ (Value.slice A' (n + m) c').ownBlock = some w.heap.size) → K (a.put o.dst (.slice A' (n + m) c')) w') :
    if Region.wanted o (yielded ops a.tmps) = true then Oper.wp P o a w K Q else E := by
  have hw : Region.wanted o (yielded ops a.tmps) = true := by simp [Region.wanted, hgd]
  rw [if_pos hw]
  obtain ⟨A', c', w', hrun, h2, h3, h4⟩ := run_append_rd (P := P) w base t o.type e i z bytes ht hi hz hsize hby hzs A n c xs hown A2 m c2 news hr h1 h63 hbytes hbase
  unfold Oper.wp execOp
  simp only [ho, resolve, invoke, builtin, Sem.run_bind, Sem.run_pure, Result.andThen_ok, List.map_toArray, List.map_cons, List.map_nil, hs, hx, hrun]
  exact h A' c' w' (Lib.hid h2) (Lib.hid h3) (Lib.hid h4)
/-- a row of the call's own and a block of another type lie apart -/
theorem own_bk_ne {w : World} {base : Nat} {e t : TypeId} {size n g : Nat} {v : Value} {xs cs : List Value} (h : w.ownsRow base e size v n xs) (hb : Bk w g t cs) (hne : e ≠ t) : v.ownBlock ≠ some g := by
  rcases h.2 with ⟨rfl, _⟩ | ⟨g', cap, cur, rfl, _, hg, _⟩
  · simp [Value.ownBlock]
  · intro he
    have e1 : g' = g := by simpa [Value.ownBlock] using he
    subst e1
    unfold Bk at hb
    rw [hg] at hb
    injection hb with hb
    injection hb with _ ht
    exact hne ht
theorem big4 (x : UInt32) : (big 4 x.toNat).map bv = [.int .u8 ((x.toNat : Int) / 16777216 % 256), .int .u8 ((x.toNat : Int) / 65536 % 256), .int .u8 ((x.toNat : Int) / 256 % 256), .int .u8 ((x.toNat : Int) % 256)] := by
  have e : big 4 x.toNat = [UInt8.ofNat (x.toNat / 256 / 256 / 256), UInt8.ofNat (x.toNat / 256 / 256), UInt8.ofNat (x.toNat / 256), UInt8.ofNat x.toNat] := rfl
  rw [e]
  simp only [List.map_cons, List.map_nil, byte_low]
  congr 2
  · congr 1; omega
  · congr 1
    · congr 1; omega
theorem big4w (x : UInt32) : (big 4 x.toNat).map bv = [.int .u8 (IntKind.u8.wrap ((x.toNat : Int) / 16777216)), .int .u8 (IntKind.u8.wrap ((x.toNat : Int) / 65536)), .int .u8 (IntKind.u8.wrap ((x.toNat : Int) / 256)), .int .u8 (IntKind.u8.wrap (x.toNat : Int))] := by
  rw [big4, IntKind.wrap_u8', IntKind.wrap_u8', IntKind.wrap_u8', IntKind.wrap_u8']
theorem words_set (ws : List UInt32) (i : Nat) (x : UInt32) : (ws.map wv).set i (.int .u32 (x.toNat : Int)) = (ws.set i x).map wv := by rw [List.map_set]; rfl
theorem words_at {ws : List UInt32} {i : Nat} (h : i < ws.length) : (ws.map wv)[i]? = some (.int .u32 ((ws.getD i 0).toNat : Int)) := by
  simp [wv, h]
theorem ch_ref (e f g : UInt32) : bits .xor .u32 (bits .and .u32 (e.toNat : Int) (f.toNat : Int)) (bits .and .u32 (bits .xor .u32 (e.toNat : Int) 4294967295) (g.toNat : Int)) = ((ch e f g).toNat : Int) := by
  have h := xor_wv e 4294967295
  have h2 : bits .xor .u32 (e.toNat : Int) 4294967295 = ((e ^^^ 4294967295).toNat : Int) := h
  rw [h2, and_wv, and_wv, xor_wv]; rfl
theorem zero_w64 (w : World) : (zeroValue 123).run Tryd.prog w = .ok (.agg (rowW []).toArray) w := by kernel_rfl
theorem zero_w8 (w : World) : (zeroValue 125).run Tryd.prog w = .ok (.agg ([0, 0, 0, 0, 0, 0, 0, 0].map wv).toArray) w := by kernel_rfl
theorem rowW_nil_len : (rowW []).length = 64 := rfl
theorem K_len : K.length = 64 := rfl
set_option maxRecDepth 100000 in
theorem table_any (w : World) : Calls Tryd.prog 79 #[] w (Words K w) := by
  have hz := zero_w64
  have hB := Bk.new w 123 (rowW [])
  have hi : (Tryd.prog.info? 123).map (·.size) = some (K.map wv).toArray.size := by rw [info_w64, List.size_toArray, List.length_map, K_len]
  have ht : (w.alloc (.cells (rowW []).toArray 123)).there w.heap.size 0 (K.map wv).toArray.size := hB.there (by rw [List.size_toArray, List.length_map, K_len, rowW_nil_len]; decide)
  have h1 := one_words K
  have hB2 := Lib.hid (hB.setAll (K.map wv) (by rw [List.length_map, K_len, rowW_nil_len]))
  have hR := Lib.hid (below_setCells' (g := w.heap.size) (Nat.le_refl _) (K.map wv) 0 ((Below.refl w.heap.size w).alloc (Nat.le_refl _) (.cells (rowW []).toArray 123)))
  clear hB
  go_enter Tryd.func79, Tryd.ntmps79
  go_wp2_with (with_reducible change wpList _ _ _ _ _ _; first
    | refine wpList_build rfl 123 _ rfl (.agg (K.map wv).toArray) (fun _ => by kernel_rfl) ?_
    | refine wpList_store_mid rfl 123 _ _ rfl w.heap.size 0 (K.map wv).toArray rfl rfl ht hi h1 ?_)
  refine bodyPost_ret_by (results_cell_row rfl _ _ w.heap.size 123 _ _ _ rfl hB2.out Tryd.underlying123 rfl hi) rfl ?_
  exact ⟨rfl, hR.out⟩
end
end Go.Proofs.YtmiejaohkgemnaaDoor

namespace Go.Proofs.YtmiejaohkgemnaaDoor
section
open Go.RowKit
open Sh
set_option linter.unusedVariables false

set_option maxHeartbeats 4000000 in
set_option maxRecDepth 100000 in
theorem sumWords {x0 x1 x2 x4 x5 x6 x7 x11 x12 x13 x14 x15 x16 x17 x18 x19 x20 x21 x22 x23 x24 x25 x26 x27 x28 x29 x30 x31 x32 x33 x34 x35 x36 x37 x38 x39 x40 x41 x42 x43 x44 x45 x46 x47 x48 x49 x50 x51 x52 x53 x54 x55 x56 x57 x58 x59 x60 x61 x62 x63 x64 x65 x66 x67 x68 x69 x70 x71 x72 x73 x74 x75 x76 x77 x78 x79 x80 x81 x82 x83 x84 x85 x86 x87 x88 x89 x90 x91 x92 x93 x94 x95 x96 x97 x98 x99 x100 x101 x102 x103 x104 x105 x106 x107 x108 x109 x110 x111 x112 x113 x114 x115 x116 x117 x118 x119 x120 x121 x122 x123 x124 x125 x126 x127 x128 x129 x130 x131 x132 x133 x134 x135 x136 x137 x138 x139 x140 x141 x142 x143 x144 x145 x146 x147 x148 x149 x150 x151 x152 x153 x154 x155 x156 x157 x158 x159 x160 x161 x162 x163 x164 x165 x166 x167 x168 x169 x170 x171 x172 x173 x174 x175 x176 x177 x178 x179 x180 x181 x182 x183 x184 x185 x186 x187 x188 x189 x190 x191 x192 x193 x194 x195 x196 x197 x198 x199 x200 x201 x202 x203 x204 x205 x206 x207 x208 x209 x210 x211 x212 x213 x214 x215 x216 x217 x218 x219 x220 x221 x222 x223 x224 x225 x226 x227 x228 x229 x230 x231 x232 x233 x234 x235 x236 x237 x238 x239 x240 x241 x242 x243 x244 x245 x246 x247 x248 x249 x250 x251 x252 x253 x254 x255 x256 x257 x258 x259 x260 x261 x262 x263 x264 x265 x266 x267 x268 x269 x270 x271 x272 x273 x274 x275 x276 x277 x278 x279 x280 x281 x282 : Value} {gm q n3 c3 gw m : Nat} {b : List UInt8} {wo wr : World} (HC : ∀ k, k < 64 → wr.cell? ⟨gm, 64 * q + k, none⟩ = some (.int .u8 ((b.getD k 0).toNat : Int))) (hb1 : Bk wr gw 123 (rowW (spread b m))) (hbl : Below gw wo wr) (hlm : m < 16) (hgw : gw ≠ gm) (hq64 : 64 * q + 64 ≤ n3) (hn3 : n3 ≤ 1099511628000) (Q0 : Exit → Act → World → Prop) :
    Code.wp Tryd.prog (sumLoop 3) (Exit.then (fun a' w' => (∃ u10 u11 u62 u63 u64 u65 u66 u67 u68 u69 u70 u71 u72 u73 u74 u75 u76 u77 u78 u79 u80 u81 u82 u83 u84 u85 u86 u87 u88 u89 u90 u91 u92 u93 u94 u95 u96 u97 u98 u99 u100 : Value, ((∃ m : Nat, m ≤ 16 ∧ u10 = Value.int IntKind.i64 ↑m ∧ Bk w' gw 123 (rowW (spread b m)) ∧ Below gw wo w')) ∧ a' = { tmps := #[x0, x1, x2, Value.slice (some { block := gm, off := 0 }) n3 c3, x4, x5, x6, x7, Value.int IntKind.i64 (64 * ↑q), Value.pointer (some { block := gw, off := 0 }), u10, u11, x12, x13, x14, x15, x16, x17, x18, x19, x20, x21, x22, x23, x24, x25, x26, x27, x28, x29, x30, x31, x32, x33, x34, x35, x36, x37, x38, x39, x40, x41, x42, x43, x44, x45, x46, x47, x48, x49, x50, x51, x52, x53, x54, x55, x56, x57, x58, x59, x60, x61, u62, u63, u64, u65, u66, u67, u68, u69, u70, u71, u72, u73, u74, u75, u76, u77, u78, u79, u80, u81, u82, u83, u84, u85, u86, u87, u88, u89, u90, u91, u92, u93, u94, u95, u96, u97, u98, u99, u100, x101, x102, x103, x104, x105, x106, x107, x108, x109, x110, x111, x112, x113, x114, x115, x116, x117, x118, x119, x120, x121, x122, x123, x124, x125, x126, x127, x128, x129, x130, x131, x132, x133, x134, x135, x136, x137, x138, x139, x140, x141, x142, x143, x144, x145, x146, x147, x148, x149, x150, x151, x152, x153, x154, x155, x156, x157, x158, x159, x160, x161, x162, x163, x164, x165, x166, x167, x168, x169, x170, x171, x172, x173, x174, x175, x176, x177, x178, x179, x180, x181, x182, x183, x184, x185, x186, x187, x188, x189, x190, x191, x192, x193, x194, x195, x196, x197, x198, x199, x200, x201, x202, x203, x204, x205, x206, x207, x208, x209, x210, x211, x212, x213, x214, x215, x216, x217, x218, x219, x220, x221, x222, x223, x224, x225, x226, x227, x228, x229, x230, x231, x232, x233, x234, x235, x236, x237, x238, x239, x240, x241, x242, x243, x244, x245, x246, x247, x248, x249, x250, x251, x252, x253, x254, x255, x256, x257, x258, x259, x260, x261, x262, x263, x264, x265, x266, x267, x268, x269, x270, x271, x272, x273, x274, x275, x276, x277, x278, x279, x280, x281, x282], defers := [] }) ∧ 16 - (intOf (a'.tmps.getD 10 undef)).toNat < 16 - (intOf ((#[x0, x1, x2, Value.slice (some { block := gm, off := 0 }) n3 c3, x4, x5, x6, x7, Value.int IntKind.i64 (64 * ↑q), Value.pointer (some { block := gw, off := 0 }), Value.int IntKind.i64 ↑m, x11, x12, x13, x14, x15, x16, x17, x18, x19, x20, x21, x22, x23, x24, x25, x26, x27, x28, x29, x30, x31, x32, x33, x34, x35, x36, x37, x38, x39, x40, x41, x42, x43, x44, x45, x46, x47, x48, x49, x50, x51, x52, x53, x54, x55, x56, x57, x58, x59, x60, x61, x62, x63, x64, x65, x66, x67, x68, x69, x70, x71, x72, x73, x74, x75, x76, x77, x78, x79, x80, x81, x82, x83, x84, x85, x86, x87, x88, x89, x90, x91, x92, x93, x94, x95, x96, x97, x98, x99, x100, x101, x102, x103, x104, x105, x106, x107, x108, x109, x110, x111, x112, x113, x114, x115, x116, x117, x118, x119, x120, x121, x122, x123, x124, x125, x126, x127, x128, x129, x130, x131, x132, x133, x134, x135, x136, x137, x138, x139, x140, x141, x142, x143, x144, x145, x146, x147, x148, x149, x150, x151, x152, x153, x154, x155, x156, x157, x158, x159, x160, x161, x162, x163, x164, x165, x166, x167, x168, x169, x170, x171, x172, x173, x174, x175, x176, x177, x178, x179, x180, x181, x182, x183, x184, x185, x186, x187, x188, x189, x190, x191, x192, x193, x194, x195, x196, x197, x198, x199, x200, x201, x202, x203, x204, x205, x206, x207, x208, x209, x210, x211, x212, x213, x214, x215, x216, x217, x218, x219, x220, x221, x222, x223, x224, x225, x226, x227, x228, x229, x230, x231, x232, x233, x234, x235, x236, x237, x238, x239, x240, x241, x242, x243, x244, x245, x246, x247, x248, x249, x250, x251, x252, x253, x254, x255, x256, x257, x258, x259, x260, x261, x262, x263, x264, x265, x266, x267, x268, x269, x270, x271, x272, x273, x274, x275, x276, x277, x278, x279, x280, x281, x282] : Array Value).getD 10 undef)).toNat) Q0)
      { tmps := #[x0, x1, x2, Value.slice (some { block := gm, off := 0 }) n3 c3, x4, x5, x6, x7, Value.int IntKind.i64 (64 * ↑q), Value.pointer (some { block := gw, off := 0 }), Value.int IntKind.i64 ↑m, x11, x12, x13, x14, x15, x16, x17, x18, x19, x20, x21, x22, x23, x24, x25, x26, x27, x28, x29, x30, x31, x32, x33, x34, x35, x36, x37, x38, x39, x40, x41, x42, x43, x44, x45, x46, x47, x48, x49, x50, x51, x52, x53, x54, x55, x56, x57, x58, x59, x60, x61, x62, x63, x64, x65, x66, x67, x68, x69, x70, x71, x72, x73, x74, x75, x76, x77, x78, x79, x80, x81, x82, x83, x84, x85, x86, x87, x88, x89, x90, x91, x92, x93, x94, x95, x96, x97, x98, x99, x100, x101, x102, x103, x104, x105, x106, x107, x108, x109, x110, x111, x112, x113, x114, x115, x116, x117, x118, x119, x120, x121, x122, x123, x124, x125, x126, x127, x128, x129, x130, x131, x132, x133, x134, x135, x136, x137, x138, x139, x140, x141, x142, x143, x144, x145, x146, x147, x148, x149, x150, x151, x152, x153, x154, x155, x156, x157, x158, x159, x160, x161, x162, x163, x164, x165, x166, x167, x168, x169, x170, x171, x172, x173, x174, x175, x176, x177, x178, x179, x180, x181, x182, x183, x184, x185, x186, x187, x188, x189, x190, x191, x192, x193, x194, x195, x196, x197, x198, x199, x200, x201, x202, x203, x204, x205, x206, x207, x208, x209, x210, x211, x212, x213, x214, x215, x216, x217, x218, x219, x220, x221, x222, x223, x224, x225, x226, x227, x228, x229, x230, x231, x232, x233, x234, x235, x236, x237, x238, x239, x240, x241, x242, x243, x244, x245, x246, x247, x248, x249, x250, x251, x252, x253, x254, x255, x256, x257, x258, x259, x260, x261, x262, x263, x264, x265, x266, x267, x268, x269, x270, x271, x272, x273, x274, x275, x276, x277, x278, x279, x280, x281, x282], defers := [] } wr := by
  have HW := Lib.hid (show word4 (b.getD (4 * m) 0) (b.getD (4 * m + 1) 0) (b.getD (4 * m + 2) 0) (b.getD (4 * m + 3) 0) = next b (spread b m) m by simp only [next, if_pos hlm]; rfl)
  conv => arg 2; whnf
  have c0 := HC (4 * m) (by omega)
  have c1 := HC (4 * m + 1) (by omega)
  have c2 := HC (4 * m + 2) (by omega)
  have c3 := HC (4 * m + 3) (by omega)
  rw [← Nat.add_assoc] at c1 c2 c3
  generalize b.getD (4 * m) 0 = y0 at c0 HW
  generalize b.getD (4 * m + 1) 0 = y1 at c1 HW
  generalize b.getD (4 * m + 2) 0 = y2 at c2 HW
  generalize b.getD (4 * m + 3) 0 = y3 at c3 HW
  have hword := word_wv y0 y1 y2 y3
  have hz : wr.cell? ⟨gw, m, none⟩ = some (.int .u32 0) := hb1.at_ (rowW_zero (spread_len b m) (by omega))
  have hf := hb1.frozen m
  have HB1 := Lib.hid hb1
  have HBLW := Lib.hid hbl
  clear hb1 hbl
  have z0 : wr.cell? ⟨gm, (64 * (q : Int) + 4 * (m : Int)).toNat, none⟩ = some (.int .u8 (y0.toNat : Int)) := by rw [show (64 * (q : Int) + 4 * (m : Int)).toNat = 64 * q + 4 * m by omega]; exact c0
  have z1 : wr.cell? ⟨gm, (64 * (q : Int) + 4 * (m : Int) + 1).toNat, none⟩ = some (.int .u8 (y1.toNat : Int)) := by rw [show (64 * (q : Int) + 4 * (m : Int) + 1).toNat = 64 * q + 4 * m + 1 by omega]; exact c1
  have z2 : wr.cell? ⟨gm, (64 * (q : Int) + 4 * (m : Int) + 2).toNat, none⟩ = some (.int .u8 (y2.toNat : Int)) := by rw [show (64 * (q : Int) + 4 * (m : Int) + 2).toNat = 64 * q + 4 * m + 2 by omega]; exact c2
  have z3 : wr.cell? ⟨gm, (64 * (q : Int) + 4 * (m : Int) + 3).toNat, none⟩ = some (.int .u8 (y3.toNat : Int)) := by rw [show (64 * (q : Int) + 4 * (m : Int) + 3).toNat = 64 * q + 4 * m + 3 by omega]; exact c3
  have g1 : (0 : Int) ≤ (m : Int) := by omega
  have g2 : (m : Int) < 64 := by omega
  have g3 : (0 : Int) ≤ 64 * (q : Int) + 4 * (m : Int) := by omega
  have g4 : 64 * (q : Int) + 4 * (m : Int) < (n3 : Int) := by omega
  have g5 : (0 : Int) ≤ 64 * (q : Int) + 4 * (m : Int) + 1 := by omega
  have g6 : 64 * (q : Int) + 4 * (m : Int) + 1 < (n3 : Int) := by omega
  have g7 : (0 : Int) ≤ 64 * (q : Int) + 4 * (m : Int) + 2 := by omega
  have g8 : 64 * (q : Int) + 4 * (m : Int) + 2 < (n3 : Int) := by omega
  have g9 : (0 : Int) ≤ 64 * (q : Int) + 4 * (m : Int) + 3 := by omega
  have g10 : 64 * (q : Int) + 4 * (m : Int) + 3 < (n3 : Int) := by omega
  have w1 : IntKind.i64.wrap (64 * (q : Int) + 4 * (m : Int) + 1) = 64 * (q : Int) + 4 * (m : Int) + 1 := by simp only [IntKind.wrap, IntKind.bits, IntKind.signed]; simp; omega
  have w2 : IntKind.i64.wrap (64 * (q : Int) + 4 * (m : Int) + 2) = 64 * (q : Int) + 4 * (m : Int) + 2 := by simp only [IntKind.wrap, IntKind.bits, IntKind.signed]; simp; omega
  have w3 : IntKind.i64.wrap (64 * (q : Int) + 4 * (m : Int) + 3) = 64 * (q : Int) + 4 * (m : Int) + 3 := by simp only [IntKind.wrap, IntKind.bits, IntKind.signed]; simp; omega
  go_wp2_with fail
  go_region_held3 (fun w' => w'.cell? ⟨gm, (64 * (q : Int) + 4 * (m : Int)).toNat, none⟩ = some (.int .u8 (y0.toNat : Int)) ∧ w'.cell? ⟨gm, (64 * (q : Int) + 4 * (m : Int) + 1).toNat, none⟩ = some (.int .u8 (y1.toNat : Int)) ∧ w'.cell? ⟨gm, (64 * (q : Int) + 4 * (m : Int) + 2).toNat, none⟩ = some (.int .u8 (y2.toNat : Int)) ∧ w'.cell? ⟨gm, (64 * (q : Int) + 4 * (m : Int) + 3).toNat, none⟩ = some (.int .u8 (y3.toNat : Int))) 
    (first
      | go_keep
      | (refine ⟨(World.cell?_setCell_far _ _ _ _ hgw).trans z0, (World.cell?_setCell_far _ _ _ _ hgw).trans z1, (World.cell?_setCell_far _ _ _ _ hgw).trans z2, (World.cell?_setCell_far _ _ _ _ hgw).trans z3⟩)) (fail)
  go_wp2_with fail
  refine ⟨⟨m + 1, by omega, by go_num, ?_, below_drewN (below_set HBLW.out (Nat.le_refl _) _ _) _⟩, ?_⟩
  · rw [hword]
    have e := HB1.out.set m (.int .u32 ((word4 y0 y1 y2 y3).toNat : Int))
    rw [rowW_set _ (spread_len b m) (by omega)] at e
    show Bk _ _ _ (rowW (spread b m ++ [next b (spread b m) m]))
    rw [← HW.out]
    exact e.drewN _
  · simp [intOf]; omega
end
section
open Go.RowKit
open Sh
set_option linter.unusedVariables false

set_option maxHeartbeats 4000000 in
set_option maxRecDepth 100000 in
theorem sumAdd {x0 x1 x2 x3 x4 x5 x6 x8 x9 x10 x11 x12 x13 x14 x16 x17 x18 x20 x21 x22 x23 x24 x25 x26 x27 x28 x29 x30 x31 x32 x33 x34 x35 x36 x37 x38 x39 x40 x41 x42 x43 x44 x45 x46 x47 x48 x49 x50 x51 x52 x53 x54 x55 x56 x57 x58 x59 x60 x61 x62 x63 x64 x65 x66 x67 x68 x69 x70 x71 x72 x73 x74 x75 x76 x77 x78 x79 x80 x81 x82 x83 x84 x85 x86 x87 x88 x89 x90 x91 x92 x93 x94 x95 x96 x97 x98 x99 x100 x101 x102 x103 x104 x105 x106 x107 x108 x109 x110 x111 x112 x113 x114 x115 x116 x117 x118 x119 x120 x121 x122 x123 x124 x125 x126 x127 x128 x129 x130 x131 x132 x133 x134 x135 x136 x137 x138 x139 x140 x141 x142 x143 x144 x145 x146 x147 x148 x149 x150 x151 x152 x153 x154 x155 x156 x157 x158 x159 x160 x161 x162 x163 x164 x165 x166 x167 x168 x169 x170 x171 x172 x173 x174 x175 x176 x177 x178 x179 x180 x181 x182 x183 x184 x185 x186 x187 x188 x189 x190 x191 x192 x193 x194 x195 x196 x197 x198 x199 x200 x201 x202 x203 x204 x205 x206 x207 x208 x209 x210 x211 x212 x213 x214 x215 x216 x217 x218 x219 x220 x221 x222 x223 x224 x225 x226 x227 x228 x229 x230 x231 x232 x233 x234 x235 x236 x237 x238 x239 x240 x241 x242 x243 x244 x245 x246 x247 x248 x249 x250 x251 x252 x253 x254 x255 x256 x257 x258 x259 x260 x261 x262 x263 x264 x265 x266 x267 x268 x269 x270 x271 x272 x273 x274 x275 x276 x277 x278 x279 x280 x281 x282 : Value} {gs gv m : Nat} {s r : S8} {w5 wr : World} (sc : wr.cell? ⟨gs, m, none⟩ = some (.int .u32 ((s.list.getD m 0).toNat : Int))) (hb1 : Bk wr gs 125 ((addN s.list r.list m).map wv)) (hb2 : Bk wr gv 125 (r.list.map wv)) (hb3 : w5.grownBy wr (some gs)) (hlm : m < 8) (hvs : gv ≠ gs) (Q0 : Exit → Act → World → Prop) :
    Code.wp Tryd.prog (sumLoop 6) (Exit.then (fun a' w' => (∃ u19 u243 u244 u245 u246 u247 u248 u249 u250 u251 u252 u253 u254 : Value, ((∃ m : Nat, m ≤ 8 ∧ u19 = Value.int IntKind.i64 ↑m ∧ Bk w' gs 125 (List.map wv (addN s.list r.list m)) ∧ Bk w' gv 125 (List.map wv r.list) ∧ w5.grownBy w' (some gs))) ∧ a' = { tmps := #[x0, x1, x2, x3, x4, x5, x6, Value.pointer (some { block := gs, off := 0 }), x8, x9, x10, x11, x12, x13, x14, Value.pointer (some { block := gv, off := 0 }), x16, x17, x18, u19, x20, x21, x22, x23, x24, x25, x26, x27, x28, x29, x30, x31, x32, x33, x34, x35, x36, x37, x38, x39, x40, x41, x42, x43, x44, x45, x46, x47, x48, x49, x50, x51, x52, x53, x54, x55, x56, x57, x58, x59, x60, x61, x62, x63, x64, x65, x66, x67, x68, x69, x70, x71, x72, x73, x74, x75, x76, x77, x78, x79, x80, x81, x82, x83, x84, x85, x86, x87, x88, x89, x90, x91, x92, x93, x94, x95, x96, x97, x98, x99, x100, x101, x102, x103, x104, x105, x106, x107, x108, x109, x110, x111, x112, x113, x114, x115, x116, x117, x118, x119, x120, x121, x122, x123, x124, x125, x126, x127, x128, x129, x130, x131, x132, x133, x134, x135, x136, x137, x138, x139, x140, x141, x142, x143, x144, x145, x146, x147, x148, x149, x150, x151, x152, x153, x154, x155, x156, x157, x158, x159, x160, x161, x162, x163, x164, x165, x166, x167, x168, x169, x170, x171, x172, x173, x174, x175, x176, x177, x178, x179, x180, x181, x182, x183, x184, x185, x186, x187, x188, x189, x190, x191, x192, x193, x194, x195, x196, x197, x198, x199, x200, x201, x202, x203, x204, x205, x206, x207, x208, x209, x210, x211, x212, x213, x214, x215, x216, x217, x218, x219, x220, x221, x222, x223, x224, x225, x226, x227, x228, x229, x230, x231, x232, x233, x234, x235, x236, x237, x238, x239, x240, x241, x242, u243, u244, u245, u246, u247, u248, u249, u250, u251, u252, u253, u254, x255, x256, x257, x258, x259, x260, x261, x262, x263, x264, x265, x266, x267, x268, x269, x270, x271, x272, x273, x274, x275, x276, x277, x278, x279, x280, x281, x282], defers := [] }) ∧ 8 - (intOf (a'.tmps.getD 19 undef)).toNat < 8 - (intOf ((#[x0, x1, x2, x3, x4, x5, x6, Value.pointer (some { block := gs, off := 0 }), x8, x9, x10, x11, x12, x13, x14, Value.pointer (some { block := gv, off := 0 }), x16, x17, x18, Value.int IntKind.i64 ↑m, x20, x21, x22, x23, x24, x25, x26, x27, x28, x29, x30, x31, x32, x33, x34, x35, x36, x37, x38, x39, x40, x41, x42, x43, x44, x45, x46, x47, x48, x49, x50, x51, x52, x53, x54, x55, x56, x57, x58, x59, x60, x61, x62, x63, x64, x65, x66, x67, x68, x69, x70, x71, x72, x73, x74, x75, x76, x77, x78, x79, x80, x81, x82, x83, x84, x85, x86, x87, x88, x89, x90, x91, x92, x93, x94, x95, x96, x97, x98, x99, x100, x101, x102, x103, x104, x105, x106, x107, x108, x109, x110, x111, x112, x113, x114, x115, x116, x117, x118, x119, x120, x121, x122, x123, x124, x125, x126, x127, x128, x129, x130, x131, x132, x133, x134, x135, x136, x137, x138, x139, x140, x141, x142, x143, x144, x145, x146, x147, x148, x149, x150, x151, x152, x153, x154, x155, x156, x157, x158, x159, x160, x161, x162, x163, x164, x165, x166, x167, x168, x169, x170, x171, x172, x173, x174, x175, x176, x177, x178, x179, x180, x181, x182, x183, x184, x185, x186, x187, x188, x189, x190, x191, x192, x193, x194, x195, x196, x197, x198, x199, x200, x201, x202, x203, x204, x205, x206, x207, x208, x209, x210, x211, x212, x213, x214, x215, x216, x217, x218, x219, x220, x221, x222, x223, x224, x225, x226, x227, x228, x229, x230, x231, x232, x233, x234, x235, x236, x237, x238, x239, x240, x241, x242, x243, x244, x245, x246, x247, x248, x249, x250, x251, x252, x253, x254, x255, x256, x257, x258, x259, x260, x261, x262, x263, x264, x265, x266, x267, x268, x269, x270, x271, x272, x273, x274, x275, x276, x277, x278, x279, x280, x281, x282] : Array Value).getD 19 undef)).toNat) Q0)
      { tmps := #[x0, x1, x2, x3, x4, x5, x6, Value.pointer (some { block := gs, off := 0 }), x8, x9, x10, x11, x12, x13, x14, Value.pointer (some { block := gv, off := 0 }), x16, x17, x18, Value.int IntKind.i64 ↑m, x20, x21, x22, x23, x24, x25, x26, x27, x28, x29, x30, x31, x32, x33, x34, x35, x36, x37, x38, x39, x40, x41, x42, x43, x44, x45, x46, x47, x48, x49, x50, x51, x52, x53, x54, x55, x56, x57, x58, x59, x60, x61, x62, x63, x64, x65, x66, x67, x68, x69, x70, x71, x72, x73, x74, x75, x76, x77, x78, x79, x80, x81, x82, x83, x84, x85, x86, x87, x88, x89, x90, x91, x92, x93, x94, x95, x96, x97, x98, x99, x100, x101, x102, x103, x104, x105, x106, x107, x108, x109, x110, x111, x112, x113, x114, x115, x116, x117, x118, x119, x120, x121, x122, x123, x124, x125, x126, x127, x128, x129, x130, x131, x132, x133, x134, x135, x136, x137, x138, x139, x140, x141, x142, x143, x144, x145, x146, x147, x148, x149, x150, x151, x152, x153, x154, x155, x156, x157, x158, x159, x160, x161, x162, x163, x164, x165, x166, x167, x168, x169, x170, x171, x172, x173, x174, x175, x176, x177, x178, x179, x180, x181, x182, x183, x184, x185, x186, x187, x188, x189, x190, x191, x192, x193, x194, x195, x196, x197, x198, x199, x200, x201, x202, x203, x204, x205, x206, x207, x208, x209, x210, x211, x212, x213, x214, x215, x216, x217, x218, x219, x220, x221, x222, x223, x224, x225, x226, x227, x228, x229, x230, x231, x232, x233, x234, x235, x236, x237, x238, x239, x240, x241, x242, x243, x244, x245, x246, x247, x248, x249, x250, x251, x252, x253, x254, x255, x256, x257, x258, x259, x260, x261, x262, x263, x264, x265, x266, x267, x268, x269, x270, x271, x272, x273, x274, x275, x276, x277, x278, x279, x280, x281, x282], defers := [] } wr := by
  conv => arg 2; whnf
  have vc : wr.cell? ⟨gv, m, none⟩ = some (.int .u32 ((r.list.getD m 0).toNat : Int)) := hb2.at_ (words_at hlm)
  have sf := hb1.frozen m
  have HA := Lib.hid (show addN s.list r.list (m + 1) = (addN s.list r.list m).set m (s.list.getD m 0 + r.list.getD m 0) from rfl)
  generalize s.list.getD m 0 = x at sc HA
  generalize r.list.getD m 0 = y at vc HA
  have H1 := Lib.hid hb1
  have H2 := Lib.hid hb2
  have H3 := Lib.hid hb3
  clear hb1 hb2 hb3
  have g1 : (0 : Int) ≤ (m : Int) := by omega
  have g2 : (m : Int) < 8 := by omega
  go_wp2_with fail
  go_region
  go_wp2_with fail
  refine ⟨⟨m + 1, by omega, by go_num, ?_, (H2.out.far hvs _).drewN _, grown_drewN (grown_set H3.out _ _) _⟩, by simp [intOf]; omega⟩
  rw [add_wv, HA.out, ← words_set]
  exact (H1.out.set m _).drewN _
end
section
open Go.RowKit
open Sh
set_option linter.unusedVariables false

set_option maxHeartbeats 4000000 in
set_option maxRecDepth 100000 in
theorem sumOut {x0 x1 x2 x3 x4 x5 x6 x8 x9 x10 x11 x12 x13 x14 x15 x16 x17 x18 x19 x22 x23 x24 x25 x26 x27 x28 x29 x30 x31 x32 x33 x34 x35 x36 x37 x38 x39 x40 x41 x42 x43 x44 x45 x46 x47 x48 x49 x50 x51 x52 x53 x54 x55 x56 x57 x58 x59 x60 x61 x62 x63 x64 x65 x66 x67 x68 x69 x70 x71 x72 x73 x74 x75 x76 x77 x78 x79 x80 x81 x82 x83 x84 x85 x86 x87 x88 x89 x90 x91 x92 x93 x94 x95 x96 x97 x98 x99 x100 x101 x102 x103 x104 x105 x106 x107 x108 x109 x110 x111 x112 x113 x114 x115 x116 x117 x118 x119 x120 x121 x122 x123 x124 x125 x126 x127 x128 x129 x130 x131 x132 x133 x134 x135 x136 x137 x138 x139 x140 x141 x142 x143 x144 x145 x146 x147 x148 x149 x150 x151 x152 x153 x154 x155 x156 x157 x158 x159 x160 x161 x162 x163 x164 x165 x166 x167 x168 x169 x170 x171 x172 x173 x174 x175 x176 x177 x178 x179 x180 x181 x182 x183 x184 x185 x186 x187 x188 x189 x190 x191 x192 x193 x194 x195 x196 x197 x198 x199 x200 x201 x202 x203 x204 x205 x206 x207 x208 x209 x210 x211 x212 x213 x214 x215 x216 x217 x218 x219 x220 x221 x222 x223 x224 x225 x226 x227 x228 x229 x230 x231 x232 x233 x234 x235 x236 x237 x238 x239 x240 x241 x242 x243 x244 x245 x246 x247 x248 x249 x250 x251 x252 x253 x254 x255 x256 x257 x258 x259 x260 x261 x262 x263 x264 x265 x266 x267 x268 x269 x270 x271 x272 x273 x274 x275 x276 x277 x278 x279 x280 x281 x282 : Value} {gs m c4 : Nat} {A4 : Option Addr} {s : S8} {w wr : World} (sc : wr.cell? ⟨gs, m, none⟩ = some (.int .u32 ((s.list.getD m 0).toNat : Int))) (ho : OwnB wr w.heap.size A4 (4 * m) c4 (bytesTo s.list m)) (hb : Bk wr gs 125 (s.list.map wv)) (hbl : Below w.heap.size w wr) (hlm : m < 8) (Q0 : Exit → Act → World → Prop) :
    Code.wp Tryd.prog (sumLoop 7) (Exit.then (fun a' w' => (∃ u20 u21 u256 u257 u258 u259 u260 u261 u262 u263 u264 u265 u266 u267 u268 u269 u270 u271 u272 u273 u274 u275 u276 u277 u278 u279 u280 u281 : Value, ((∃ (A4 : Option Addr) (n4 c4 m : Nat), m ≤ 8 ∧ u20 = Value.slice A4 n4 c4 ∧ u21 = Value.int IntKind.i64 ↑m ∧ n4 = 4 * m ∧ OwnB w' w.heap.size A4 n4 c4 (bytesTo s.list m) ∧ Bk w' gs 125 (List.map wv s.list) ∧ Below w.heap.size w w')) ∧ a' = { tmps := #[x0, x1, x2, x3, x4, x5, x6, Value.pointer (some { block := gs, off := 0 }), x8, x9, x10, x11, x12, x13, x14, x15, x16, x17, x18, x19, u20, u21, x22, x23, x24, x25, x26, x27, x28, x29, x30, x31, x32, x33, x34, x35, x36, x37, x38, x39, x40, x41, x42, x43, x44, x45, x46, x47, x48, x49, x50, x51, x52, x53, x54, x55, x56, x57, x58, x59, x60, x61, x62, x63, x64, x65, x66, x67, x68, x69, x70, x71, x72, x73, x74, x75, x76, x77, x78, x79, x80, x81, x82, x83, x84, x85, x86, x87, x88, x89, x90, x91, x92, x93, x94, x95, x96, x97, x98, x99, x100, x101, x102, x103, x104, x105, x106, x107, x108, x109, x110, x111, x112, x113, x114, x115, x116, x117, x118, x119, x120, x121, x122, x123, x124, x125, x126, x127, x128, x129, x130, x131, x132, x133, x134, x135, x136, x137, x138, x139, x140, x141, x142, x143, x144, x145, x146, x147, x148, x149, x150, x151, x152, x153, x154, x155, x156, x157, x158, x159, x160, x161, x162, x163, x164, x165, x166, x167, x168, x169, x170, x171, x172, x173, x174, x175, x176, x177, x178, x179, x180, x181, x182, x183, x184, x185, x186, x187, x188, x189, x190, x191, x192, x193, x194, x195, x196, x197, x198, x199, x200, x201, x202, x203, x204, x205, x206, x207, x208, x209, x210, x211, x212, x213, x214, x215, x216, x217, x218, x219, x220, x221, x222, x223, x224, x225, x226, x227, x228, x229, x230, x231, x232, x233, x234, x235, x236, x237, x238, x239, x240, x241, x242, x243, x244, x245, x246, x247, x248, x249, x250, x251, x252, x253, x254, x255, u256, u257, u258, u259, u260, u261, u262, u263, u264, u265, u266, u267, u268, u269, u270, u271, u272, u273, u274, u275, u276, u277, u278, u279, u280, u281, x282], defers := [] }) ∧ 8 - (intOf (a'.tmps.getD 21 undef)).toNat < 8 - (intOf ((#[x0, x1, x2, x3, x4, x5, x6, Value.pointer (some { block := gs, off := 0 }), x8, x9, x10, x11, x12, x13, x14, x15, x16, x17, x18, x19, Value.slice A4 (4 * m) c4, Value.int IntKind.i64 ↑m, x22, x23, x24, x25, x26, x27, x28, x29, x30, x31, x32, x33, x34, x35, x36, x37, x38, x39, x40, x41, x42, x43, x44, x45, x46, x47, x48, x49, x50, x51, x52, x53, x54, x55, x56, x57, x58, x59, x60, x61, x62, x63, x64, x65, x66, x67, x68, x69, x70, x71, x72, x73, x74, x75, x76, x77, x78, x79, x80, x81, x82, x83, x84, x85, x86, x87, x88, x89, x90, x91, x92, x93, x94, x95, x96, x97, x98, x99, x100, x101, x102, x103, x104, x105, x106, x107, x108, x109, x110, x111, x112, x113, x114, x115, x116, x117, x118, x119, x120, x121, x122, x123, x124, x125, x126, x127, x128, x129, x130, x131, x132, x133, x134, x135, x136, x137, x138, x139, x140, x141, x142, x143, x144, x145, x146, x147, x148, x149, x150, x151, x152, x153, x154, x155, x156, x157, x158, x159, x160, x161, x162, x163, x164, x165, x166, x167, x168, x169, x170, x171, x172, x173, x174, x175, x176, x177, x178, x179, x180, x181, x182, x183, x184, x185, x186, x187, x188, x189, x190, x191, x192, x193, x194, x195, x196, x197, x198, x199, x200, x201, x202, x203, x204, x205, x206, x207, x208, x209, x210, x211, x212, x213, x214, x215, x216, x217, x218, x219, x220, x221, x222, x223, x224, x225, x226, x227, x228, x229, x230, x231, x232, x233, x234, x235, x236, x237, x238, x239, x240, x241, x242, x243, x244, x245, x246, x247, x248, x249, x250, x251, x252, x253, x254, x255, x256, x257, x258, x259, x260, x261, x262, x263, x264, x265, x266, x267, x268, x269, x270, x271, x272, x273, x274, x275, x276, x277, x278, x279, x280, x281, x282] : Array Value).getD 21 undef)).toNat) Q0)
      { tmps := #[x0, x1, x2, x3, x4, x5, x6, Value.pointer (some { block := gs, off := 0 }), x8, x9, x10, x11, x12, x13, x14, x15, x16, x17, x18, x19, Value.slice A4 (4 * m) c4, Value.int IntKind.i64 ↑m, x22, x23, x24, x25, x26, x27, x28, x29, x30, x31, x32, x33, x34, x35, x36, x37, x38, x39, x40, x41, x42, x43, x44, x45, x46, x47, x48, x49, x50, x51, x52, x53, x54, x55, x56, x57, x58, x59, x60, x61, x62, x63, x64, x65, x66, x67, x68, x69, x70, x71, x72, x73, x74, x75, x76, x77, x78, x79, x80, x81, x82, x83, x84, x85, x86, x87, x88, x89, x90, x91, x92, x93, x94, x95, x96, x97, x98, x99, x100, x101, x102, x103, x104, x105, x106, x107, x108, x109, x110, x111, x112, x113, x114, x115, x116, x117, x118, x119, x120, x121, x122, x123, x124, x125, x126, x127, x128, x129, x130, x131, x132, x133, x134, x135, x136, x137, x138, x139, x140, x141, x142, x143, x144, x145, x146, x147, x148, x149, x150, x151, x152, x153, x154, x155, x156, x157, x158, x159, x160, x161, x162, x163, x164, x165, x166, x167, x168, x169, x170, x171, x172, x173, x174, x175, x176, x177, x178, x179, x180, x181, x182, x183, x184, x185, x186, x187, x188, x189, x190, x191, x192, x193, x194, x195, x196, x197, x198, x199, x200, x201, x202, x203, x204, x205, x206, x207, x208, x209, x210, x211, x212, x213, x214, x215, x216, x217, x218, x219, x220, x221, x222, x223, x224, x225, x226, x227, x228, x229, x230, x231, x232, x233, x234, x235, x236, x237, x238, x239, x240, x241, x242, x243, x244, x245, x246, x247, x248, x249, x250, x251, x252, x253, x254, x255, x256, x257, x258, x259, x260, x261, x262, x263, x264, x265, x266, x267, x268, x269, x270, x271, x272, x273, x274, x275, x276, x277, x278, x279, x280, x281, x282], defers := [] } wr := by
  obtain ⟨i0, hi, hz0, hz1, hz2⟩ := info_parts info_u8
  conv => arg 2; whnf
  have HBT := Lib.hid (show (bytesTo s.list (m + 1)).map bv = (bytesTo s.list m).map bv ++ (big 4 (s.list.getD m 0).toNat).map bv by rw [bytesTo_succ _ _ hlm, List.map_append])
  generalize s.list.getD m 0 = x at sc HBT
  have HB4 := Lib.hid (big4w x)
  obtain ⟨wd, hwd⟩ : ∃ x0 : World, x0 = (wr.alloc (.cells #[.int .u8 (IntKind.u8.wrap ((x.toNat : Int) / 16777216)), .int .u8 (IntKind.u8.wrap ((x.toNat : Int) / 65536)), .int .u8 (IntKind.u8.wrap ((x.toNat : Int) / 256)), .int .u8 (IntKind.u8.wrap (x.toNat : Int))] 5)).drew := ⟨_, rfl⟩
  have hs0 := hbl.size
  have HA1 := Lib.hid (show World.ownsRow ((wr.alloc (.cells #[.int .u8 (IntKind.u8.wrap ((x.toNat : Int) / 16777216)), .int .u8 (IntKind.u8.wrap ((x.toNat : Int) / 65536)), .int .u8 (IntKind.u8.wrap ((x.toNat : Int) / 256)), .int .u8 (IntKind.u8.wrap (x.toNat : Int))] 5)).drew) w.heap.size 5 1 (.slice A4 (4 * m) c4) (4 * m) ((bytesTo s.list m).map bv) from World.ownsRow.alloc ho _)
  have HR1 := Lib.hid (show Rd ((wr.alloc (.cells #[.int .u8 (IntKind.u8.wrap ((x.toNat : Int) / 16777216)), .int .u8 (IntKind.u8.wrap ((x.toNat : Int) / 65536)), .int .u8 (IntKind.u8.wrap ((x.toNat : Int) / 256)), .int .u8 (IntKind.u8.wrap (x.toNat : Int))] 5)).drew) (some ⟨wr.heap.size, 0, none⟩) 4 [.int .u8 (IntKind.u8.wrap ((x.toNat : Int) / 16777216)), .int .u8 (IntKind.u8.wrap ((x.toNat : Int) / 65536)), .int .u8 (IntKind.u8.wrap ((x.toNat : Int) / 256)), .int .u8 (IntKind.u8.wrap (x.toNat : Int))] from Rd.new wr [.int .u8 (IntKind.u8.wrap ((x.toNat : Int) / 16777216)), .int .u8 (IntKind.u8.wrap ((x.toNat : Int) / 65536)), .int .u8 (IntKind.u8.wrap ((x.toNat : Int) / 256)), .int .u8 (IntKind.u8.wrap (x.toNat : Int))] 5)
  have H1 := Lib.hid ho
  have H2 := Lib.hid (show Bk wd gs 125 (s.list.map wv) by rw [hwd]; exact hb.alloc _)
  have H3 := Lib.hid (show Below w.heap.size w wd by rw [hwd]; exact below_drewN (hbl.alloc hs0 _) 1)
  have hs1 : w.heap.size ≤ wd.heap.size := H3.out.size
  have HNE := Lib.hid (own_bk_ne ho hb (by decide))
  have hgsl : gs < wr.heap.size := hb.lt
  have HWD := Lib.hid hwd
  have HSB := Lib.hid (show w.heap.size ≤ ((wr.alloc (.cells #[.int .u8 (IntKind.u8.wrap ((x.toNat : Int) / 16777216)), .int .u8 (IntKind.u8.wrap ((x.toNat : Int) / 65536)), .int .u8 (IntKind.u8.wrap ((x.toNat : Int) / 256)), .int .u8 (IntKind.u8.wrap (x.toNat : Int))] 5)).drew).heap.size by rw [← hwd]; exact hs1)
  clear ho hb hbl hwd
  go_wp2_with fail
  go_region_held3 (fun w' => w'.cell? ⟨gs, m, none⟩ = some (.int .u32 (x.toNat : Int)))
    (first
      | go_keep
      | (refine (World.cell?_of_block (w := (wr.alloc (.cells #[.int .u8 (IntKind.u8.wrap ((x.toNat : Int) / 16777216)), .int .u8 (IntKind.u8.wrap ((x.toNat : Int) / 65536)), .int .u8 (IntKind.u8.wrap ((x.toNat : Int) / 256)), .int .u8 (IntKind.u8.wrap (x.toNat : Int))] 5)).drew) (HG6'.out.block gs ?_ ?_)).trans ?_
         · simp; omega
         · exact fun e => HNE.out e.symm
         · exact (World.cell?_alloc_past _ gs m hgsl).trans sc))
    ((refine step_append_rd rfl (.tmp 260) (.tmp 280) 32 rfl w.heap.size 5 i0 _ 1 Tryd.underlying32 hi hz0 hz1 hz2 rfl A4 (4 * m) c4 ((bytesTo s.list m).map bv) rfl HA1.out (some ⟨wr.heap.size, 0, none⟩) 4 4 [.int .u8 (IntKind.u8.wrap ((x.toNat : Int) / 16777216)), .int .u8 (IntKind.u8.wrap ((x.toNat : Int) / 65536)), .int .u8 (IntKind.u8.wrap ((x.toNat : Int) / 256)), .int .u8 (IntKind.u8.wrap (x.toNat : Int))] rfl HR1.out (by simp [Value.oneCell']) (by simp only [maxLen]; omega) (by omega) HSB.out ?_; intro A6 c6 w6 HO6 HG6' HR6))
  all_goals
    have HG6 := Lib.hid (show wd.grownBy w6 (Value.slice A4 (4 * m) c4).ownBlock by rw [HWD.out]; exact HG6'.out)
    clear HG6' HR6
    have ho6 : OwnB w6 w.heap.size A6 (4 * m + 4) c6 (bytesTo s.list (m + 1)) := by
      show w6.ownsRow _ _ _ _ _ _
      rw [HBT.out, HB4.out]
      exact HO6.out
    have hb6 : Bk w6 gs 125 (s.list.map wv) := Bk.grown H2.out HG6.out (fun e => HNE.out e.symm)
    have hbl6 : Below w.heap.size w w6 := H3.out.grown HG6.out hs1 (OwnB.block H1.out)
    have HO7 := Lib.hid ho6
    have HB7 := Lib.hid hb6
    have HL7 := Lib.hid hbl6
    clear ho6 hb6 hbl6 HO6 HG6 HA1 HR1 HSB HWD
    try go_wp2_with fail
    refine ⟨⟨A6, 4 * m + 4, c6, m + 1, by omega, rfl, by go_num, by omega, HO7.out, HB7.out, HL7.out⟩, by simp [intOf]; omega⟩
end
end Go.Proofs.YtmiejaohkgemnaaDoor

namespace Go.Proofs.YtmiejaohkgemnaaDoor
open Go.RowKit
open Sh
set_option linter.unusedVariables false

set_option maxHeartbeats 4000000 in
set_option maxRecDepth 100000 in
theorem sumRound {x0 x1 x2 x3 x4 x5 x7 x8 x10 x11 x12 x13 x14 x17 x18 x19 x20 x21 x22 x23 x24 x25 x26 x27 x28 x29 x30 x31 x32 x33 x34 x35 x36 x37 x38 x39 x40 x41 x42 x43 x44 x45 x46 x47 x48 x49 x50 x51 x52 x53 x54 x55 x56 x57 x58 x59 x60 x61 x62 x63 x64 x65 x66 x67 x68 x69 x70 x71 x72 x73 x74 x75 x76 x77 x78 x79 x80 x81 x82 x83 x84 x85 x86 x87 x88 x89 x90 x91 x92 x93 x94 x95 x96 x97 x98 x99 x100 x101 x102 x103 x104 x105 x106 x107 x108 x109 x110 x111 x112 x113 x114 x115 x116 x117 x118 x119 x120 x121 x122 x123 x124 x125 x126 x127 x128 x129 x130 x131 x132 x133 x134 x135 x136 x137 x138 x139 x140 x141 x142 x143 x144 x145 x146 x147 x148 x149 x150 x151 x152 x153 x154 x155 x156 x157 x158 x159 x160 x161 x162 x163 x164 x165 x166 x167 x168 x169 x170 x171 x172 x173 x174 x175 x176 x177 x178 x179 x180 x181 x182 x183 x184 x185 x186 x187 x188 x189 x190 x191 x192 x193 x194 x195 x196 x197 x198 x199 x200 x201 x202 x203 x204 x205 x206 x207 x208 x209 x210 x211 x212 x213 x214 x215 x216 x217 x218 x219 x220 x221 x222 x223 x224 x225 x226 x227 x228 x229 x230 x231 x232 x233 x234 x235 x236 x237 x238 x239 x240 x241 x242 x243 x244 x245 x246 x247 x248 x249 x250 x251 x252 x253 x254 x255 x256 x257 x258 x259 x260 x261 x262 x263 x264 x265 x266 x267 x268 x269 x270 x271 x272 x273 x274 x275 x276 x277 x278 x279 x280 x281 x282 : Value} {gk gw gv m : Nat} {W : List UInt32} {s : S8} {w7 wr : World} (hkb : Bk wr gk 123 (K.map wv)) (hwb : Bk wr gw 123 (W.map wv)) (hWL : W.length = 64) (hb8 : Bk wr gv 125 ((rounds W m s).list.map wv)) (hg8 : w7.grownBy wr (some gv)) (hlm : m < 64) (Q0 : Exit → Act → World → Prop) :
    Code.wp Tryd.prog (sumLoop 5) (Exit.then (fun a' w' => (∃ u16 u17 u18 u155 u156 u157 u158 u159 u160 u161 u162 u163 u164 u165 u166 u167 u168 u169 u170 u171 u172 u173 u174 u175 u176 u177 u178 u179 u180 u181 u182 u183 u184 u185 u186 u187 u188 u189 u190 u191 u192 u193 u194 u195 u196 u197 u198 u199 u200 u201 u202 u203 u204 u205 u206 u207 u208 u209 u210 u211 u212 u213 u214 u215 u216 u217 u218 u219 u220 u221 u222 u223 u224 u225 u226 u227 u228 u229 u230 u231 u232 u233 u234 u235 u236 u237 u238 u239 u240 u241 u242 : Value, ((∃ m : Nat, m ≤ 64 ∧ u16 = Value.int IntKind.i64 ↑m ∧ Bk w' gv 125 (List.map wv (rounds W m s).list) ∧ w7.grownBy w' (some gv))) ∧ a' = { tmps := #[x0, x1, x2, x3, x4, x5, Value.pointer (some { block := gk, off := 0 }), x7, x8, Value.pointer (some { block := gw, off := 0 }), x10, x11, x12, x13, x14, Value.pointer (some { block := gv, off := 0 }), u16, u17, u18, x19, x20, x21, x22, x23, x24, x25, x26, x27, x28, x29, x30, x31, x32, x33, x34, x35, x36, x37, x38, x39, x40, x41, x42, x43, x44, x45, x46, x47, x48, x49, x50, x51, x52, x53, x54, x55, x56, x57, x58, x59, x60, x61, x62, x63, x64, x65, x66, x67, x68, x69, x70, x71, x72, x73, x74, x75, x76, x77, x78, x79, x80, x81, x82, x83, x84, x85, x86, x87, x88, x89, x90, x91, x92, x93, x94, x95, x96, x97, x98, x99, x100, x101, x102, x103, x104, x105, x106, x107, x108, x109, x110, x111, x112, x113, x114, x115, x116, x117, x118, x119, x120, x121, x122, x123, x124, x125, x126, x127, x128, x129, x130, x131, x132, x133, x134, x135, x136, x137, x138, x139, x140, x141, x142, x143, x144, x145, x146, x147, x148, x149, x150, x151, x152, x153, x154, u155, u156, u157, u158, u159, u160, u161, u162, u163, u164, u165, u166, u167, u168, u169, u170, u171, u172, u173, u174, u175, u176, u177, u178, u179, u180, u181, u182, u183, u184, u185, u186, u187, u188, u189, u190, u191, u192, u193, u194, u195, u196, u197, u198, u199, u200, u201, u202, u203, u204, u205, u206, u207, u208, u209, u210, u211, u212, u213, u214, u215, u216, u217, u218, u219, u220, u221, u222, u223, u224, u225, u226, u227, u228, u229, u230, u231, u232, u233, u234, u235, u236, u237, u238, u239, u240, u241, u242, x243, x244, x245, x246, x247, x248, x249, x250, x251, x252, x253, x254, x255, x256, x257, x258, x259, x260, x261, x262, x263, x264, x265, x266, x267, x268, x269, x270, x271, x272, x273, x274, x275, x276, x277, x278, x279, x280, x281, x282], defers := [] }) ∧ 64 - (intOf (a'.tmps.getD 16 undef)).toNat < 64 - (intOf ((#[x0, x1, x2, x3, x4, x5, Value.pointer (some { block := gk, off := 0 }), x7, x8, Value.pointer (some { block := gw, off := 0 }), x10, x11, x12, x13, x14, Value.pointer (some { block := gv, off := 0 }), Value.int IntKind.i64 ↑m, x17, x18, x19, x20, x21, x22, x23, x24, x25, x26, x27, x28, x29, x30, x31, x32, x33, x34, x35, x36, x37, x38, x39, x40, x41, x42, x43, x44, x45, x46, x47, x48, x49, x50, x51, x52, x53, x54, x55, x56, x57, x58, x59, x60, x61, x62, x63, x64, x65, x66, x67, x68, x69, x70, x71, x72, x73, x74, x75, x76, x77, x78, x79, x80, x81, x82, x83, x84, x85, x86, x87, x88, x89, x90, x91, x92, x93, x94, x95, x96, x97, x98, x99, x100, x101, x102, x103, x104, x105, x106, x107, x108, x109, x110, x111, x112, x113, x114, x115, x116, x117, x118, x119, x120, x121, x122, x123, x124, x125, x126, x127, x128, x129, x130, x131, x132, x133, x134, x135, x136, x137, x138, x139, x140, x141, x142, x143, x144, x145, x146, x147, x148, x149, x150, x151, x152, x153, x154, x155, x156, x157, x158, x159, x160, x161, x162, x163, x164, x165, x166, x167, x168, x169, x170, x171, x172, x173, x174, x175, x176, x177, x178, x179, x180, x181, x182, x183, x184, x185, x186, x187, x188, x189, x190, x191, x192, x193, x194, x195, x196, x197, x198, x199, x200, x201, x202, x203, x204, x205, x206, x207, x208, x209, x210, x211, x212, x213, x214, x215, x216, x217, x218, x219, x220, x221, x222, x223, x224, x225, x226, x227, x228, x229, x230, x231, x232, x233, x234, x235, x236, x237, x238, x239, x240, x241, x242, x243, x244, x245, x246, x247, x248, x249, x250, x251, x252, x253, x254, x255, x256, x257, x258, x259, x260, x261, x262, x263, x264, x265, x266, x267, x268, x269, x270, x271, x272, x273, x274, x275, x276, x277, x278, x279, x280, x281, x282] : Array Value).getD 16 undef)).toNat) Q0)
      { tmps := #[x0, x1, x2, x3, x4, x5, Value.pointer (some { block := gk, off := 0 }), x7, x8, Value.pointer (some { block := gw, off := 0 }), x10, x11, x12, x13, x14, Value.pointer (some { block := gv, off := 0 }), Value.int IntKind.i64 ↑m, x17, x18, x19, x20, x21, x22, x23, x24, x25, x26, x27, x28, x29, x30, x31, x32, x33, x34, x35, x36, x37, x38, x39, x40, x41, x42, x43, x44, x45, x46, x47, x48, x49, x50, x51, x52, x53, x54, x55, x56, x57, x58, x59, x60, x61, x62, x63, x64, x65, x66, x67, x68, x69, x70, x71, x72, x73, x74, x75, x76, x77, x78, x79, x80, x81, x82, x83, x84, x85, x86, x87, x88, x89, x90, x91, x92, x93, x94, x95, x96, x97, x98, x99, x100, x101, x102, x103, x104, x105, x106, x107, x108, x109, x110, x111, x112, x113, x114, x115, x116, x117, x118, x119, x120, x121, x122, x123, x124, x125, x126, x127, x128, x129, x130, x131, x132, x133, x134, x135, x136, x137, x138, x139, x140, x141, x142, x143, x144, x145, x146, x147, x148, x149, x150, x151, x152, x153, x154, x155, x156, x157, x158, x159, x160, x161, x162, x163, x164, x165, x166, x167, x168, x169, x170, x171, x172, x173, x174, x175, x176, x177, x178, x179, x180, x181, x182, x183, x184, x185, x186, x187, x188, x189, x190, x191, x192, x193, x194, x195, x196, x197, x198, x199, x200, x201, x202, x203, x204, x205, x206, x207, x208, x209, x210, x211, x212, x213, x214, x215, x216, x217, x218, x219, x220, x221, x222, x223, x224, x225, x226, x227, x228, x229, x230, x231, x232, x233, x234, x235, x236, x237, x238, x239, x240, x241, x242, x243, x244, x245, x246, x247, x248, x249, x250, x251, x252, x253, x254, x255, x256, x257, x258, x259, x260, x261, x262, x263, x264, x265, x266, x267, x268, x269, x270, x271, x272, x273, x274, x275, x276, x277, x278, x279, x280, x281, x282], defers := [] } wr := by
  have HN := Lib.hid (show rounds W (m + 1) s = rnd (K.getD m 0) (W.getD m 0) (rounds W m s) from rfl)
  have hi8n : (Tryd.prog.info? 125).map (·.size) = some 8 := info_w8
  conv => arg 2; whnf
  have kc : wr.cell? ⟨gk, m, none⟩ = some (.int .u32 ((K.getD m 0).toNat : Int)) := hkb.at_ (words_at (by rw [K_len]; exact hlm))
  have wc : wr.cell? ⟨gw, m, none⟩ = some (.int .u32 ((W.getD m 0).toNat : Int)) := hwb.at_ (words_at (by rw [hWL]; exact hlm))
  generalize rounds W m s = r at HN hb8
  generalize K.getD m 0 = kn at kc HN
  generalize W.getD m 0 = wn at wc HN
  obtain ⟨a, b', c', d, e', f', g', h⟩ := r
  have k0 : wr.cell? ⟨gv, 0, none⟩ = some (.int .u32 (a.toNat : Int)) := hb8.at_ rfl
  have k1 : wr.cell? ⟨gv, 1, none⟩ = some (.int .u32 (b'.toNat : Int)) := hb8.at_ rfl
  have k2 : wr.cell? ⟨gv, 2, none⟩ = some (.int .u32 (c'.toNat : Int)) := hb8.at_ rfl
  have k3 : wr.cell? ⟨gv, 3, none⟩ = some (.int .u32 (d.toNat : Int)) := hb8.at_ rfl
  have k4 : wr.cell? ⟨gv, 4, none⟩ = some (.int .u32 (e'.toNat : Int)) := hb8.at_ rfl
  have k5 : wr.cell? ⟨gv, 5, none⟩ = some (.int .u32 (f'.toNat : Int)) := hb8.at_ rfl
  have k6 : wr.cell? ⟨gv, 6, none⟩ = some (.int .u32 (g'.toNat : Int)) := hb8.at_ rfl
  have k7 : wr.cell? ⟨gv, 7, none⟩ = some (.int .u32 (h.toNat : Int)) := hb8.at_ rfl
  have hS1 := S1_wv e'
  have hch := ch_ref e' f' g'
  have hS0 := S0_wv a
  have hmj := mj_wv a b' c'
  have R6 := Lib.hid (show ∀ (w0 : World) (k : Nat), Calls Tryd.prog 80 #[.int .u32 (e'.toNat : Int), .int .u64 6] (w0.drewN k) (fun e w'' => e = .returned (.int .u32 ((rotr e' 6).toNat : Int)) ∧ ∃ m, w'' = w0.drewN m) from fun w0 k => turnQ e' 6 w0 k)
  have R11 := Lib.hid (show ∀ (w0 : World) (k : Nat), Calls Tryd.prog 80 #[.int .u32 (e'.toNat : Int), .int .u64 11] (w0.drewN k) (fun e w'' => e = .returned (.int .u32 ((rotr e' 11).toNat : Int)) ∧ ∃ m, w'' = w0.drewN m) from fun w0 k => turnQ e' 11 w0 k)
  have R25 := Lib.hid (show ∀ (w0 : World) (k : Nat), Calls Tryd.prog 80 #[.int .u32 (e'.toNat : Int), .int .u64 25] (w0.drewN k) (fun e w'' => e = .returned (.int .u32 ((rotr e' 25).toNat : Int)) ∧ ∃ m, w'' = w0.drewN m) from fun w0 k => turnQ e' 25 w0 k)
  have R2 := Lib.hid (show ∀ (w0 : World) (a0 k : Nat), Calls Tryd.prog 80 #[.int .u32 (a.toNat : Int), .int .u64 2] (w0.drewN (a0 + k)) (fun e w'' => e = .returned (.int .u32 ((rotr a 2).toNat : Int)) ∧ ∃ m, w'' = w0.drewN (a0 + m)) from fun w0 a0 k => turnQ2 a 2 w0 a0 k)
  have R13 := Lib.hid (show ∀ (w0 : World) (a0 k : Nat), Calls Tryd.prog 80 #[.int .u32 (a.toNat : Int), .int .u64 13] (w0.drewN (a0 + k)) (fun e w'' => e = .returned (.int .u32 ((rotr a 13).toNat : Int)) ∧ ∃ m, w'' = w0.drewN (a0 + m)) from fun w0 a0 k => turnQ2 a 13 w0 a0 k)
  have R22 := Lib.hid (show ∀ (w0 : World) (a0 k : Nat), Calls Tryd.prog 80 #[.int .u32 (a.toNat : Int), .int .u64 22] (w0.drewN (a0 + k)) (fun e w'' => e = .returned (.int .u32 ((rotr a 22).toNat : Int)) ∧ ∃ m, w'' = w0.drewN (a0 + m)) from fun w0 a0 k => turnQ2 a 22 w0 a0 k)
  have HB8 := Lib.hid hb8
  have HG8 := Lib.hid hg8
  clear hb8 hg8
  go_wp2_with fail
  go_quiet ((go_at_call 80; first | with_reducible exact R6.out _ _ | with_reducible exact R11.out _ _ | with_reducible exact R25.out _ _))
  go_wp2_with fail
  go_quiet ((go_at_call 80; first | with_reducible exact R2.out _ _ _ | with_reducible exact R13.out _ _ _ | with_reducible exact R22.out _ _ _))
  go_wp2_with (with_reducible change wpList _ _ _ _ _ _
               refine wpList_store_bk rfl 125 _ _ rfl gv _ rfl rfl 125 _ HB8.out rfl hi8n rfl ?_
               intro w8 HB9 HG9)
  refine ⟨⟨m + 1, by omega, by go_num, ?_, grown_trans (grown_drewN HG8.out _) HG9.out (.inl rfl)⟩, by simp [intOf]; omega⟩
  rw [HN.out]
  have e := HB9.out
  rw [rndA_wv a b' c' d, rndE_wv a b' c' d] at e
  exact e
end Go.Proofs.YtmiejaohkgemnaaDoor

namespace Go.Proofs.YtmiejaohkgemnaaDoor
open Go.RowKit
open Sh
set_option linter.unusedVariables false

set_option maxHeartbeats 4000000 in
set_option maxRecDepth 100000 in
theorem sumSpread {x0 x1 x2 x3 x4 x5 x6 x7 x8 x10 x11 x13 x14 x15 x16 x17 x18 x19 x20 x21 x22 x23 x24 x25 x26 x27 x28 x29 x30 x31 x32 x33 x34 x35 x36 x37 x38 x39 x40 x41 x42 x43 x44 x45 x46 x47 x48 x49 x50 x51 x52 x53 x54 x55 x56 x57 x58 x59 x60 x61 x62 x63 x64 x65 x66 x67 x68 x69 x70 x71 x72 x73 x74 x75 x76 x77 x78 x79 x80 x81 x82 x83 x84 x85 x86 x87 x88 x89 x90 x91 x92 x93 x94 x95 x96 x97 x98 x99 x100 x101 x102 x103 x104 x105 x106 x107 x108 x109 x110 x111 x112 x113 x114 x115 x116 x117 x118 x119 x120 x121 x122 x123 x124 x125 x126 x127 x128 x129 x130 x131 x132 x133 x134 x135 x136 x137 x138 x139 x140 x141 x142 x143 x144 x145 x146 x147 x148 x149 x150 x151 x152 x153 x154 x155 x156 x157 x158 x159 x160 x161 x162 x163 x164 x165 x166 x167 x168 x169 x170 x171 x172 x173 x174 x175 x176 x177 x178 x179 x180 x181 x182 x183 x184 x185 x186 x187 x188 x189 x190 x191 x192 x193 x194 x195 x196 x197 x198 x199 x200 x201 x202 x203 x204 x205 x206 x207 x208 x209 x210 x211 x212 x213 x214 x215 x216 x217 x218 x219 x220 x221 x222 x223 x224 x225 x226 x227 x228 x229 x230 x231 x232 x233 x234 x235 x236 x237 x238 x239 x240 x241 x242 x243 x244 x245 x246 x247 x248 x249 x250 x251 x252 x253 x254 x255 x256 x257 x258 x259 x260 x261 x262 x263 x264 x265 x266 x267 x268 x269 x270 x271 x272 x273 x274 x275 x276 x277 x278 x279 x280 x281 x282 : Value} {gw m : Nat} {b : List UInt8} {wo wr : World} (hb2 : Bk wr gw 123 (rowW (spread b m))) (hb3 : Below gw wo wr) (hm0 : 16 ≤ m) (hlm : m < 64) (Q0 : Exit → Act → World → Prop) :
    Code.wp Tryd.prog (sumLoop 4) (Exit.then (fun a' w' => (∃ u12 u13 u14 u101 u102 u103 u104 u105 u106 u107 u108 u109 u110 u111 u112 u113 u114 u115 u116 u117 u118 u119 u120 u121 u122 u123 u124 u125 u126 u127 u128 u129 u130 u131 u132 u133 u134 u135 u136 u137 u138 u139 u140 u141 u142 u143 u144 u145 u146 u147 u148 u149 u150 u151 u152 u153 : Value, ((∃ m : Nat, 16 ≤ m ∧ m ≤ 64 ∧ u12 = Value.int IntKind.i64 ↑m ∧ Bk w' gw 123 (rowW (spread b m)) ∧ Below gw wo w')) ∧ a' = { tmps := #[x0, x1, x2, x3, x4, x5, x6, x7, x8, Value.pointer (some { block := gw, off := 0 }), x10, x11, u12, u13, u14, x15, x16, x17, x18, x19, x20, x21, x22, x23, x24, x25, x26, x27, x28, x29, x30, x31, x32, x33, x34, x35, x36, x37, x38, x39, x40, x41, x42, x43, x44, x45, x46, x47, x48, x49, x50, x51, x52, x53, x54, x55, x56, x57, x58, x59, x60, x61, x62, x63, x64, x65, x66, x67, x68, x69, x70, x71, x72, x73, x74, x75, x76, x77, x78, x79, x80, x81, x82, x83, x84, x85, x86, x87, x88, x89, x90, x91, x92, x93, x94, x95, x96, x97, x98, x99, x100, u101, u102, u103, u104, u105, u106, u107, u108, u109, u110, u111, u112, u113, u114, u115, u116, u117, u118, u119, u120, u121, u122, u123, u124, u125, u126, u127, u128, u129, u130, u131, u132, u133, u134, u135, u136, u137, u138, u139, u140, u141, u142, u143, u144, u145, u146, u147, u148, u149, u150, u151, u152, u153, x154, x155, x156, x157, x158, x159, x160, x161, x162, x163, x164, x165, x166, x167, x168, x169, x170, x171, x172, x173, x174, x175, x176, x177, x178, x179, x180, x181, x182, x183, x184, x185, x186, x187, x188, x189, x190, x191, x192, x193, x194, x195, x196, x197, x198, x199, x200, x201, x202, x203, x204, x205, x206, x207, x208, x209, x210, x211, x212, x213, x214, x215, x216, x217, x218, x219, x220, x221, x222, x223, x224, x225, x226, x227, x228, x229, x230, x231, x232, x233, x234, x235, x236, x237, x238, x239, x240, x241, x242, x243, x244, x245, x246, x247, x248, x249, x250, x251, x252, x253, x254, x255, x256, x257, x258, x259, x260, x261, x262, x263, x264, x265, x266, x267, x268, x269, x270, x271, x272, x273, x274, x275, x276, x277, x278, x279, x280, x281, x282], defers := [] }) ∧ 64 - (intOf (a'.tmps.getD 12 undef)).toNat < 64 - (intOf ((#[x0, x1, x2, x3, x4, x5, x6, x7, x8, Value.pointer (some { block := gw, off := 0 }), x10, x11, Value.int IntKind.i64 ↑m, x13, x14, x15, x16, x17, x18, x19, x20, x21, x22, x23, x24, x25, x26, x27, x28, x29, x30, x31, x32, x33, x34, x35, x36, x37, x38, x39, x40, x41, x42, x43, x44, x45, x46, x47, x48, x49, x50, x51, x52, x53, x54, x55, x56, x57, x58, x59, x60, x61, x62, x63, x64, x65, x66, x67, x68, x69, x70, x71, x72, x73, x74, x75, x76, x77, x78, x79, x80, x81, x82, x83, x84, x85, x86, x87, x88, x89, x90, x91, x92, x93, x94, x95, x96, x97, x98, x99, x100, x101, x102, x103, x104, x105, x106, x107, x108, x109, x110, x111, x112, x113, x114, x115, x116, x117, x118, x119, x120, x121, x122, x123, x124, x125, x126, x127, x128, x129, x130, x131, x132, x133, x134, x135, x136, x137, x138, x139, x140, x141, x142, x143, x144, x145, x146, x147, x148, x149, x150, x151, x152, x153, x154, x155, x156, x157, x158, x159, x160, x161, x162, x163, x164, x165, x166, x167, x168, x169, x170, x171, x172, x173, x174, x175, x176, x177, x178, x179, x180, x181, x182, x183, x184, x185, x186, x187, x188, x189, x190, x191, x192, x193, x194, x195, x196, x197, x198, x199, x200, x201, x202, x203, x204, x205, x206, x207, x208, x209, x210, x211, x212, x213, x214, x215, x216, x217, x218, x219, x220, x221, x222, x223, x224, x225, x226, x227, x228, x229, x230, x231, x232, x233, x234, x235, x236, x237, x238, x239, x240, x241, x242, x243, x244, x245, x246, x247, x248, x249, x250, x251, x252, x253, x254, x255, x256, x257, x258, x259, x260, x261, x262, x263, x264, x265, x266, x267, x268, x269, x270, x271, x272, x273, x274, x275, x276, x277, x278, x279, x280, x281, x282] : Array Value).getD 12 undef)).toNat) Q0)
      { tmps := #[x0, x1, x2, x3, x4, x5, x6, x7, x8, Value.pointer (some { block := gw, off := 0 }), x10, x11, Value.int IntKind.i64 ↑m, x13, x14, x15, x16, x17, x18, x19, x20, x21, x22, x23, x24, x25, x26, x27, x28, x29, x30, x31, x32, x33, x34, x35, x36, x37, x38, x39, x40, x41, x42, x43, x44, x45, x46, x47, x48, x49, x50, x51, x52, x53, x54, x55, x56, x57, x58, x59, x60, x61, x62, x63, x64, x65, x66, x67, x68, x69, x70, x71, x72, x73, x74, x75, x76, x77, x78, x79, x80, x81, x82, x83, x84, x85, x86, x87, x88, x89, x90, x91, x92, x93, x94, x95, x96, x97, x98, x99, x100, x101, x102, x103, x104, x105, x106, x107, x108, x109, x110, x111, x112, x113, x114, x115, x116, x117, x118, x119, x120, x121, x122, x123, x124, x125, x126, x127, x128, x129, x130, x131, x132, x133, x134, x135, x136, x137, x138, x139, x140, x141, x142, x143, x144, x145, x146, x147, x148, x149, x150, x151, x152, x153, x154, x155, x156, x157, x158, x159, x160, x161, x162, x163, x164, x165, x166, x167, x168, x169, x170, x171, x172, x173, x174, x175, x176, x177, x178, x179, x180, x181, x182, x183, x184, x185, x186, x187, x188, x189, x190, x191, x192, x193, x194, x195, x196, x197, x198, x199, x200, x201, x202, x203, x204, x205, x206, x207, x208, x209, x210, x211, x212, x213, x214, x215, x216, x217, x218, x219, x220, x221, x222, x223, x224, x225, x226, x227, x228, x229, x230, x231, x232, x233, x234, x235, x236, x237, x238, x239, x240, x241, x242, x243, x244, x245, x246, x247, x248, x249, x250, x251, x252, x253, x254, x255, x256, x257, x258, x259, x260, x261, x262, x263, x264, x265, x266, x267, x268, x269, x270, x271, x272, x273, x274, x275, x276, x277, x278, x279, x280, x281, x282], defers := [] } wr := by
  conv => arg 2; whnf
  have hl := spread_len b m
  have HW := Lib.hid (show (spread b m).getD (m - 16) 0 + sg0 ((spread b m).getD (m - 15) 0) + (spread b m).getD (m - 7) 0 + sg1 ((spread b m).getD (m - 2) 0) = next b (spread b m) m by
    simp only [next, if_neg (show ¬ m < 16 by omega)]
    ac_rfl)
  have c2 : ∀ k, k < m → @World.cell? wr ⟨gw, k, none⟩ = some (.int .u32 (((spread b m).getD k 0).toNat : Int)) := fun k hk => hb2.at_ (rowW_at (by omega))
  have d2 := c2 (m - 2) (by omega)
  have d7 := c2 (m - 7) (by omega)
  have d15 := c2 (m - 15) (by omega)
  have d16 := c2 (m - 16) (by omega)
  generalize (spread b m).getD (m - 2) 0 = x2 at d2 HW
  generalize (spread b m).getD (m - 7) 0 = x7 at d7 HW
  generalize (spread b m).getD (m - 15) 0 = x15 at d15 HW
  generalize (spread b m).getD (m - 16) 0 = x16 at d16 HW
  have hsg1 := sg1_wv x2
  have hsg0 := sg0_wv x15
  have hsum := Lib.hid (add4_wv x16 (sg0 x15) x7 (sg1 x2))
  have R7 := Lib.hid (show ∀ (w0 : World) (k : Nat), Calls Tryd.prog 80 #[.int .u32 (x15.toNat : Int), .int .u64 7] (w0.drewN k) (fun e w'' => e = .returned (.int .u32 ((rotr x15 7).toNat : Int)) ∧ ∃ m, w'' = w0.drewN m) from fun w0 k => turnQ x15 7 w0 k)
  have R18 := Lib.hid (show ∀ (w0 : World) (k : Nat), Calls Tryd.prog 80 #[.int .u32 (x15.toNat : Int), .int .u64 18] (w0.drewN k) (fun e w'' => e = .returned (.int .u32 ((rotr x15 18).toNat : Int)) ∧ ∃ m, w'' = w0.drewN m) from fun w0 k => turnQ x15 18 w0 k)
  have R17 := Lib.hid (show ∀ (w0 : World) (a0 k : Nat), Calls Tryd.prog 80 #[.int .u32 (x2.toNat : Int), .int .u64 17] (w0.drewN (a0 + k)) (fun e w'' => e = .returned (.int .u32 ((rotr x2 17).toNat : Int)) ∧ ∃ m, w'' = w0.drewN (a0 + m)) from fun w0 a0 k => turnQ2 x2 17 w0 a0 k)
  have R19 := Lib.hid (show ∀ (w0 : World) (a0 k : Nat), Calls Tryd.prog 80 #[.int .u32 (x2.toNat : Int), .int .u64 19] (w0.drewN (a0 + k)) (fun e w'' => e = .returned (.int .u32 ((rotr x2 19).toNat : Int)) ∧ ∃ m, w'' = w0.drewN (a0 + m)) from fun w0 a0 k => turnQ2 x2 19 w0 a0 k)
  have hz : wr.cell? ⟨gw, m, none⟩ = some (.int .u32 0) := hb2.at_ (rowW_zero hl hlm)
  have hf := hb2.frozen m
  have H1 := Lib.hid hb2
  have H3 := Lib.hid hb3
  clear hb2 hb3 c2
  go_wp2_with fail
  go_quiet ((go_at_call 80; first | with_reducible exact R7.out _ _ | with_reducible exact R18.out _ _))
  go_wp2_with fail
  go_quiet ((go_at_call 80; first | with_reducible exact R17.out _ _ _ | with_reducible exact R19.out _ _ _))
  have g1 : (0 : Int) ≤ (m : Int) := by omega
  have g2 : (m : Int) < 64 := by omega
  have g3 : (0 : Int) ≤ (m : Int) - 16 := by omega
  have g4 : (m : Int) - 16 < 64 := by omega
  have g5 : (0 : Int) ≤ (m : Int) - 7 := by omega
  have g6 : (m : Int) - 7 < 64 := by omega
  have w16 : IntKind.i64.wrap ((m : Int) - 16) = (m : Int) - 16 := by simp only [IntKind.wrap, IntKind.bits, IntKind.signed]; simp; omega
  have w7' : IntKind.i64.wrap ((m : Int) - 7) = (m : Int) - 7 := by simp only [IntKind.wrap, IntKind.bits, IntKind.signed]; simp; omega
  have p16 : (16 : Int) ≤ (m : Int) := by omega
  have p7 : (7 : Int) ≤ (m : Int) := by omega
  have p16' : (m : Int) < 80 := by omega
  have p7' : (m : Int) < 71 := by omega
  have p16n : (m : Int) < 64 + 16 := by omega
  have p7n : (m : Int) < 64 + 7 := by omega
  have s7 : 7 ≤ m := by omega
  have t16 : ((m : Int) - 16).toNat = m - 16 := by omega
  have t7 : ((m : Int) - 7).toNat = m - 7 := by omega
  have q16 : (⟨gw, m, none⟩ : Addr) ≠ ⟨gw, m - 16, none⟩ := by intro e; injection e with _ e2 _; omega
  have q7 : (⟨gw, m, none⟩ : Addr) ≠ ⟨gw, m - 7, none⟩ := by intro e; injection e with _ e2 _; omega
  have n1 : m - 16 ≠ m := by omega
  have n2 : m - 7 ≠ m := by omega
  have n3 : m ≠ m - 16 := by omega
  have n4 : m ≠ m - 7 := by omega
  go_wp2_with fail
  go_region_held3 (fun w' => w'.cell? ⟨gw, m - 16, none⟩ = some (.int .u32 (x16.toNat : Int)) ∧ w'.cell? ⟨gw, m - 7, none⟩ = some (.int .u32 (x7.toNat : Int)))
    (first
      | go_keep
      | (refine ⟨(World.cell?_setCell_other _ _ _ _ q16).trans d16, (World.cell?_setCell_other _ _ _ _ q7).trans d7⟩)) (fail)
  go_wp2_with fail
  refine ⟨⟨m + 1, by omega, by omega, by go_num, ?_, below_set (below_drewN H3.out _) (Nat.le_refl _) _ _⟩, ?_⟩
  · have e := H1.out.set m (.int .u32 ((x16 + sg0 x15 + x7 + sg1 x2).toNat : Int))
    rw [show ((((x16.toNat : Int) + ((sg0 x15).toNat : Int)) % 4294967296 + (x7.toNat : Int)) % 4294967296 + ((sg1 x2).toNat : Int)) % 4294967296 = ((x16 + sg0 x15 + x7 + sg1 x2).toNat : Int) by rw [← hsum.out]; omega]
    rw [rowW_set _ hl (by omega)] at e
    show Bk _ _ _ (rowW (spread b m ++ [next b (spread b m) m]))
    rw [← HW.out]
    exact e.drewN _
  · simp [intOf]; omega
end Go.Proofs.YtmiejaohkgemnaaDoor

namespace Go.Proofs.YtmiejaohkgemnaaDoor
open Go.RowKit
open Sh
set_option linter.unusedVariables false

set_option maxHeartbeats 20000000 in
set_option maxRecDepth 100000 in
theorem refSum_any (A : Option Addr) (n c : Nat) (l : List UInt8) (w : World) (h : Rd w A n (l.map bv)) (hn : n ≤ 1099511627776) :
    Calls Tryd.prog 67 #[.slice A n c] w (Fresh1 (sum l) w) := by
  obtain ⟨i0, hi, hz0, hz1, hz2⟩ := info_parts info_u8
  have hx : l.length = n := by simpa using h.1
  have HN := Lib.hid hn
  have HX := Lib.hid hx
  go_enter Tryd.func67, Tryd.ntmps67
  go_wp2_with (first
    | (at_builtin
       refine wpList_append_rd _ rfl (.tmp 23) (.tmp 24) 32 rfl w.heap.size 5 i0 _ 1 Tryd.underlying32 hi hz0 hz1 hz2 rfl (some ⟨w.heap.size, 0, none⟩) 0 0 ([].map bv) rfl (own_empty w) A n c (l.map bv) rfl
                 (h.alloc _) (oneCell_bytes l) (by have := HN.out; simp only [maxLen]; omega) (by have := HN.out; omega) (by simp) ?_
       intro A1 c1 w1 hown1 hg1 hrow1
       simp only [Nat.zero_add, List.map_nil, List.nil_append] at hown1)
    | (at_builtin
       refine wpList_append_rd _ rfl (.tmp 26) (.tmp 27) 32 rfl w.heap.size 5 i0 _ 1 Tryd.underlying32 hi hz0 hz1 hz2 rfl A1 n c1 (l.map bv) rfl (World.ownsRow.alloc hown1 _) (some ⟨w1.heap.size, 0, none⟩) 1 1 [.int .u8 128] rfl
                     (Rd.new w1 [Value.int .u8 128] 5) (by simp [Value.oneCell']) (by have := HN.out; simp only [maxLen]; omega) (by have := HN.out; omega) (by have := hg1.size; simp at this ⊢; omega) ?_
       intro A2 c2 w2 hown2 hg2 hrow2))
  have hb2 : Below w.heap.size w w2 := by
    have b1 := ((Below.refl w.heap.size w).alloc (Nat.le_refl _) (.cells #[] 5)).grown hg1 (by simp) (fun k e => by simp [Value.ownBlock] at e; omega)
    have b2 := b1.alloc b1.size (.cells #[.int .u8 128] 5)
    exact b2.grown hg2 b2.size (fun k e => (World.ownsRow.lt hown1 k e).1)
  have ho2 : OwnB w2 w.heap.size A2 (n + 1) c2 (l ++ [128] ++ zeros 0) := by
    show w2.ownsRow _ _ _ _ _ _
    have e : (l ++ [128] ++ zeros 0).map bv = l.map bv ++ [.int .u8 128] := by simp [zeros, bv]
    rw [e]; exact hown2
  have HB2 := Lib.hid hb2
  have HO2 := Lib.hid ho2
  clear hb2 ho2 hown1 hown2 hg1 hg2 hrow1 hrow2 h hx hn
  go_loopw [3] (fun b wr => ∃ (A' : Option Addr) (n' c' j : Nat), b = .slice A' n' c' ∧ j ≤ gap n ∧ n' = n + 1 + j ∧ OwnB wr w.heap.size A' n' c' (l ++ [128] ++ zeros j) ∧ Below w.heap.size w wr) (fun b _ => match b with | .slice _ n' _ => n + 1 + gap n - n' | _ => 0)
  case atStart => exact ⟨A2, n + 1, c2, 0, rfl, Nat.zero_le _, rfl, HO2.out, HB2.out⟩
  case round =>
    obtain ⟨A', n', c', j, rfl, hj, hn', ho, hb⟩ := hrel
    by_cases hlt : j < gap n
    · have hmod := gap_lt n j hlt
      rw [← hn'] at hmod
      have hnb : n' ≤ 1099511627900 := by have := HN.out; unfold gap at hj; omega
      have HJ := Lib.hid hlt
      have HNN := Lib.hid hn'
      clear hn' hlt hj
      have he : ((n' : Int) % 64 != 56) = true := by rw [bne_iff_ne]; omega
      have hs := hb.size
      have HB := Lib.hid hb
      have HO := Lib.hid ho
      clear hb ho
      go_wp2_with (at_builtin
                   refine wpList_append_rd _ rfl (.tmp 33) (.tmp 34) 32 rfl w.heap.size 5 i0 _ 1 Tryd.underlying32 hi hz0 hz1 hz2 rfl A' n' c' ((l ++ [128] ++ zeros j).map bv) rfl (World.ownsRow.alloc HO.out _) (some ⟨wr.heap.size, 0, none⟩) 1 1 [.int .u8 0] rfl
                     (Rd.new wr [Value.int .u8 0] 5) (by simp [Value.oneCell']) (by simp only [maxLen]; omega) (by omega) (by simp; omega) ?_
                   intro A3 c3 w3 hown3 hg3 hrow3)
      have ho3 : OwnB w3 w.heap.size A3 (n' + 1) c3 (l ++ [128] ++ zeros (j + 1)) := by
        rw [← zeros_snoc, ← List.append_assoc]
        show w3.ownsRow _ _ _ _ _ _
        rw [List.map_append]; exact hown3
      have hb3 : Below w.heap.size w w3 := (HB.out.alloc HB.out.size _).grown hg3 (HB.out.alloc HB.out.size _).size (OwnB.block HO.out)
      refine ⟨⟨A3, n' + 1, c3, j + 1, rfl, HJ.out, by have := HNN.out; omega, ho3, hb3⟩, ?_⟩
      show n + 1 + gap n - (n' + 1) < n + 1 + gap n - n'
      have := HNN.out
      have := HJ.out
      omega
    · have ej : j = gap n := by omega
      subst ej
      have hmod := gap_end n _ rfl
      rw [← hn'] at hmod
      have he : ((n' : Int) % 64 != 56) = false := by rw [bne_eq_false_iff_eq]; omega
      have hnb : n' ≤ 1099511627900 := by have := HN.out; unfold gap at hn'; omega
      have HNN := Lib.hid hn'
      clear hn' hlt hj
      have HO3 := Lib.hid ho
      have HB3 := Lib.hid hb
      have hn := HN.out
      clear ho hb
      go_wp2_with fail
      go_loopw [3, 5] (fun b i wr => ∃ (A3 : Option Addr) (n3 c3 t : Nat), b = .slice A3 n3 c3 ∧ t ≤ 8 ∧ n3 = n' + t ∧ i = .int .i64 (7 - (t : Int)) ∧ OwnB wr w.heap.size A3 n3 c3 (l ++ [128] ++ zeros (gap n) ++ (big 8 (n * 8)).take t) ∧ Below w.heap.size w wr) (fun _ i _ => (intOf i + 1).toNat)
      case atStart => exact ⟨A', n', c', 0, rfl, Nat.zero_le _, rfl, rfl, by simpa using HO3.out, HB3.out⟩
      case round =>
        obtain ⟨A3, n3, c3, t, rfl, ht, hn3, rfl, ho, hb⟩ := hrel
        by_cases hlt : t < 8
        · obtain ⟨k, hk⟩ : ∃ k, k = 7 - t := ⟨_, rfl⟩
          have ek : 7 - (t : Int) = (k : Int) := by omega
          have hk7 : k ≤ 7 := by omega
          have hnb3 : n3 ≤ 1099511628000 := by omega
          have hs := hb.size
          have HT := Lib.hid hk
          have HLT := Lib.hid hlt
          have HN3 := Lib.hid hn3
          have HB := Lib.hid hb
          have HO := Lib.hid ho
          have HE := Lib.hid ek
          rw [ek]
          clear ho hb ek hk ht hlt hn3
          have HBY := Lib.hid (byte_len n k)
          go_wp2_with (at_builtin
                       refine wpList_append_rd _ rfl (.tmp 44) (.tmp 51) 32 rfl w.heap.size 5 i0 _ 1 Tryd.underlying32 hi hz0 hz1 hz2 rfl A3 n3 c3 ((l ++ [128] ++ zeros (gap n) ++ (big 8 (n * 8)).take t).map bv) rfl (World.ownsRow.alloc HO.out _) (some ⟨wr.heap.size, 0, none⟩) 1 1 [.int .u8 ((n : Int) * 8 / 2 ^ (8 * k) % 256)] rfl
                         (Rd.new wr [Value.int .u8 ((n : Int) * 8 / 2 ^ (8 * k) % 256)] 5) (by simp [Value.oneCell']) (by simp only [maxLen]; omega) (by omega) (by simp; omega) ?_
                       intro A4 c4 w4 hown4 hg4 hrow4)
          have ho4 : OwnB w4 w.heap.size A4 (n3 + 1) c4 (l ++ [128] ++ zeros (gap n) ++ (big 8 (n * 8)).take (t + 1)) := by
            rw [big_take 8 (n * 8) t HLT.out, show 8 - 1 - t = k from HT.out.symm, ← List.append_assoc]
            show w4.ownsRow _ _ _ _ _ _
            rw [List.map_append, List.map_cons, HBY.out]; exact hown4
          have hb4 : Below w.heap.size w w4 := (HB.out.alloc HB.out.size _).grown hg4 (HB.out.alloc HB.out.size _).size (OwnB.block HO.out)
          refine ⟨⟨A4, n3 + 1, c4, t + 1, rfl, HLT.out, by have := HN3.out; omega, by have := HE.out; congr 1; omega, ho4, hb4⟩, ?_⟩
          simp [intOf]
        · have et : t = 8 := by omega
          subst et
          have e71 : (7 - ((8 : Nat) : Int)) = -1 := rfl
          rw [e71]
          clear e71
          have hlen : n3 = (pad l).length := by rw [← OwnB.len ho, pad_eq, HX.out, List.take_of_length_le (by rw [big_len]; omega)]
          have hop : OwnB wr w.heap.size A3 n3 c3 (pad l) := by
            rw [pad_eq, HX.out]
            rw [List.take_of_length_le (by rw [big_len]; omega)] at ho
            exact ho
          have hn3b : n3 ≤ 1099511628000 := by omega
          have HP := Lib.hid hop
          have HL := Lib.hid hlen
          have HB := Lib.hid hb
          have H64 := Lib.hid (pad_len l)
          clear ho hb hop hlen hn3
          go_wp2_with fail
          refine (table_any wr).mono ?_
          rintro e w3 ⟨rfl, hb3⟩
          have HB3 := Lib.hid hb3
          have hzz := zero_w64
          have hz8 := zero_w8
          have hi64 : (Tryd.prog.info? 123).map (·.size) = some (K.map wv).length := by rw [info_w64, List.length_map, K_len]
          have hi8 : (Tryd.prog.info? 125).map (·.size) = some (init.list.map wv).length := by rw [info_w8]; rfl
          clear hb3 HX
          go_wp2_with (with_reducible change wpList _ _ _ _ _ _
                       first
                         | (refine wpList_store_bk rfl 123 _ _ rfl w3.heap.size (K.map wv) rfl rfl 123 (rowW []) (Bk.new w3 _ _) (by rw [List.length_map, K_len, rowW_nil_len]) hi64 (mem_words K) ?_
                            intro w4 HB4 HG4)
                         | refine wpList_build rfl 125 _ rfl (.agg (init.list.map wv).toArray) (fun _ => by kernel_rfl) ?_
                         | (refine wpList_store_bk rfl 125 _ _ rfl w4.heap.size (init.list.map wv) rfl rfl 125 ([0, 0, 0, 0, 0, 0, 0, 0].map wv) (Bk.new w4 _ _) rfl hi8 (mem_words _) ?_
                            intro w5 HB5 HG5))
          have hk3 : wr.heap.size ≤ w3.heap.size := HB3.out.size
          have hks : w3.heap.size < w4.heap.size := HB4.out.lt
          have hb5 : Below wr.heap.size wr w5 := by
            have b1 := HB3.out.alloc hk3 (.cells (rowW []).toArray 123)
            have b2 := b1.grown HG4.out b1.size (fun g e => by injection e with e; omega)
            have b3 := b2.alloc b2.size (.cells ([0, 0, 0, 0, 0, 0, 0, 0].map wv).toArray 125)
            exact b3.grown HG5.out b3.size (fun g e => by injection e with e; omega)
          have hbk : Bk w5 w3.heap.size 123 (K.map wv) := (HB4.out.alloc _).grown HG5.out (by intro e; injection e with e; omega)
          have hrd : Rd w5 A3 n3 ((pad l).map bv) := HP.out.rd.below hb5
          have hA3 : 0 < n3 → ∃ gm, A3 = some ⟨gm, 0, none⟩ ∧ gm < w3.heap.size := by
            intro q
            obtain ⟨gm, cap, hv, _, hlt⟩ := World.ownsRow.form HP.out q
            injection hv with hv
            exact ⟨gm, hv, Nat.lt_of_lt_of_le hlt hk3⟩
          have hbs : Below w.heap.size w w5 := HB.out.trans ⟨hb5.os, hb5.tape, hb5.output, hb5.size, fun k hk => hb5.block k (Nat.lt_of_lt_of_le hk HB.out.size)⟩
          have hsw : w.heap.size ≤ w4.heap.size := by have := HB.out.size; omega
          have HBK := Lib.hid hbk
          have HRD := Lib.hid hrd
          have HA3 := Lib.hid hA3
          have HBS := Lib.hid hbs
          have HSW := Lib.hid hsw
          have HKS := Lib.hid hks
          have HK3 := Lib.hid hk3
          clear hbk hrd hA3 hbs hsw hb5 HP HB HB4 HG4 HG5 HB3 hzz hz8 HO3 HNN hnb hn
          clear HK3 hks hk3
          generalize w3.heap.size = gk at HBK HA3 HKS ⊢
          generalize w4.heap.size = gs at HB5 HKS HSW ⊢
          go_loopw [8] (fun i wx => ∃ q : Nat, 64 * q ≤ n3 ∧ i = .int .i64 (64 * (q : Int)) ∧ Bk wx gs 125 ((absorb q init (pad l)).list.map wv) ∧ w5.grownBy wx (some gs)) (fun i _ => n3 - (intOf i).toNat)
          case atStart => exact ⟨0, by omega, rfl, HB5.out, grown_refl _ _⟩
          case round =>
            obtain ⟨q, hq, rfl, hbx, hgx⟩ := hrel
            by_cases hlt : 64 * q < n3
            · have hq64 : 64 * q + 64 ≤ n3 := by
                have h1 := HL.out
                have h2 := H64.out
                omega
              obtain ⟨gm, rfl, hgm⟩ := HA3.out (by omega)
              have hgms : gm ≠ gs := by have := HKS.out; omega
              have hrx := HRD.out.grown hgx (fun a e he => by injection e with e; injection he with he; subst e; exact hgms he.symm)
              have hbkx := HBK.out.grown hgx (by intro e; injection e with e; have := HKS.out; omega)
              obtain ⟨b, hb⟩ : ∃ b, b = ((pad l).drop (64 * q)).take 64 := ⟨_, rfl⟩
              have hbl : b.length = 64 := by rw [hb, List.length_take, List.length_drop, ← HL.out]; omega
              have hcell : ∀ k, k < 64 → wr.cell? ⟨gm, 64 * q + k, none⟩ = some (.int .u8 ((b.getD k 0).toNat : Int)) := by
                intro k hk
                obtain ⟨a, e, _, hc⟩ := hrx.at_ (k := 64 * q + k) (by omega)
                injection e with e
                subst e
                rw [at_add, Nat.zero_add] at hc
                rw [hc]
                have hlp : 64 * q + k < (pad l).length := by rw [← HL.out]; omega
                simp [hb, bv, hk, hlp]
              have HSTEP := Lib.hid (show absorb (q + 1) init (pad l) = mixS (absorb q init (pad l)) b by rw [hb]; exact absorb_step q init (pad l))
              have HBL := Lib.hid hbl
              have HC := Lib.hid hcell
              have HBX := Lib.hid hbx
              have HGX := Lib.hid hgx
              have HBKX := Lib.hid hbkx
              have hi64 : (Tryd.prog.info? 123).map (·.size) = some (rowW []).length := by rw [info_w64, rowW_nil_len]
              have hzz := zero_w64
              clear hb hbl hcell hbx hgx hbkx hrx HRD HA3
              generalize absorb q init (pad l) = s at HSTEP HBX
              go_wp2_with (with_reducible change wpList _ _ _ _ _ _
                           first
                             | refine wpList_build rfl 123 _ rfl (.agg (rowW []).toArray) (fun _ => by kernel_rfl) ?_
                             | (refine wpList_store_bk rfl 123 _ _ rfl wr.heap.size (rowW []) rfl rfl 123 (rowW []) (Bk.new wr _ _) rfl hi64 mem_zeros ?_
                                intro wy HBY HGY))
              have hgsw : gs < wr.heap.size := HBX.out.lt
              have hgmw : gm < wr.heap.size := by have := HKS.out; omega
              have hgkw : gk < wr.heap.size := by have := HKS.out; omega
              have hby : Below wr.heap.size wr wy := ((Below.refl wr.heap.size wr).alloc (Nat.le_refl _) (.cells (rowW []).toArray 123)).grown HGY.out (by simp) (fun g e => by injection e with e; omega)
              have HCB := Lib.hid (fun (wz : World) (hz : Below wr.heap.size wr wz) (k : Nat) (hk : k < 64) => (hz.cell (p := ⟨gm, 64 * q + k, none⟩) hgmw).trans (HC.out k hk))
              have HKB := Lib.hid (fun (wz : World) (hz : Below wr.heap.size wr wz) => HBKX.out.below hz hgkw)
              have HSB := Lib.hid (fun (wz : World) (hz : Below wr.heap.size wr wz) => HBX.out.below hz hgsw)
              have HGB := Lib.hid (fun (wz : World) (hz : Below wr.heap.size wr wz) => grown_trans HGX.out (grown_of_below hz (some gs)) (.inl rfl))
              have HBY2 := Lib.hid hby
              clear hby HGY HC HBKX HBX HGX hzz hi64
              generalize wr.heap.size = gw at HCB HKB HSB HGB HBY HBY2 hgsw hgmw hgkw ⊢
              go_loopw [10] (fun i wz => ∃ m : Nat, m ≤ 16 ∧ i = .int .i64 m ∧ Bk wz gw 123 (rowW (spread b m)) ∧ Below gw wr wz) (fun i _ => 16 - (intOf i).toNat)
              case atStart => exact ⟨0, by omega, rfl, HBY.out, HBY2.out⟩
              case round =>
                obtain ⟨m, hm, rfl, hb1, hbl⟩ := hrel
                by_cases hlm : m < 16
                · skip
                  exact sumWords (fun k hk => HCB.out wr hbl k hk) hb1 hbl hlm (by omega) hq64 hn3b _
                · have e16 : m = 16 := by omega
                  have e16' : ((m : Nat) : Int) = 16 := by omega
                  rw [e16']
                  subst e16
                  clear e16' hlm hm
                  go_wp2_with fail
                  go_loopw [12] (fun i wz => ∃ m : Nat, 16 ≤ m ∧ m ≤ 64 ∧ i = .int .i64 m ∧ Bk wz gw 123 (rowW (spread b m)) ∧ Below gw wr wz) (fun i _ => 64 - (intOf i).toNat)
                  case atStart => exact ⟨16, by omega, by omega, rfl, hb1, Below.refl _ _⟩
                  case round =>
                    obtain ⟨m, hm0, hm, rfl, hb2, hb3⟩ := hrel
                    by_cases hlm : m < 64
                    · exact sumSpread hb2 hb3 hm0 hlm _
                    · have e64 : m = 64 := by omega
                      have e64' : ((m : Nat) : Int) = 64 := by omega
                      rw [e64']
                      subst e64
                      clear e64' hlm hm hm0
                      have hbo := hbl.trans hb3
                      have hrow : rowW (spread b 64) = (spread b 64).map wv := by simp [rowW, spread_len]
                      rw [hrow] at hb2
                      have hW := spread_len b 64
                      have HWE := Lib.hid (show IsSp b (spread b 64) from fun _ => rfl)
                      have HKB2 := Lib.hid (HKB.out _ hbo)
                      have HSB2 := HSB.out _ hbo
                      have HGB2 := Lib.hid (HGB.out _ hbo)
                      have HB2 := Lib.hid hb2
                      have HWL := Lib.hid hW
                      have hwsz := hb2.lt
                      clear hbo hrow hb2 hW hbl hb1 hb3 HCB HKB HSB HGB HBY HBY2
                      generalize spread b 64 = W at HWE HB2 HWL
                      have hi8 : (Tryd.prog.info? 125).map (·.size) = some (s.list.map wv).length := by rw [info_w8]; rfl
                      have hi8a : (Tryd.prog.info? 125).map (·.size) = some (s.list.map wv).toArray.size := by rw [info_w8]; rfl
                      have hz8 := zero_w8
                      go_wp2_with (with_reducible change wpList _ _ _ _ _ _
                                   first
                                     | refine wpList_load_row rfl 125 _ rfl gs rfl 125 (s.list.map wv).toArray (0, 0) _ HSB2 Tryd.underlying125 rfl hi8a ?_
                                     | (refine wpList_store_bk rfl 125 _ _ rfl wr.heap.size (s.list.map wv) rfl rfl 125 ([0, 0, 0, 0, 0, 0, 0, 0].map wv) (Bk.new wr _ _) rfl hi8 (mem_words _) ?_
                                        intro w7 HB7 HG7))
                      have hb7 : Below wr.heap.size wr w7 := ((Below.refl wr.heap.size wr).alloc (Nat.le_refl _) (.cells ([0, 0, 0, 0, 0, 0, 0, 0].map wv).toArray 125)).grown HG7.out (by simp) (fun g e => by injection e with e; omega)
                      have HK7 := Lib.hid (HKB2.out.kept hb7)
                      have HW7 := Lib.hid (HB2.out.kept hb7)
                      have HS7 := Lib.hid (HSB2.kept hb7)
                      have HG7s := Lib.hid (grown_trans HGB2.out (grown_of_below hb7 (some gs)) (.inl rfl))
                      have hlk : gk < wr.heap.size := HKB2.out.lt
                      have hlw : gw < wr.heap.size := HB2.out.lt
                      have hls : gs < wr.heap.size := HSB2.lt
                      have hl5 : w5.heap.size ≤ wr.heap.size := HGB2.out.size
                      clear hb7 HKB2 HB2 HSB2 HGB2 HG7 hz8 hi8a hwsz
                      generalize wr.heap.size = gv at HB7 hlk hlw hls hl5 ⊢
                      have hi8n : (Tryd.prog.info? 125).map (·.size) = some 8 := info_w8
                      go_loopw [16] (fun i wz => ∃ m : Nat, m ≤ 64 ∧ i = .int .i64 m ∧ Bk wz gv 125 ((rounds W m s).list.map wv) ∧ w7.grownBy wz (some gv)) (fun i _ => 64 - (intOf i).toNat)
                      case atStart => exact ⟨0, by omega, rfl, HB7.out, grown_refl _ _⟩
                      case round =>
                        obtain ⟨m, hm, rfl, hb8, hg8⟩ := hrel
                        by_cases hlm : m < 64
                        · exact sumRound (HK7.out.grown hg8 (by intro e; injection e with e; omega)) (HW7.out.grown hg8 (by intro e; injection e with e; omega)) HWL.out hb8 hg8 hlm _
                        · have e64 : m = 64 := by omega
                          have e64' : ((m : Nat) : Int) = 64 := by omega
                          rw [e64']
                          subst e64
                          clear e64' hlm hm
                          have HM := Lib.hid (HWE.out s)
                          have HS9 := Lib.hid (HS7.out.grown hg8 (by intro e; injection e with e; omega))
                          have HV9 := Lib.hid hb8
                          have HG9 := Lib.hid (grown_new HG7s.out hg8 hl5)
                          clear hb8 hg8 HS7 HG7s HK7 HW7 HB7
                          generalize rounds W 64 s = r at HM HV9
                          go_wp2_with fail
                          go_loopw [19] (fun i wz => ∃ m : Nat, m ≤ 8 ∧ i = .int .i64 m ∧ Bk wz gs 125 ((addN s.list r.list m).map wv) ∧ Bk wz gv 125 (r.list.map wv) ∧ w5.grownBy wz (some gs)) (fun i _ => 8 - (intOf i).toNat)
                          case atStart => exact ⟨0, by omega, rfl, HS9.out, HV9.out, HG9.out⟩
                          case round =>
                            obtain ⟨m, hm, rfl, hb1, hb2, hb3⟩ := hrel
                            by_cases hlm : m < 8
                            · have sc : wr.cell? ⟨gs, m, none⟩ = some (.int .u32 ((s.list.getD m 0).toNat : Int)) := by
                                rw [← addN_at s.list r.list m m (Nat.le_refl _)]
                                exact hb1.at_ (words_at (by rw [addN_len]; exact hlm))
                              exact sumAdd sc hb1 hb2 hb3 hlm (by omega) _
                            · have e8 : m = 8 := by omega
                              subst e8
                              rw [addN_8, ← HM.out, ← HSTEP.out] at hb1
                              have HF1 := Lib.hid hb1
                              have HF3 := Lib.hid hb3
                              clear hb1 hb2 hb3
                              go_wp2_with fail
                              refine ⟨⟨q + 1, by omega, ?_, HF1.out, HF3.out⟩, ?_⟩
                              · congr 1
                              · simp [intOf]; omega
            · have hqe : 64 * q = n3 := by omega
              have HSU := Lib.hid (show sum l = (absorb q init (pad l)).bytes by unfold sum; rw [← HL.out, ← hqe, Nat.mul_div_cancel_left q (by decide)])
              have hbz := HBS.out
              have hbw : Below w.heap.size w wr := by
                exact ⟨hgx.os.trans hbz.os, hgx.tape.trans hbz.tape, hgx.output.trans hbz.output, Nat.le_trans hbz.size hgx.size, fun k hk => (hgx.block k (Nat.lt_of_lt_of_le hk hbz.size) (by intro e; injection e with e; have := HSW.out; omega)).trans (hbz.block k hk)⟩
              generalize absorb q init (pad l) = s at hbx HSU
              have HX := Lib.hid hbx
              have HB := Lib.hid hbw
              have hsz := hbw.size
              clear hbx hbw hgx hbz HRD HA3 HBK hqe HBS HB5
              go_wp2_with fail
              go_loopw [20, 21] (fun b i wz => ∃ (A4 : Option Addr) (n4 c4 m : Nat), m ≤ 8 ∧ b = .slice A4 n4 c4 ∧ i = .int .i64 m ∧ n4 = 4 * m ∧ OwnB wz w.heap.size A4 n4 c4 (bytesTo s.list m) ∧ Bk wz gs 125 (s.list.map wv) ∧ Below w.heap.size w wz) (fun _ i _ => 8 - (intOf i).toNat)
              case atStart => exact ⟨some ⟨wr.heap.size, 0, none⟩, 0, 0, 0, by omega, rfl, rfl, rfl, World.ownsRow_lit (e := 5) (base := w.heap.size) (size := 1) wr #[] 0 hsz (by simp [maxLen]) rfl, HX.out.alloc _, HB.out.alloc hsz _⟩
              case round =>
                obtain ⟨A4, n4, c4, m, hm, rfl, rfl, rfl, ho, hb, hbl⟩ := hrel
                by_cases hlm : m < 8
                · have sc : wr.cell? ⟨gs, m, none⟩ = some (.int .u32 ((s.list.getD m 0).toNat : Int)) := hb.at_ (words_at hlm)
                  exact sumOut sc ho hb hbl hlm _
                · have e8 : m = 8 := by omega
                  subst e8
                  have e9 : bytesTo s.list 8 = s.bytes := by
                    unfold bytesTo S8.bytes
                    rw [List.take_of_length_le (show s.list.length ≤ 8 from Nat.le_refl 8)]
                  rw [e9, ← HSU.out] at ho
                  have HO := Lib.hid ho
                  have HBL := Lib.hid hbl
                  clear ho hb hbl
                  go_wp2_with fail
                  go_ret
                  exact ⟨_, _, _, rfl, HO.out, HBL.out⟩
end Go.Proofs.YtmiejaohkgemnaaDoor
