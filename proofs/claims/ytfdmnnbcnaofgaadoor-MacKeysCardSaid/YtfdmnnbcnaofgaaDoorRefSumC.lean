import Derived.Test.YtfdmnnbcnaofgaaDoorRefSumL
namespace Go.Proofs.YtfdmnnbcnaofgaaDoor
open Go.RowKit
open Sh
set_option linter.unusedVariables false

set_option maxHeartbeats 4000000 in
set_option maxRecDepth 100000 in
theorem sumSpread {x0 x1 x2 x3 x4 x5 x6 x7 x8 x10 x11 x13 x14 x15 x16 x17 x18 x19 x20 x21 x22 x23 x24 x25 x26 x27 x28 x29 x30 x31 x32 x33 x34 x35 x36 x37 x38 x39 x40 x41 x42 x43 x44 x45 x46 x47 x48 x49 x50 x51 x52 x53 x54 x55 x56 x57 x58 x59 x60 x61 x62 x63 x64 x65 x66 x67 x68 x69 x70 x71 x72 x73 x74 x75 x76 x77 x78 x79 x80 x81 x82 x83 x84 x85 x86 x87 x88 x89 x90 x91 x92 x93 x94 x95 x96 x97 x98 x99 x100 x101 x102 x103 x104 x105 x106 x107 x108 x109 x110 x111 x112 x113 x114 x115 x116 x117 x118 x119 x120 x121 x122 x123 x124 x125 x126 x127 x128 x129 x130 x131 x132 x133 x134 x135 x136 x137 x138 x139 x140 x141 x142 x143 x144 x145 x146 x147 x148 x149 x150 x151 x152 x153 x154 x155 x156 x157 x158 x159 x160 x161 x162 x163 x164 x165 x166 x167 x168 x169 x170 x171 x172 x173 x174 x175 x176 x177 x178 x179 x180 x181 x182 x183 x184 x185 x186 x187 x188 x189 x190 x191 x192 x193 x194 x195 x196 x197 x198 x199 x200 x201 x202 x203 x204 x205 x206 x207 x208 x209 x210 x211 x212 x213 x214 x215 x216 x217 x218 x219 x220 x221 x222 x223 x224 x225 x226 x227 x228 x229 x230 x231 x232 x233 x234 x235 x236 x237 x238 x239 x240 x241 x242 x243 x244 x245 x246 x247 x248 x249 x250 x251 x252 x253 x254 x255 x256 x257 x258 x259 x260 x261 x262 x263 x264 x265 x266 x267 x268 x269 x270 x271 x272 x273 x274 x275 x276 x277 x278 x279 x280 x281 x282 : Value} {gw m : Nat} {b : List UInt8} {wo wr : World} (hb2 : Bk wr gw 79 (rowW (spread b m))) (hb3 : Below gw wo wr) (hm0 : 16 ≤ m) (hlm : m < 64) (Q0 : Exit → Act → World → Prop) :
    Code.wp Tryd.prog (sumLoop 4) (Exit.then (fun a' w' => (∃ u12 u13 u14 u101 u102 u103 u104 u105 u106 u107 u108 u109 u110 u111 u112 u113 u114 u115 u116 u117 u118 u119 u120 u121 u122 u123 u124 u125 u126 u127 u128 u129 u130 u131 u132 u133 u134 u135 u136 u137 u138 u139 u140 u141 u142 u143 u144 u145 u146 u147 u148 u149 u150 u151 u152 u153 : Value, ((∃ m : Nat, 16 ≤ m ∧ m ≤ 64 ∧ u12 = Value.int IntKind.i64 ↑m ∧ Bk w' gw 79 (rowW (spread b m)) ∧ Below gw wo w')) ∧ a' = { tmps := #[x0, x1, x2, x3, x4, x5, x6, x7, x8, Value.pointer (some { block := gw, off := 0 }), x10, x11, u12, u13, u14, x15, x16, x17, x18, x19, x20, x21, x22, x23, x24, x25, x26, x27, x28, x29, x30, x31, x32, x33, x34, x35, x36, x37, x38, x39, x40, x41, x42, x43, x44, x45, x46, x47, x48, x49, x50, x51, x52, x53, x54, x55, x56, x57, x58, x59, x60, x61, x62, x63, x64, x65, x66, x67, x68, x69, x70, x71, x72, x73, x74, x75, x76, x77, x78, x79, x80, x81, x82, x83, x84, x85, x86, x87, x88, x89, x90, x91, x92, x93, x94, x95, x96, x97, x98, x99, x100, u101, u102, u103, u104, u105, u106, u107, u108, u109, u110, u111, u112, u113, u114, u115, u116, u117, u118, u119, u120, u121, u122, u123, u124, u125, u126, u127, u128, u129, u130, u131, u132, u133, u134, u135, u136, u137, u138, u139, u140, u141, u142, u143, u144, u145, u146, u147, u148, u149, u150, u151, u152, u153, x154, x155, x156, x157, x158, x159, x160, x161, x162, x163, x164, x165, x166, x167, x168, x169, x170, x171, x172, x173, x174, x175, x176, x177, x178, x179, x180, x181, x182, x183, x184, x185, x186, x187, x188, x189, x190, x191, x192, x193, x194, x195, x196, x197, x198, x199, x200, x201, x202, x203, x204, x205, x206, x207, x208, x209, x210, x211, x212, x213, x214, x215, x216, x217, x218, x219, x220, x221, x222, x223, x224, x225, x226, x227, x228, x229, x230, x231, x232, x233, x234, x235, x236, x237, x238, x239, x240, x241, x242, x243, x244, x245, x246, x247, x248, x249, x250, x251, x252, x253, x254, x255, x256, x257, x258, x259, x260, x261, x262, x263, x264, x265, x266, x267, x268, x269, x270, x271, x272, x273, x274, x275, x276, x277, x278, x279, x280, x281, x282], defers := [] }) ∧ 64 - (intOf (a'.tmps.getD 12 undef)).toNat < 64 - (intOf ((#[x0, x1, x2, x3, x4, x5, x6, x7, x8, Value.pointer (some { block := gw, off := 0 }), x10, x11, Value.int IntKind.i64 ↑m, x13, x14, x15, x16, x17, x18, x19, x20, x21, x22, x23, x24, x25, x26, x27, x28, x29, x30, x31, x32, x33, x34, x35, x36, x37, x38, x39, x40, x41, x42, x43, x44, x45, x46, x47, x48, x49, x50, x51, x52, x53, x54, x55, x56, x57, x58, x59, x60, x61, x62, x63, x64, x65, x66, x67, x68, x69, x70, x71, x72, x73, x74, x75, x76, x77, x78, x79, x80, x81, x82, x83, x84, x85, x86, x87, x88, x89, x90, x91, x92, x93, x94, x95, x96, x97, x98, x99, x100, x101, x102, x103, x104, x105, x106, x107, x108, x109, x110, x111, x112, x113, x114, x115, x116, x117, x118, x119, x120, x121, x122, x123, x124, x125, x126, x127, x128, x129, x130, x131, x132, x133, x134, x135, x136, x137, x138, x139, x140, x141, x142, x143, x144, x145, x146, x147, x148, x149, x150, x151, x152, x153, x154, x155, x156, x157, x158, x159, x160, x161, x162, x163, x164, x165, x166, x167, x168, x169, x170, x171, x172, x173, x174, x175, x176, x177, x178, x179, x180, x181, x182, x183, x184, x185, x186, x187, x188, x189, x190, x191, x192, x193, x194, x195, x196, x197, x198, x199, x200, x201, x202, x203, x204, x205, x206, x207, x208, x209, x210, x211, x212, x213, x214, x215, x216, x217, x218, x219, x220, x221, x222, x223, x224, x225, x226, x227, x228, x229, x230, x231, x232, x233, x234, x235, x236, x237, x238, x239, x240, x241, x242, x243, x244, x245, x246, x247, x248, x249, x250, x251, x252, x253, x254, x255, x256, x257, x258, x259, x260, x261, x262, x263, x264, x265, x266, x267, x268, x269, x270, x271, x272, x273, x274, x275, x276, x277, x278, x279, x280, x281, x282] : Array Value).getD 12 undef)).toNat) Q0)
      { tmps := #[x0, x1, x2, x3, x4, x5, x6, x7, x8, Value.pointer (some { block := gw, off := 0 }), x10, x11, Value.int IntKind.i64 ↑m, x13, x14, x15, x16, x17, x18, x19, x20, x21, x22, x23, x24, x25, x26, x27, x28, x29, x30, x31, x32, x33, x34, x35, x36, x37, x38, x39, x40, x41, x42, x43, x44, x45, x46, x47, x48, x49, x50, x51, x52, x53, x54, x55, x56, x57, x58, x59, x60, x61, x62, x63, x64, x65, x66, x67, x68, x69, x70, x71, x72, x73, x74, x75, x76, x77, x78, x79, x80, x81, x82, x83, x84, x85, x86, x87, x88, x89, x90, x91, x92, x93, x94, x95, x96, x97, x98, x99, x100, x101, x102, x103, x104, x105, x106, x107, x108, x109, x110, x111, x112, x113, x114, x115, x116, x117, x118, x119, x120, x121, x122, x123, x124, x125, x126, x127, x128, x129, x130, x131, x132, x133, x134, x135, x136, x137, x138, x139, x140, x141, x142, x143, x144, x145, x146, x147, x148, x149, x150, x151, x152, x153, x154, x155, x156, x157, x158, x159, x160, x161, x162, x163, x164, x165, x166, x167, x168, x169, x170, x171, x172, x173, x174, x175, x176, x177, x178, x179, x180, x181, x182, x183, x184, x185, x186, x187, x188, x189, x190, x191, x192, x193, x194, x195, x196, x197, x198, x199, x200, x201, x202, x203, x204, x205, x206, x207, x208, x209, x210, x211, x212, x213, x214, x215, x216, x217, x218, x219, x220, x221, x222, x223, x224, x225, x226, x227, x228, x229, x230, x231, x232, x233, x234, x235, x236, x237, x238, x239, x240, x241, x242, x243, x244, x245, x246, x247, x248, x249, x250, x251, x252, x253, x254, x255, x256, x257, x258, x259, x260, x261, x262, x263, x264, x265, x266, x267, x268, x269, x270, x271, x272, x273, x274, x275, x276, x277, x278, x279, x280, x281, x282], defers := [] } wr := by
  conv => arg 2; whnf
  have hl := spread_len b m
  have HW := Lib.hid (show (spread b m).getD (m - 16) 0 + sg0 ((spread b m).getD (m - 15) 0) + (spread b m).getD (m - 7) 0 + sg1 ((spread b m).getD (m - 2) 0) = next b (spread b m) m by
    simp only [next, if_neg (show ¬ m < 16 by omega)]
    ac_rfl)
  have c2 : ∀ k, k < m → @World.cell? wr ⟨gw, k, none⟩ = some (.int .u32 (((spread b m).getD k 0).toNat : Int)) := fun k hk => hb2.at_ (rowW_at (by omega))
  have d2 := c2 (m - 2) (by omega)
  have d7 := c2 (m - 7) (by omega)
  have d15 := c2 (m - 15) (by omega)
  have d16 := c2 (m - 16) (by omega)
  generalize (spread b m).getD (m - 2) 0 = x2 at d2 HW
  generalize (spread b m).getD (m - 7) 0 = x7 at d7 HW
  generalize (spread b m).getD (m - 15) 0 = x15 at d15 HW
  generalize (spread b m).getD (m - 16) 0 = x16 at d16 HW
  have hsg1 := sg1_wv x2
  have hsg0 := sg0_wv x15
  have hsum := Lib.hid (add4_wv x16 (sg0 x15) x7 (sg1 x2))
  have R7 := Lib.hid (show ∀ (w0 : World) (k : Nat), Calls Tryd.prog 53 #[.int .u32 (x15.toNat : Int), .int .u64 7] (w0.drewN k) (fun e w'' => e = .returned (.int .u32 ((rotr x15 7).toNat : Int)) ∧ ∃ m, w'' = w0.drewN m) from fun w0 k => turnQ x15 7 w0 k)
  have R18 := Lib.hid (show ∀ (w0 : World) (k : Nat), Calls Tryd.prog 53 #[.int .u32 (x15.toNat : Int), .int .u64 18] (w0.drewN k) (fun e w'' => e = .returned (.int .u32 ((rotr x15 18).toNat : Int)) ∧ ∃ m, w'' = w0.drewN m) from fun w0 k => turnQ x15 18 w0 k)
  have R17 := Lib.hid (show ∀ (w0 : World) (a0 k : Nat), Calls Tryd.prog 53 #[.int .u32 (x2.toNat : Int), .int .u64 17] (w0.drewN (a0 + k)) (fun e w'' => e = .returned (.int .u32 ((rotr x2 17).toNat : Int)) ∧ ∃ m, w'' = w0.drewN (a0 + m)) from fun w0 a0 k => turnQ2 x2 17 w0 a0 k)
  have R19 := Lib.hid (show ∀ (w0 : World) (a0 k : Nat), Calls Tryd.prog 53 #[.int .u32 (x2.toNat : Int), .int .u64 19] (w0.drewN (a0 + k)) (fun e w'' => e = .returned (.int .u32 ((rotr x2 19).toNat : Int)) ∧ ∃ m, w'' = w0.drewN (a0 + m)) from fun w0 a0 k => turnQ2 x2 19 w0 a0 k)
  have hz : wr.cell? ⟨gw, m, none⟩ = some (.int .u32 0) := hb2.at_ (rowW_zero hl hlm)
  have hf := hb2.frozen m
  have H1 := Lib.hid hb2
  have H3 := Lib.hid hb3
  clear hb2 hb3 c2
  go_wp2_with fail
  go_quiet ((go_at_call 53; first | with_reducible exact R7.out _ _ | with_reducible exact R18.out _ _))
  go_wp2_with fail
  go_quiet ((go_at_call 53; first | with_reducible exact R17.out _ _ _ | with_reducible exact R19.out _ _ _))
  have g1 : (0 : Int) ≤ (m : Int) := by omega
  have g2 : (m : Int) < 64 := by omega
  have g3 : (0 : Int) ≤ (m : Int) - 16 := by omega
  have g4 : (m : Int) - 16 < 64 := by omega
  have g5 : (0 : Int) ≤ (m : Int) - 7 := by omega
  have g6 : (m : Int) - 7 < 64 := by omega
  have w16 : IntKind.i64.wrap ((m : Int) - 16) = (m : Int) - 16 := by simp only [IntKind.wrap, IntKind.bits, IntKind.signed]; simp; omega
  have w7' : IntKind.i64.wrap ((m : Int) - 7) = (m : Int) - 7 := by simp only [IntKind.wrap, IntKind.bits, IntKind.signed]; simp; omega
  have p16 : (16 : Int) ≤ (m : Int) := by omega
  have p7 : (7 : Int) ≤ (m : Int) := by omega
  have p16' : (m : Int) < 80 := by omega
  have p7' : (m : Int) < 71 := by omega
  have p16n : (m : Int) < 64 + 16 := by omega
  have p7n : (m : Int) < 64 + 7 := by omega
  have s7 : 7 ≤ m := by omega
  have t16 : ((m : Int) - 16).toNat = m - 16 := by omega
  have t7 : ((m : Int) - 7).toNat = m - 7 := by omega
  have q16 : (⟨gw, m, none⟩ : Addr) ≠ ⟨gw, m - 16, none⟩ := by intro e; injection e with _ e2 _; omega
  have q7 : (⟨gw, m, none⟩ : Addr) ≠ ⟨gw, m - 7, none⟩ := by intro e; injection e with _ e2 _; omega
  have n1 : m - 16 ≠ m := by omega
  have n2 : m - 7 ≠ m := by omega
  have n3 : m ≠ m - 16 := by omega
  have n4 : m ≠ m - 7 := by omega
  go_wp2_with fail
  go_region_held3 (fun w' => w'.cell? ⟨gw, m - 16, none⟩ = some (.int .u32 (x16.toNat : Int)) ∧ w'.cell? ⟨gw, m - 7, none⟩ = some (.int .u32 (x7.toNat : Int)))
    (first
      | go_keep
      | (refine ⟨(World.cell?_setCell_other _ _ _ _ q16).trans d16, (World.cell?_setCell_other _ _ _ _ q7).trans d7⟩)) (fail)
  go_wp2_with fail
  refine ⟨⟨m + 1, by omega, by omega, by go_num, ?_, below_set (below_drewN H3.out _) (Nat.le_refl _) _ _⟩, ?_⟩
  · have e := H1.out.set m (.int .u32 ((x16 + sg0 x15 + x7 + sg1 x2).toNat : Int))
    rw [show ((((x16.toNat : Int) + ((sg0 x15).toNat : Int)) % 4294967296 + (x7.toNat : Int)) % 4294967296 + ((sg1 x2).toNat : Int)) % 4294967296 = ((x16 + sg0 x15 + x7 + sg1 x2).toNat : Int) by rw [← hsum.out]; omega]
    rw [rowW_set _ hl (by omega)] at e
    show Bk _ _ _ (rowW (spread b m ++ [next b (spread b m) m]))
    rw [← HW.out]
    exact e.drewN _
  · simp [intOf]; omega
end Go.Proofs.YtfdmnnbcnaofgaaDoor
