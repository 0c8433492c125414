import Derived.Test.YtfdmnnbcnaofgaaDoorSame
import Derived.Test.YtfdmnnbcnaofgaaDoorShaPlain
import Derived.Laws.BitsAllLaws
namespace Go.Proofs.YtfdmnnbcnaofgaaDoor
set_option linter.unusedVariables false
open Go.RowKit
open Sh

def wv (x : UInt32) : Value := .int .u32 (x.toNat : Int)
theorem u32_lt (x : UInt32) : x.toNat < 4294967296 := x.toNat_lt
theorem xor_wv (x y : UInt32) : bits .xor .u32 (x.toNat : Int) (y.toNat : Int) = ((x ^^^ y).toNat : Int) := by
  rw [u32_xor_nat _ _ (u32_lt x) (u32_lt y), UInt32.toNat_xor]
theorem and_wv (x y : UInt32) : bits .and .u32 (x.toNat : Int) (y.toNat : Int) = ((x &&& y).toNat : Int) := by
  rw [u32_and_nat _ _ (u32_lt x) (u32_lt y), UInt32.toNat_and]
theorem add_wv (x y : UInt32) : ((x.toNat : Int) + (y.toNat : Int)) % 4294967296 = ((x + y).toNat : Int) := by
  rw [UInt32.toNat_add]; omega
theorem rotr_wv (x : UInt32) (n : Nat) (h : 0 < n) (h2 : n < 32) : (rotr x n).toNat = (x.toNat / 2 ^ n ||| x.toNat * 2 ^ (32 - n) % 4294967296) := by
  unfold rotr
  have h1 : x.toNat / 2 ^ n < 2 ^ 32 := Nat.lt_of_le_of_lt (Nat.div_le_self _ _) (u32_lt x)
  have h3 : x.toNat * 2 ^ (32 - n) % 4294967296 < 2 ^ 32 := Nat.mod_lt _ (by decide)
  have h4 := Nat.or_lt_two_pow h1 h3
  rw [UInt32.toNat_ofNat']
  exact Nat.mod_eq_of_lt h4

theorem rot_wv (x : UInt32) (n : Nat) (h : 0 < n) (h2 : n < 32) : bits .or .u32 ((x.toNat : Int) / 2 ^ n) ((x.toNat : Int) * 2 ^ (32 - n) % 4294967296) = ((rotr x n).toNat : Int) := by
  rw [rotr_wv x n h h2]
  have e1 : ((x.toNat : Int) / 2 ^ n) = ((x.toNat / 2 ^ n : Nat) : Int) := by rw [Int.natCast_ediv]; simp
  have e2 : ((x.toNat : Int) * 2 ^ (32 - n) % 4294967296) = ((x.toNat * 2 ^ (32 - n) % 4294967296 : Nat) : Int) := by simp
  rw [e1, e2]
  exact u32_or_nat _ _ (Nat.lt_of_le_of_lt (Nat.div_le_self _ _) (u32_lt x)) (Nat.mod_lt _ (by decide))
theorem rot_wv' (x : UInt32) (n : Nat) (h : 0 < n) (h2 : n < 32) : bits .or .u32 ((x.toNat : Int) * 2 ^ (32 - n) % 4294967296) ((x.toNat : Int) / 2 ^ n) = ((rotr x n).toNat : Int) := by
  rw [rotr_wv x n h h2]
  have e1 : ((x.toNat : Int) / 2 ^ n) = ((x.toNat / 2 ^ n : Nat) : Int) := by rw [Int.natCast_ediv]; simp
  have e2 : ((x.toNat : Int) * 2 ^ (32 - n) % 4294967296) = ((x.toNat * 2 ^ (32 - n) % 4294967296 : Nat) : Int) := by simp
  rw [e1, e2, Nat.or_comm]
  exact u32_or_nat _ _ (Nat.mod_lt _ (by decide)) (Nat.lt_of_le_of_lt (Nat.div_le_self _ _) (u32_lt x))
theorem and31 (n : Nat) (h : 0 < n) (h2 : n < 32) : bits .and .u64 (IntKind.u64.wrap (-(n : Int))) 31 = ((32 - n : Nat) : Int) := by
  rw [IntKind.wrap_u64]
  have e : (-(n : Int) % 18446744073709551616) = ((18446744073709551616 - n : Nat) : Int) := by omega
  rw [e, show (31 : Int) = ((31 : Nat) : Int) from rfl, u64_and_nat _ _ (by omega) (by omega), nat_mask5]
  congr 1
  omega
set_option maxRecDepth 100000 in
theorem rotl_any (x : UInt32) (n : Nat) (w : World) (h : 0 < n) (h2 : n < 32) :
    Calls Tryd.prog 68 #[.int .u32 (x.toNat : Int), .int .i64 (-(n : Int))] w (Quiet (.int .u32 ((rotr x n).toNat : Int)) w) := by
  have hx := u32_lt x
  have h31 := and31 n h h2
  have hr := Lib.hid (rot_wv' x n h h2)
  have hk : ∃ k : Nat, k = 32 - n := ⟨_, rfl⟩
  obtain ⟨k, hk⟩ := hk
  rw [← hk] at h31
  have hn : 32 - k = n := by omega
  have hk1 : 0 < k := by omega
  have hk2 : k < 32 := by omega
  have HN := Lib.hid hn
  have HK := Lib.hid hk
  clear hn hk h h2
  go_enter Tryd.func68, Tryd.ntmps68
  go_wp2
  go_ret
  have e := hr.out
  rw [← HK.out] at e
  rw [← HN.out] at e ⊢
  exact ⟨ret_int e, 0, rfl⟩
theorem right_any (x : UInt32) (n : Nat) (w : World) (h : 0 < n) (h2 : n < 32) :
    Calls Tryd.prog 67 #[.int .u32 (x.toNat : Int), .int .i64 (n : Int)] w (Quiet (.int .u32 ((rotr x n).toNat : Int)) w) := by
  have hx := u32_lt x
  go_enter Tryd.func67, Tryd.ntmps67
  go_wp2_with fail
  refine (rotl_any x n w h h2).mono ?_
  rintro e w' ⟨rfl, m, rfl⟩
  go_wp2_with fail
  go_ret
  exact ⟨rfl, _, rfl⟩
theorem turn_any (x : UInt32) (n : Nat) (w : World) (h : 0 < n) (h2 : n < 32) :
    Calls Tryd.prog 53 #[.int .u32 (x.toNat : Int), .int .u64 (n : Int)] w (Quiet (.int .u32 ((rotr x n).toNat : Int)) w) := by
  have hx := u32_lt x
  go_enter Tryd.func53, Tryd.ntmps53
  go_wp2_with fail
  go_ret
  exact ⟨ret_int (rot_wv x n h h2), 0, rfl⟩

theorem shr_toNat (x : UInt32) (n : Nat) : (shr x n).toNat = x.toNat / 2 ^ n := by
  unfold shr
  rw [UInt32.toNat_ofNat']
  exact Nat.mod_eq_of_lt (Nat.lt_of_le_of_lt (Nat.div_le_self _ _) (u32_lt x))
theorem sg1_wv (x : UInt32) : bits .xor .u32 (bits .xor .u32 ((rotr x 17).toNat : Int) ((rotr x 19).toNat : Int)) ((x.toNat : Int) / 1024) = ((sg1 x).toNat : Int) := by
  have e : ((x.toNat : Int) / 1024) = ((shr x 10).toNat : Int) := by rw [shr_toNat]; simp
  rw [e, xor_wv, xor_wv]; rfl
theorem sg0_wv (x : UInt32) : bits .xor .u32 (bits .xor .u32 ((rotr x 7).toNat : Int) ((rotr x 18).toNat : Int)) ((x.toNat : Int) / 8) = ((sg0 x).toNat : Int) := by
  have e : ((x.toNat : Int) / 8) = ((shr x 3).toNat : Int) := by rw [shr_toNat]; simp
  rw [e, xor_wv, xor_wv]; rfl
theorem add4_wv (a b c d : UInt32) : ((a.toNat : Int) + (b.toNat : Int) + (c.toNat : Int) + (d.toNat : Int)) % 4294967296 = ((a + b + c + d).toNat : Int) := by
  rw [UInt32.toNat_add, UInt32.toNat_add, UInt32.toNat_add]
  omega
theorem add5_wv (a b c d e : UInt32) : ((a.toNat : Int) + (b.toNat : Int) + (c.toNat : Int) + (d.toNat : Int) + (e.toNat : Int)) % 4294967296 = ((a + b + c + d + e).toNat : Int) := by
  rw [UInt32.toNat_add, UInt32.toNat_add, UInt32.toNat_add, UInt32.toNat_add]
  omega

def word4 (x0 x1 x2 x3 : UInt8) : UInt32 := UInt32.ofNat (((x0.toNat * 16777216 ||| x1.toNat * 65536) ||| x2.toNat * 256) ||| x3.toNat)
theorem word_eq (b : List UInt8) (i : Nat) : word b i = word4 (b.getD (4 * i) 0) (b.getD (4 * i + 1) 0) (b.getD (4 * i + 2) 0) (b.getD (4 * i + 3) 0) := rfl
theorem u8_lt (x : UInt8) : x.toNat < 256 := x.toNat_lt
theorem or3_lt (x0 x1 x2 : UInt8) : (x0.toNat * 16777216 ||| x1.toNat * 65536) ||| x2.toNat * 256 < 4294967296 := by
  have h0 := u8_lt x0
  have h1 := u8_lt x1
  have h2 := u8_lt x2
  exact Nat.or_lt_two_pow (n := 32) (Nat.or_lt_two_pow (n := 32) (by omega) (by omega)) (by omega)
theorem or4_lt (x0 x1 x2 x3 : UInt8) : ((x0.toNat * 16777216 ||| x1.toNat * 65536) ||| x2.toNat * 256) ||| x3.toNat < 4294967296 := by
  have h3 := u8_lt x3
  exact Nat.or_lt_two_pow (n := 32) (or3_lt x0 x1 x2) (by omega)
theorem word_wv (x0 x1 x2 x3 : UInt8) :
    bits .or .u32 (bits .or .u32 (bits .or .u32 ((x0.toNat : Int) % 4294967296 * 16777216 % 4294967296) ((x1.toNat : Int) % 4294967296 * 65536 % 4294967296)) ((x2.toNat : Int) % 4294967296 * 256 % 4294967296)) ((x3.toNat : Int) % 4294967296)
      = ((word4 x0 x1 x2 x3).toNat : Int) := by
  have h0 := u8_lt x0
  have h1 := u8_lt x1
  have h2 := u8_lt x2
  have h3 := u8_lt x3
  have e0 : ((x0.toNat : Int) % 4294967296 * 16777216 % 4294967296) = ((x0.toNat * 16777216 : Nat) : Int) := by omega
  have e1 : ((x1.toNat : Int) % 4294967296 * 65536 % 4294967296) = ((x1.toNat * 65536 : Nat) : Int) := by omega
  have e2 : ((x2.toNat : Int) % 4294967296 * 256 % 4294967296) = ((x2.toNat * 256 : Nat) : Int) := by omega
  have e3 : ((x3.toNat : Int) % 4294967296) = ((x3.toNat : Nat) : Int) := by omega
  rw [e0, e1, e2, e3, u32_or_nat _ _ (by omega) (by omega), u32_or_nat _ _ (Nat.or_lt_two_pow (n := 32) (by omega) (by omega)) (by omega), u32_or_nat _ _ (or3_lt x0 x1 x2) (by omega)]
  congr 1
  unfold word4
  rw [UInt32.toNat_ofNat']
  exact (Nat.mod_eq_of_lt (or4_lt x0 x1 x2 x3)).symm
end Go.Proofs.YtfdmnnbcnaofgaaDoor
