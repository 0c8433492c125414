import Derived.Test.YtmiejaohkgemnaaDoorChecked
import Derived.Test.YtmiejaohkgemnaaDoorMBase
import Derived.Laws.BitsAllLaws

/-
  SHA-256 in plain Lean: on lists of bytes. No statement.
-/
namespace Go.Proofs.YtmiejaohkgemnaaDoor
namespace Sh

def rotr (x : UInt32) (n : Nat) : UInt32 := UInt32.ofNat (x.toNat / 2 ^ n ||| x.toNat * 2 ^ (32 - n) % 4294967296)
def shr (x : UInt32) (n : Nat) : UInt32 := UInt32.ofNat (x.toNat / 2 ^ n)
def sg0 (y : UInt32) : UInt32 := rotr y 7 ^^^ rotr y 18 ^^^ shr y 3
def sg1 (x : UInt32) : UInt32 := rotr x 17 ^^^ rotr x 19 ^^^ shr x 10
def S0 (a : UInt32) : UInt32 := rotr a 2 ^^^ rotr a 13 ^^^ rotr a 22
def S1 (e : UInt32) : UInt32 := rotr e 6 ^^^ rotr e 11 ^^^ rotr e 25
def ch (e f g : UInt32) : UInt32 := (e &&& f) ^^^ ((e ^^^ 4294967295) &&& g)
def mj (a b c : UInt32) : UInt32 := (a &&& b) ^^^ (a &&& c) ^^^ (b &&& c)

structure S8 where
  a : UInt32
  b : UInt32
  c : UInt32
  d : UInt32
  e : UInt32
  f : UInt32
  g : UInt32
  h : UInt32

def S8.list (s : S8) : List UInt32 := [s.a, s.b, s.c, s.d, s.e, s.f, s.g, s.h]
def t1 (k w : UInt32) (s : S8) : UInt32 := s.h + S1 s.e + ch s.e s.f s.g + k + w
def t2 (s : S8) : UInt32 := S0 s.a + mj s.a s.b s.c
def rnd (k w : UInt32) (s : S8) : S8 := ⟨t1 k w s + t2 s, s.a, s.b, s.c, s.d + t1 k w s, s.e, s.f, s.g⟩

def K : List UInt32 := [1116352408, 1899447441, 3049323471, 3921009573, 961987163, 1508970993, 2453635748, 2870763221, 3624381080, 310598401, 607225278, 1426881987, 1925078388, 2162078206, 2614888103, 3248222580, 3835390401, 4022224774, 264347078, 604807628, 770255983, 1249150122, 1555081692, 1996064986, 2554220882, 2821834349, 2952996808, 3210313671, 3336571891, 3584528711, 113926993, 338241895, 666307205, 773529912, 1294757372, 1396182291, 1695183700, 1986661051, 2177026350, 2456956037, 2730485921, 2820302411, 3259730800, 3345764771, 3516065817, 3600352804, 4094571909, 275423344, 430227734, 506948616, 659060556, 883997877, 958139571, 1322822218, 1537002063, 1747873779, 1955562222, 2024104815, 2227730452, 2361852424, 2428436474, 2756734187, 3204031479, 3329325298]

def rounds (W : List UInt32) : Nat → S8 → S8
  | 0, s => s
  | i + 1, s => rnd (K.getD i 0) (W.getD i 0) (rounds W i s)

/-- word i of the bytes b -/
def word (b : List UInt8) (i : Nat) : UInt32 :=
  UInt32.ofNat (((b.getD (4 * i) 0).toNat * 16777216 ||| (b.getD (4 * i + 1) 0).toNat * 65536) ||| (b.getD (4 * i + 2) 0).toNat * 256 ||| (b.getD (4 * i + 3) 0).toNat)
def next (b : List UInt8) (l : List UInt32) (n : Nat) : UInt32 :=
  if n < 16 then word b n else sg1 (l.getD (n - 2) 0) + l.getD (n - 7) 0 + sg0 (l.getD (n - 15) 0) + l.getD (n - 16) 0
/-- the first n words -/
def spread (b : List UInt8) : Nat → List UInt32
  | 0 => []
  | n + 1 => spread b n ++ [next b (spread b n) n]
theorem spread_len (b : List UInt8) (n : Nat) : (spread b n).length = n := by induction n with | zero => rfl | succ n ih => simp [spread, ih]

def plus (s r : S8) : S8 := ⟨s.a + r.a, s.b + r.b, s.c + r.c, s.d + r.d, s.e + r.e, s.f + r.f, s.g + r.g, s.h + r.h⟩
def mixS (s : S8) (b : List UInt8) : S8 := plus s (rounds (spread b 64) 64 s)
def init : S8 := ⟨1779033703, 3144134277, 1013904242, 2773480762, 1359893119, 2600822924, 528734635, 1541459225⟩

/-- n blocks of 64 bytes are taken in -/
def absorb : Nat → S8 → List UInt8 → S8
  | 0, s, _ => s
  | n + 1, s, m => absorb n (mixS s (m.take 64)) (m.drop 64)

/-- the lowest k bytes of v, the highest of these first -/
def big : Nat → Nat → List UInt8
  | 0, _ => []
  | k + 1, v => big k (v / 256) ++ [UInt8.ofNat v]
def zeros (n : Nat) : List UInt8 := List.replicate n 0
def pad (m : List UInt8) : List UInt8 := m ++ [128] ++ zeros ((119 - m.length % 64) % 64) ++ big 8 (m.length * 8)
def S8.bytes (s : S8) : List UInt8 := s.list.flatMap fun x => big 4 x.toNat
def sum (m : List UInt8) : List UInt8 := (absorb ((pad m).length / 64) init (pad m)).bytes

theorem big_len (k v : Nat) : (big k v).length = k := by
  induction k generalizing v with
  | zero => rfl
  | succ k ih => simp [big, ih]
theorem zeros_len (n : Nat) : (zeros n).length = n := by simp [zeros]
theorem pad_len (m : List UInt8) : (pad m).length % 64 = 0 := by
  simp only [pad, List.length_append, zeros_len, big_len, List.length_cons, List.length_nil]
  omega
theorem bytes_len (s : S8) : s.bytes.length = 32 := by simp [S8.bytes, S8.list, big_len]
theorem sum_len (m : List UInt8) : (sum m).length = 32 := bytes_len _

theorem absorb_more (n k : Nat) (s : S8) (x y : List UInt8) (h : x.length = 64 * n) : absorb (n + k) s (x ++ y) = absorb k (absorb n s x) y := by
  induction n generalizing s x with
  | zero =>
    have : x = [] := List.eq_nil_of_length_eq_zero (by omega)
    subst this
    simp [absorb]
  | succ n ih =>
    rw [show n + 1 + k = (n + k) + 1 by omega]
    show absorb (n + k) (mixS s ((x ++ y).take 64)) ((x ++ y).drop 64) = absorb k (absorb n (mixS s (x.take 64)) (x.drop 64)) y
    rw [List.take_append_of_le_length (show 64 ≤ x.length by omega), List.drop_append_of_le_length (show 64 ≤ x.length by omega)]
    exact ih (mixS s (x.take 64)) (x.drop 64) (by rw [List.length_drop]; omega)
theorem absorb_take (n : Nat) (s : S8) (x y : List UInt8) (h : 64 * n ≤ x.length) : absorb n s (x ++ y) = absorb n s x := by
  induction n generalizing s x with
  | zero => rfl
  | succ n ih =>
    show absorb n (mixS s ((x ++ y).take 64)) ((x ++ y).drop 64) = absorb n (mixS s (x.take 64)) (x.drop 64)
    rw [List.take_append_of_le_length (show 64 ≤ x.length by omega), List.drop_append_of_le_length (show 64 ≤ x.length by omega)]
    exact ih (mixS s (x.take 64)) (x.drop 64) (by rw [List.length_drop]; omega)
end Sh
end Go.Proofs.YtmiejaohkgemnaaDoor

/-
  What a state that has taken in bytes holds: in plain Lean. No statement.
-/
namespace Go.Proofs.YtmiejaohkgemnaaDoor
namespace Sh

/-- m was taken in: the words, and the bytes of the last block -/
def Par (m : List UInt8) (s : S8) (blk : List UInt8) (f : Nat) : Prop :=
  s = absorb (m.length / 64) init m ∧ f = m.length % 64 ∧ blk.take f = m.drop (64 * (m.length / 64))

theorem par_nil (blk : List UInt8) : Par [] init blk 0 := ⟨rfl, rfl, by simp⟩
theorem Par.lt {m : List UInt8} {s : S8} {blk : List UInt8} {f : Nat} (h : Par m s blk f) : f < 64 := by rw [h.2.1]; omega

theorem absorb_front (n : Nat) (s : S8) (m : List UInt8) (h : 64 * n ≤ m.length) : absorb n s (m.take (64 * n)) = absorb n s m := by
  have e := absorb_take n s (m.take (64 * n)) (m.drop (64 * n)) (by rw [List.length_take]; omega)
  rw [List.take_append_drop] at e
  exact e.symm

theorem Par.part {m cs blk : List UInt8} {s : S8} {f : Nat} (h : Par m s blk f) (hb : blk.length = 64) (hl : f + cs.length < 64) :
    Par (m ++ cs) s (blk.take f ++ cs ++ blk.drop (f + cs.length)) (f + cs.length) := by
  obtain ⟨h1, h2, h3⟩ := h
  have e1 : (m ++ cs).length / 64 = m.length / 64 := by rw [List.length_append]; omega
  have e2 : f + cs.length = (m ++ cs).length % 64 := by rw [List.length_append]; omega
  refine ⟨?_, e2, ?_⟩
  · rw [e1, h1, absorb_take _ _ _ _ (by omega)]
  · have e3 : (blk.take f).length = f := by rw [List.length_take]; omega
    rw [e1, List.drop_append_of_le_length (by omega), List.take_append_of_le_length (by rw [List.length_append, e3]; omega), List.take_of_length_le (by rw [List.length_append, e3]; omega), h3]

theorem Par.full {m cs blk : List UInt8} {s : S8} {f : Nat} (h : Par m s blk f) (hb : blk.length = 64) (hl : f + cs.length = 64) :
    Par (m ++ cs) (mixS s (blk.take f ++ cs ++ blk.drop (f + cs.length))) (blk.take f ++ cs ++ blk.drop (f + cs.length)) 0 := by
  obtain ⟨h1, h2, h3⟩ := h
  have e1 : (m ++ cs).length / 64 = m.length / 64 + 1 := by rw [List.length_append]; omega
  have e2 : (m ++ cs).length = 64 * (m.length / 64 + 1) := by rw [List.length_append]; omega
  refine ⟨?_, by omega, ?_⟩
  · have ea : m ++ cs = m.take (64 * (m.length / 64)) ++ (m.drop (64 * (m.length / 64)) ++ cs) := by rw [← List.append_assoc, List.take_append_drop]
    have e4 : absorb (m.length / 64 + 1) init (m ++ cs) = absorb 1 (absorb (m.length / 64) init (m.take (64 * (m.length / 64)))) (m.drop (64 * (m.length / 64)) ++ cs) := by
      conv => lhs; rw [ea]
      exact absorb_more _ 1 _ _ _ (by rw [List.length_take]; omega)
    rw [e1, e4, absorb_front _ _ _ (by omega), ← h1, List.drop_eq_nil_of_le (show blk.length ≤ f + cs.length by omega), List.append_nil, h3]
    show _ = mixS s ((m.drop (64 * (m.length / 64)) ++ cs).take 64)
    rw [List.take_of_length_le (by rw [List.length_append, List.length_drop]; omega)]
  · rw [e1, List.take_zero, List.drop_eq_nil_of_le (by omega)]

theorem lay_len {blk cs : List UInt8} {f : Nat} (hb : blk.length = 64) (hl : f + cs.length ≤ 64) : (blk.take f ++ cs ++ blk.drop (f + cs.length)).length = 64 := by
  simp only [List.length_append, List.length_take, List.length_drop]; omega
end Sh
end Go.Proofs.YtmiejaohkgemnaaDoor

namespace Go.Proofs.YtmiejaohkgemnaaDoor
set_option linter.unusedVariables false
open Go.RowKit
open Sh

def wv (x : UInt32) : Value := .int .u32 (x.toNat : Int)
theorem u32_lt (x : UInt32) : x.toNat < 4294967296 := x.toNat_lt
theorem xor_wv (x y : UInt32) : bits .xor .u32 (x.toNat : Int) (y.toNat : Int) = ((x ^^^ y).toNat : Int) := by
  rw [u32_xor_nat _ _ (u32_lt x) (u32_lt y), UInt32.toNat_xor]
theorem and_wv (x y : UInt32) : bits .and .u32 (x.toNat : Int) (y.toNat : Int) = ((x &&& y).toNat : Int) := by
  rw [u32_and_nat _ _ (u32_lt x) (u32_lt y), UInt32.toNat_and]
theorem add_wv (x y : UInt32) : ((x.toNat : Int) + (y.toNat : Int)) % 4294967296 = ((x + y).toNat : Int) := by
  rw [UInt32.toNat_add]; omega
theorem rotr_wv (x : UInt32) (n : Nat) (h : 0 < n) (h2 : n < 32) : (rotr x n).toNat = (x.toNat / 2 ^ n ||| x.toNat * 2 ^ (32 - n) % 4294967296) := by
  unfold rotr
  have h1 : x.toNat / 2 ^ n < 2 ^ 32 := Nat.lt_of_le_of_lt (Nat.div_le_self _ _) (u32_lt x)
  have h3 : x.toNat * 2 ^ (32 - n) % 4294967296 < 2 ^ 32 := Nat.mod_lt _ (by decide)
  have h4 := Nat.or_lt_two_pow h1 h3
  rw [UInt32.toNat_ofNat']
  exact Nat.mod_eq_of_lt h4

theorem rot_wv (x : UInt32) (n : Nat) (h : 0 < n) (h2 : n < 32) : bits .or .u32 ((x.toNat : Int) / 2 ^ n) ((x.toNat : Int) * 2 ^ (32 - n) % 4294967296) = ((rotr x n).toNat : Int) := by
  rw [rotr_wv x n h h2]
  have e1 : ((x.toNat : Int) / 2 ^ n) = ((x.toNat / 2 ^ n : Nat) : Int) := by rw [Int.natCast_ediv]; simp
  have e2 : ((x.toNat : Int) * 2 ^ (32 - n) % 4294967296) = ((x.toNat * 2 ^ (32 - n) % 4294967296 : Nat) : Int) := by simp
  rw [e1, e2]
  exact u32_or_nat _ _ (Nat.lt_of_le_of_lt (Nat.div_le_self _ _) (u32_lt x)) (Nat.mod_lt _ (by decide))
theorem rot_wv' (x : UInt32) (n : Nat) (h : 0 < n) (h2 : n < 32) : bits .or .u32 ((x.toNat : Int) * 2 ^ (32 - n) % 4294967296) ((x.toNat : Int) / 2 ^ n) = ((rotr x n).toNat : Int) := by
  rw [rotr_wv x n h h2]
  have e1 : ((x.toNat : Int) / 2 ^ n) = ((x.toNat / 2 ^ n : Nat) : Int) := by rw [Int.natCast_ediv]; simp
  have e2 : ((x.toNat : Int) * 2 ^ (32 - n) % 4294967296) = ((x.toNat * 2 ^ (32 - n) % 4294967296 : Nat) : Int) := by simp
  rw [e1, e2, Nat.or_comm]
  exact u32_or_nat _ _ (Nat.mod_lt _ (by decide)) (Nat.lt_of_le_of_lt (Nat.div_le_self _ _) (u32_lt x))
theorem and31 (n : Nat) (h : 0 < n) (h2 : n < 32) : bits .and .u64 (IntKind.u64.wrap (-(n : Int))) 31 = ((32 - n : Nat) : Int) := by
  rw [IntKind.wrap_u64]
  have e : (-(n : Int) % 18446744073709551616) = ((18446744073709551616 - n : Nat) : Int) := by omega
  rw [e, show (31 : Int) = ((31 : Nat) : Int) from rfl, u64_and_nat _ _ (by omega) (by omega), nat_mask5]
  congr 1
  omega
set_option maxRecDepth 100000 in
theorem rotl_any (x : UInt32) (n : Nat) (w : World) (h : 0 < n) (h2 : n < 32) :
    Calls Tryd.prog 91 #[.int .u32 (x.toNat : Int), .int .i64 (-(n : Int))] w (Quiet (.int .u32 ((rotr x n).toNat : Int)) w) := by
  have hx := u32_lt x
  have h31 := and31 n h h2
  have hr := Lib.hid (rot_wv' x n h h2)
  have hk : ∃ k : Nat, k = 32 - n := ⟨_, rfl⟩
  obtain ⟨k, hk⟩ := hk
  rw [← hk] at h31
  have hn : 32 - k = n := by omega
  have hk1 : 0 < k := by omega
  have hk2 : k < 32 := by omega
  have HN := Lib.hid hn
  have HK := Lib.hid hk
  clear hn hk h h2
  go_enter Tryd.func91, Tryd.ntmps91
  go_wp2
  go_ret
  have e := hr.out
  rw [← HK.out] at e
  rw [← HN.out] at e ⊢
  exact ⟨ret_int e, 0, rfl⟩
theorem right_any (x : UInt32) (n : Nat) (w : World) (h : 0 < n) (h2 : n < 32) :
    Calls Tryd.prog 90 #[.int .u32 (x.toNat : Int), .int .i64 (n : Int)] w (Quiet (.int .u32 ((rotr x n).toNat : Int)) w) := by
  have hx := u32_lt x
  go_enter Tryd.func90, Tryd.ntmps90
  go_wp2_with fail
  refine (rotl_any x n w h h2).mono ?_
  rintro e w' ⟨rfl, m, rfl⟩
  go_wp2_with fail
  go_ret
  exact ⟨rfl, _, rfl⟩
theorem turn_any (x : UInt32) (n : Nat) (w : World) (h : 0 < n) (h2 : n < 32) :
    Calls Tryd.prog 80 #[.int .u32 (x.toNat : Int), .int .u64 (n : Int)] w (Quiet (.int .u32 ((rotr x n).toNat : Int)) w) := by
  have hx := u32_lt x
  go_enter Tryd.func80, Tryd.ntmps80
  go_wp2_with fail
  go_ret
  exact ⟨ret_int (rot_wv x n h h2), 0, rfl⟩

theorem shr_toNat (x : UInt32) (n : Nat) : (shr x n).toNat = x.toNat / 2 ^ n := by
  unfold shr
  rw [UInt32.toNat_ofNat']
  exact Nat.mod_eq_of_lt (Nat.lt_of_le_of_lt (Nat.div_le_self _ _) (u32_lt x))
theorem sg1_wv (x : UInt32) : bits .xor .u32 (bits .xor .u32 ((rotr x 17).toNat : Int) ((rotr x 19).toNat : Int)) ((x.toNat : Int) / 1024) = ((sg1 x).toNat : Int) := by
  have e : ((x.toNat : Int) / 1024) = ((shr x 10).toNat : Int) := by rw [shr_toNat]; simp
  rw [e, xor_wv, xor_wv]; rfl
theorem sg0_wv (x : UInt32) : bits .xor .u32 (bits .xor .u32 ((rotr x 7).toNat : Int) ((rotr x 18).toNat : Int)) ((x.toNat : Int) / 8) = ((sg0 x).toNat : Int) := by
  have e : ((x.toNat : Int) / 8) = ((shr x 3).toNat : Int) := by rw [shr_toNat]; simp
  rw [e, xor_wv, xor_wv]; rfl
theorem add4_wv (a b c d : UInt32) : ((a.toNat : Int) + (b.toNat : Int) + (c.toNat : Int) + (d.toNat : Int)) % 4294967296 = ((a + b + c + d).toNat : Int) := by
  rw [UInt32.toNat_add, UInt32.toNat_add, UInt32.toNat_add]
  omega
theorem add5_wv (a b c d e : UInt32) : ((a.toNat : Int) + (b.toNat : Int) + (c.toNat : Int) + (d.toNat : Int) + (e.toNat : Int)) % 4294967296 = ((a + b + c + d + e).toNat : Int) := by
  rw [UInt32.toNat_add, UInt32.toNat_add, UInt32.toNat_add, UInt32.toNat_add]
  omega

def word4 (x0 x1 x2 x3 : UInt8) : UInt32 := UInt32.ofNat (((x0.toNat * 16777216 ||| x1.toNat * 65536) ||| x2.toNat * 256) ||| x3.toNat)
theorem word_eq (b : List UInt8) (i : Nat) : word b i = word4 (b.getD (4 * i) 0) (b.getD (4 * i + 1) 0) (b.getD (4 * i + 2) 0) (b.getD (4 * i + 3) 0) := rfl
theorem u8_lt (x : UInt8) : x.toNat < 256 := x.toNat_lt
theorem or3_lt (x0 x1 x2 : UInt8) : (x0.toNat * 16777216 ||| x1.toNat * 65536) ||| x2.toNat * 256 < 4294967296 := by
  have h0 := u8_lt x0
  have h1 := u8_lt x1
  have h2 := u8_lt x2
  exact Nat.or_lt_two_pow (n := 32) (Nat.or_lt_two_pow (n := 32) (by omega) (by omega)) (by omega)
theorem or4_lt (x0 x1 x2 x3 : UInt8) : ((x0.toNat * 16777216 ||| x1.toNat * 65536) ||| x2.toNat * 256) ||| x3.toNat < 4294967296 := by
  have h3 := u8_lt x3
  exact Nat.or_lt_two_pow (n := 32) (or3_lt x0 x1 x2) (by omega)
theorem word_wv (x0 x1 x2 x3 : UInt8) :
    bits .or .u32 (bits .or .u32 (bits .or .u32 ((x0.toNat : Int) % 4294967296 * 16777216 % 4294967296) ((x1.toNat : Int) % 4294967296 * 65536 % 4294967296)) ((x2.toNat : Int) % 4294967296 * 256 % 4294967296)) ((x3.toNat : Int) % 4294967296)
      = ((word4 x0 x1 x2 x3).toNat : Int) := by
  have h0 := u8_lt x0
  have h1 := u8_lt x1
  have h2 := u8_lt x2
  have h3 := u8_lt x3
  have e0 : ((x0.toNat : Int) % 4294967296 * 16777216 % 4294967296) = ((x0.toNat * 16777216 : Nat) : Int) := by omega
  have e1 : ((x1.toNat : Int) % 4294967296 * 65536 % 4294967296) = ((x1.toNat * 65536 : Nat) : Int) := by omega
  have e2 : ((x2.toNat : Int) % 4294967296 * 256 % 4294967296) = ((x2.toNat * 256 : Nat) : Int) := by omega
  have e3 : ((x3.toNat : Int) % 4294967296) = ((x3.toNat : Nat) : Int) := by omega
  rw [e0, e1, e2, e3, u32_or_nat _ _ (by omega) (by omega), u32_or_nat _ _ (Nat.or_lt_two_pow (n := 32) (by omega) (by omega)) (by omega), u32_or_nat _ _ (or3_lt x0 x1 x2) (by omega)]
  congr 1
  unfold word4
  rw [UInt32.toNat_ofNat']
  exact (Nat.mod_eq_of_lt (or4_lt x0 x1 x2 x3)).symm
end Go.Proofs.YtmiejaohkgemnaaDoor
