/-
  SHA-256 in plain Lean: on lists of bytes. No statement.
-/
import Derived.Test.YtfdmnnbcnaofgaaDoorChecked
namespace Go.Proofs.YtfdmnnbcnaofgaaDoor
namespace Sh

def rotr (x : UInt32) (n : Nat) : UInt32 := UInt32.ofNat (x.toNat / 2 ^ n ||| x.toNat * 2 ^ (32 - n) % 4294967296)
def shr (x : UInt32) (n : Nat) : UInt32 := UInt32.ofNat (x.toNat / 2 ^ n)
def sg0 (y : UInt32) : UInt32 := rotr y 7 ^^^ rotr y 18 ^^^ shr y 3
def sg1 (x : UInt32) : UInt32 := rotr x 17 ^^^ rotr x 19 ^^^ shr x 10
def S0 (a : UInt32) : UInt32 := rotr a 2 ^^^ rotr a 13 ^^^ rotr a 22
def S1 (e : UInt32) : UInt32 := rotr e 6 ^^^ rotr e 11 ^^^ rotr e 25
def ch (e f g : UInt32) : UInt32 := (e &&& f) ^^^ ((e ^^^ 4294967295) &&& g)
def mj (a b c : UInt32) : UInt32 := (a &&& b) ^^^ (a &&& c) ^^^ (b &&& c)

structure S8 where
  a : UInt32
  b : UInt32
  c : UInt32
  d : UInt32
  e : UInt32
  f : UInt32
  g : UInt32
  h : UInt32

def S8.list (s : S8) : List UInt32 := [s.a, s.b, s.c, s.d, s.e, s.f, s.g, s.h]
def t1 (k w : UInt32) (s : S8) : UInt32 := s.h + S1 s.e + ch s.e s.f s.g + k + w
def t2 (s : S8) : UInt32 := S0 s.a + mj s.a s.b s.c
def rnd (k w : UInt32) (s : S8) : S8 := ⟨t1 k w s + t2 s, s.a, s.b, s.c, s.d + t1 k w s, s.e, s.f, s.g⟩

def K : List UInt32 := [1116352408, 1899447441, 3049323471, 3921009573, 961987163, 1508970993, 2453635748, 2870763221, 3624381080, 310598401, 607225278, 1426881987, 1925078388, 2162078206, 2614888103, 3248222580, 3835390401, 4022224774, 264347078, 604807628, 770255983, 1249150122, 1555081692, 1996064986, 2554220882, 2821834349, 2952996808, 3210313671, 3336571891, 3584528711, 113926993, 338241895, 666307205, 773529912, 1294757372, 1396182291, 1695183700, 1986661051, 2177026350, 2456956037, 2730485921, 2820302411, 3259730800, 3345764771, 3516065817, 3600352804, 4094571909, 275423344, 430227734, 506948616, 659060556, 883997877, 958139571, 1322822218, 1537002063, 1747873779, 1955562222, 2024104815, 2227730452, 2361852424, 2428436474, 2756734187, 3204031479, 3329325298]

def rounds (W : List UInt32) : Nat → S8 → S8
  | 0, s => s
  | i + 1, s => rnd (K.getD i 0) (W.getD i 0) (rounds W i s)

/-- word i of the bytes b -/
def word (b : List UInt8) (i : Nat) : UInt32 :=
  UInt32.ofNat (((b.getD (4 * i) 0).toNat * 16777216 ||| (b.getD (4 * i + 1) 0).toNat * 65536) ||| (b.getD (4 * i + 2) 0).toNat * 256 ||| (b.getD (4 * i + 3) 0).toNat)
def next (b : List UInt8) (l : List UInt32) (n : Nat) : UInt32 :=
  if n < 16 then word b n else sg1 (l.getD (n - 2) 0) + l.getD (n - 7) 0 + sg0 (l.getD (n - 15) 0) + l.getD (n - 16) 0
/-- the first n words -/
def spread (b : List UInt8) : Nat → List UInt32
  | 0 => []
  | n + 1 => spread b n ++ [next b (spread b n) n]
theorem spread_len (b : List UInt8) (n : Nat) : (spread b n).length = n := by induction n with | zero => rfl | succ n ih => simp [spread, ih]

def plus (s r : S8) : S8 := ⟨s.a + r.a, s.b + r.b, s.c + r.c, s.d + r.d, s.e + r.e, s.f + r.f, s.g + r.g, s.h + r.h⟩
def mixS (s : S8) (b : List UInt8) : S8 := plus s (rounds (spread b 64) 64 s)
def init : S8 := ⟨1779033703, 3144134277, 1013904242, 2773480762, 1359893119, 2600822924, 528734635, 1541459225⟩

/-- n blocks of 64 bytes are taken in -/
def absorb : Nat → S8 → List UInt8 → S8
  | 0, s, _ => s
  | n + 1, s, m => absorb n (mixS s (m.take 64)) (m.drop 64)

/-- the lowest k bytes of v, the highest of these first -/
def big : Nat → Nat → List UInt8
  | 0, _ => []
  | k + 1, v => big k (v / 256) ++ [UInt8.ofNat v]
def zeros (n : Nat) : List UInt8 := List.replicate n 0
def pad (m : List UInt8) : List UInt8 := m ++ [128] ++ zeros ((119 - m.length % 64) % 64) ++ big 8 (m.length * 8)
def S8.bytes (s : S8) : List UInt8 := s.list.flatMap fun x => big 4 x.toNat
def sum (m : List UInt8) : List UInt8 := (absorb ((pad m).length / 64) init (pad m)).bytes

theorem big_len (k v : Nat) : (big k v).length = k := by
  induction k generalizing v with
  | zero => rfl
  | succ k ih => simp [big, ih]
theorem zeros_len (n : Nat) : (zeros n).length = n := by simp [zeros]
theorem pad_len (m : List UInt8) : (pad m).length % 64 = 0 := by
  simp only [pad, List.length_append, zeros_len, big_len, List.length_cons, List.length_nil]
  omega
theorem bytes_len (s : S8) : s.bytes.length = 32 := by simp [S8.bytes, S8.list, big_len]
theorem sum_len (m : List UInt8) : (sum m).length = 32 := bytes_len _

theorem absorb_more (n k : Nat) (s : S8) (x y : List UInt8) (h : x.length = 64 * n) : absorb (n + k) s (x ++ y) = absorb k (absorb n s x) y := by
  induction n generalizing s x with
  | zero =>
    have : x = [] := List.eq_nil_of_length_eq_zero (by omega)
    subst this
    simp [absorb]
  | succ n ih =>
    rw [show n + 1 + k = (n + k) + 1 by omega]
    show absorb (n + k) (mixS s ((x ++ y).take 64)) ((x ++ y).drop 64) = absorb k (absorb n (mixS s (x.take 64)) (x.drop 64)) y
    rw [List.take_append_of_le_length (show 64 ≤ x.length by omega), List.drop_append_of_le_length (show 64 ≤ x.length by omega)]
    exact ih (mixS s (x.take 64)) (x.drop 64) (by rw [List.length_drop]; omega)
theorem absorb_take (n : Nat) (s : S8) (x y : List UInt8) (h : 64 * n ≤ x.length) : absorb n s (x ++ y) = absorb n s x := by
  induction n generalizing s x with
  | zero => rfl
  | succ n ih =>
    show absorb n (mixS s ((x ++ y).take 64)) ((x ++ y).drop 64) = absorb n (mixS s (x.take 64)) (x.drop 64)
    rw [List.take_append_of_le_length (show 64 ≤ x.length by omega), List.drop_append_of_le_length (show 64 ≤ x.length by omega)]
    exact ih (mixS s (x.take 64)) (x.drop 64) (by rw [List.length_drop]; omega)
end Sh
end Go.Proofs.YtfdmnnbcnaofgaaDoor
