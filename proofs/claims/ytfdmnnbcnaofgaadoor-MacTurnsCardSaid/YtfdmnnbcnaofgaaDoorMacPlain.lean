/-
  HMAC-SHA256 in plain Lean, on lists of bytes. No statement.
-/
import Derived.Test.YtfdmnnbcnaofgaaDoorShaPlain
namespace Go.Proofs.YtfdmnnbcnaofgaaDoor
namespace Sh

/-- a key of at most a block -/
def hkey (key : List UInt8) : List UInt8 := if 64 < key.length then sum key else key
/-- the first n bytes of the key and zeros behind it, each laid over with c -/
def over (c : UInt8) (key : List UInt8) : Nat → List UInt8
  | 0 => []
  | n + 1 => over c key n ++ [key.getD n 0 ^^^ c]
def hmac (key b : List UInt8) : List UInt8 := sum (over 92 (hkey key) 64 ++ sum (over 54 (hkey key) 64 ++ b))
theorem over_len (c : UInt8) (key : List UInt8) (n : Nat) : (over c key n).length = n := by induction n with | zero => rfl | succ n ih => simp [over, ih]
theorem hkey_len (key : List UInt8) : (hkey key).length ≤ 64 := by
  unfold hkey
  split
  · rw [sum_len]; decide
  · omega
theorem hmac_len (key b : List UInt8) : (hmac key b).length = 32 := sum_len _
theorem over_congr (c : UInt8) (k k' : List UInt8) (h : ∀ i, i < 64 → k.getD i 0 = k'.getD i 0) (n : Nat) (hn : n ≤ 64) : over c k n = over c k' n := by
  induction n with
  | zero => rfl
  | succ n ih => rw [over, over, ih (by omega), h n (by omega)]
end Sh
end Go.Proofs.YtfdmnnbcnaofgaaDoor
