/-
  The reference's Make. Walks; no statement.
-/
import Derived.Test.YtgppclmofphlfaaGreatDoorTreeRef5
import Derived.Test.YtgppclmofphlfaaGreatDoorTreeRef6
namespace Go.Proofs.YtgppclmofphlfaaGreatDoor
set_option maxRecDepth 100000
open Go.RowKit
set_option linter.unusedVariables false
theorem refMake_any (p : ByteArray) (DA : Option Addr) (DC : Nat) (data : List UInt8) (own born : Int) (num : Bool) (A : Option Addr) (c : Nat) (t : List Lf) (F G : Nat → Prop) (w : World)
    (hp : p.size ≤ maxLen) (h : RdS RLf F w A c t) (hd : BF G w DA DC data) (hn : t.length ≤ 1000) (hsz : ∀ l ∈ t, l.path.length ≤ maxLen) :
    Calls Tryz.prog 16 #[.agg #[.slice A t.length c], .string p, .slice DA data.length DC, .int .i64 own, .int .i64 born, .bool num] w (FreshM F (tMake p.data.toList data own born num t) w) := by
  cases num with
  | false => exact refMake_0 p DA DC data own born A c t F G w hp h hd hn hsz
  | true => exact refMake_1 p DA DC data own born A c t F G w hp h hd hn hsz
end Go.Proofs.YtgppclmofphlfaaGreatDoor
