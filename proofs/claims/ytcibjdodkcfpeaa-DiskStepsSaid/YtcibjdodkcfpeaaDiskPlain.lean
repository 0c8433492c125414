/-
  A disk as plain values: what each call makes of it. Plain definitions; no statement.
-/
import Derived.Test.YtcibjdodkcfpeaaOpenCalls
namespace Go.Proofs.Ytcibjdodkcfpeaa
set_option linter.unusedVariables false

/-- a disk: its power, each area's bytes, how many of them are safe -/
structure PD where
  power : Int
  d0 : List UInt8
  d1 : List UInt8
  s0 : Int
  s1 : Int
def known (a : Int) : Bool := decide (a = 0) || decide (a = 1)
/-- the power behind a call that does something -/
def drawn (p : Int) : Int := if 0 < p then p - 1 else p
namespace PD
def data (P : PD) (a : Int) : List UInt8 := if a = 0 then P.d0 else P.d1
def safe (P : PD) (a : Int) : Int := if a = 0 then P.s0 else P.s1
def setData (P : PD) (a : Int) (l : List UInt8) : PD := if a = 0 then { P with d0 := l } else { P with d1 := l }
def setSafe (P : PD) (a : Int) (n : Int) : PD := if a = 0 then { P with s0 := n } else { P with s1 := n }
def drew (P : PD) : PD := { P with power := drawn P.power }
def append (P : PD) (a : Int) (parts : List (List UInt8)) : PD × Int :=
  if known a then (if P.power = 0 then (P, 40) else (P.drew.setData a (P.data a ++ parts.flatten), 0)) else (P, 41)
def trim (P : PD) (a n : Int) : PD × Int :=
  if known a && decide (0 ≤ n) && decide (n ≤ ((P.data a).length : Int)) then
    (if P.power = 0 then (P, 40) else ((P.drew.setData a ((P.data a).take n.toNat)).setSafe a (if n < P.safe a then n else P.safe a), 0)) else (P, 41)
def mark (P : PD) (a : Int) : PD := P.setSafe a ((P.data a).length : Int)
def sync (P : PD) (areas : List Int) : PD × Int :=
  if areas.all known then (if P.power = 0 then (P, 40) else ((if areas.isEmpty then [0, 1] else areas).foldl mark P.drew, 0)) else (P, 41)
def read (P : PD) (a : Int) : List UInt8 × Int := if known a then (P.data a, 0) else ([], 41)
/-- how many bytes an area keeps -/
def left (l : List UInt8) (s k : Int) : Nat := (s + (if (l.length : Int) - s < (if 0 < k then k else 0) then (l.length : Int) - s else (if 0 < k then k else 0))).toNat
def crash (P : PD) (keeps : List Int) (power : Int) : PD :=
  let l0 := P.d0.take (left P.d0 P.s0 (keeps.getD 0 0))
  let l1 := P.d1.take (left P.d1 P.s1 (keeps.getD 1 0))
  ⟨power, l0, l1, l0.length, l1.length⟩
/-- the marks lie within the bytes -/
def Fine (P : PD) : Prop := 0 ≤ P.s0 ∧ P.s0 ≤ P.d0.length ∧ 0 ≤ P.s1 ∧ P.s1 ≤ P.d1.length
theorem data_le {P : PD} {N : Nat} (h0 : P.d0.length ≤ N) (h1 : P.d1.length ≤ N) (a : Int) : (P.data a).length ≤ N := by
  unfold data
  split <;> assumption
theorem Fine.safe {P : PD} (h : P.Fine) (a : Int) : 0 ≤ P.safe a ∧ P.safe a ≤ (P.data a).length := by
  unfold PD.safe data
  obtain ⟨h1, h2, h3, h4⟩ := h
  split
  · exact ⟨h1, h2⟩
  · exact ⟨h3, h4⟩
end PD
end Go.Proofs.Ytcibjdodkcfpeaa
