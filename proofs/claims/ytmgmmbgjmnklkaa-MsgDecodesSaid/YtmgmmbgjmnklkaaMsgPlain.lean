/-
  Messages, letters and entries as plain values: what is right, and its bytes. Plain words; no statement.
-/
import Derived.Test.YtmgmmbgjmnklkaaSplitPlain
import Derived.Test.YtmgmmbgjmnklkaaMInts
namespace Go.Proofs.Ytmgmmbgjmnklkaa
set_option maxRecDepth 100000
open Pk
set_option linter.unusedVariables false

/-- a letter -/
structure Lt where
  f1 : Int
  f2 : Int
  r : Int
  body : List UInt8
  tags : List (List UInt8)
deriving DecidableEq, Inhabited
/-- an entry -/
structure En where
  c : Int
  s : Int
  t : Int
  dig : List UInt8
deriving DecidableEq, Inhabited
/-- something proven -/
structure Pv where
  seq : Int
  view : Int
  e : En
  votes : List Lt
deriving DecidableEq, Inhabited
/-- a message -/
structure Mg where
  kind : Int
  view : Int
  seq : Int
  client : Int
  stamp : Int
  e : En
  dig : List UInt8
  data : List UInt8
  proof : List Lt
  proven : List Pv
deriving DecidableEq, Inhabited
def En.zero : En := ⟨0, 0, 0, []⟩
def Mg.zero : Mg := ⟨0, 0, 0, 0, 0, .zero, [], [], [], []⟩

def wideB (v : Int) : Bool := decide (0 ≤ v ∧ v < 1099511627776)
def peerB (v : Int) : Bool := decide (0 ≤ v ∧ v < 8)
def roleB (v : Int) : Bool := decide (1 ≤ v ∧ v ≤ 4)
def En.ok (e : En) : Bool := wideB e.t && (if e.c = -1 then decide (e.s = 0) && decide (e.dig.length = 0) else peerB e.c && (wideB e.s && decide (e.dig.length = 32)))
def tagsOk (ts : List (List UInt8)) : Bool := decide (ts.length ≤ 64) && ts.all fun t => decide (t.length ≤ 16)
def Lt.ok (l : Lt) : Bool := roleB l.f1 && (roleB l.r && (decide (0 ≤ l.f2 ∧ l.f2 < 64) && (decide (l.body.length ≤ 65536) && tagsOk l.tags)))
def ltsOk (ls : List Lt) : Bool := decide (ls.length ≤ 64) && ls.all Lt.ok
def Pv.ok (p : Pv) : Bool := wideB p.seq && (wideB p.view && (p.e.ok && ltsOk p.votes))
def pvsOk (ps : List Pv) : Bool := decide (ps.length ≤ 8) && ps.all Pv.ok

/-- which parts a kind has: 0 View, 1 Seq, 2 Client, 3 Stamp, 4 Entry, 5 Digest, 6 Data, 7 Proof, 8 Proven -/
def partsN (k : Int) : List Nat :=
  if k = 1 then [2, 3, 6] else if k = 2 then [2, 3, 5] else if k = 3 then [0, 1, 4] else if k = 4 then [0, 1, 4] else if k = 5 then [0, 1, 4] else if k = 6 then [1, 4] else if k = 7 then [5]
  else if k = 8 then [2, 3, 6] else if k = 9 then [1, 2, 3, 6] else if k = 10 then [1, 5] else if k = 11 then [0, 1, 7, 8] else if k = 12 then [0, 7] else if k = 13 then [1] else if k = 14 then [1, 6] else []
/-- is there such a kind? -/
def kindB (k : Int) : Bool := decide (1 ≤ k ∧ k ≤ 14)
/-- each kind by itself -/
theorem kind_cases {k : Int} (h : kindB k = true) : k = 1 ∨ k = 2 ∨ k = 3 ∨ k = 4 ∨ k = 5 ∨ k = 6 ∨ k = 7 ∨ k = 8 ∨ k = 9 ∨ k = 10 ∨ k = 11 ∨ k = 12 ∨ k = 13 ∨ k = 14 := by
  unfold kindB at h
  simp at h
  omega
theorem parts_kind (k : Int) : (partsN k = []) ↔ kindB k = false := by
  by_cases h : kindB k = true
  · rcases kind_cases h with rfl | rfl | rfl | rfl | rfl | rfl | rfl | rfl | rfl | rfl | rfl | rfl | rfl | rfl <;> simp [partsN, kindB]
  · have hn : kindB k = false := by simpa using h
    have h2 : ¬ (1 ≤ k ∧ k ≤ 14) := by unfold kindB at hn; simpa using hn
    refine ⟨fun _ => hn, fun _ => ?_⟩
    unfold partsN
    iterate 14 rw [if_neg (by omega)]
def maxDataN (k : Int) : Nat := if k = 1 ∨ k = 8 then 1024 else 65536
/-- is a part, that the kind has, right? -/
def Mg.partOk (m : Mg) (p : Nat) : Bool :=
  match p with
  | 0 => wideB m.view
  | 1 => wideB m.seq
  | 2 => peerB m.client
  | 3 => wideB m.stamp
  | 4 => m.e.ok
  | 5 => decide (m.dig.length = 32)
  | 6 => decide (m.data.length ≤ maxDataN m.kind)
  | 7 => ltsOk m.proof
  | _ => pvsOk m.proven
/-- is a part, that the kind doesn't have, zero? -/
def Mg.partNo (m : Mg) (p : Nat) : Bool :=
  match p with
  | 0 => decide (m.view = 0)
  | 1 => decide (m.seq = 0)
  | 2 => decide (m.client = 0)
  | 3 => decide (m.stamp = 0)
  | 4 => decide (m.e.c = 0 ∧ m.e.s = 0 ∧ m.e.t = 0 ∧ m.e.dig.length = 0)
  | 5 => decide (m.dig.length = 0)
  | 6 => decide (m.data.length = 0)
  | 7 => decide (m.proof.length = 0)
  | _ => decide (m.proven.length = 0)
def restOk (m : Mg) (ps : List Nat) : Bool := (List.range 9).all fun p => ps.contains p || m.partNo p
/-- is it a right message? -/
def Mg.ok (m : Mg) : Bool := (partsN m.kind).all m.partOk && restOk m (partsN m.kind)

/-- a list of fields as bytes, where that can be -/
def joinX (ls : List (List UInt8)) : Option (List UInt8) := if joinBad ls then none else some (joinN ls)
/-- each of a list, where that can be -/
def allX {α β : Type} (f : α → Option β) : List α → Option (List β)
  | [] => some []
  | x :: r => match f x with
    | none => none
    | some y => match allX f r with
      | none => none
      | some ys => some (y :: ys)
def En.pack (e : En) : List UInt8 := joinN [numsN [e.c + 1, e.s, e.t], e.dig]
def Lt.pack (l : Lt) : Option (List UInt8) := match joinX l.tags with
  | none => none
  | some t => joinX [numsN [l.f1, l.f2, l.r], l.body, t]
def packList {α : Type} (f : α → Option (List UInt8)) (ls : List α) : Option (List UInt8) := match allX f ls with
  | none => none
  | some rows => joinX rows
def ltsPack (ls : List Lt) : Option (List UInt8) := packList Lt.pack ls
def Pv.pack (p : Pv) : Option (List UInt8) := match ltsPack p.votes with
  | none => none
  | some v => joinX [numsN [p.seq, p.view], p.e.pack, v]
def pvsPack (ps : List Pv) : Option (List UInt8) := packList Pv.pack ps
def encI (v : Int) : List UInt8 := encN v.toNat
def Mg.partPack (m : Mg) (p : Nat) : Option (List UInt8) :=
  match p with
  | 0 => some (encI m.view)
  | 1 => some (encI m.seq)
  | 2 => some (encI m.client)
  | 3 => some (encI m.stamp)
  | 4 => some m.e.pack
  | 5 => some m.dig
  | 6 => some m.data
  | 7 => ltsPack m.proof
  | _ => pvsPack m.proven
def Mg.pack (m : Mg) : Option (List UInt8) := match allX m.partPack (partsN m.kind) with
  | none => none
  | some rows => joinX (encI m.kind :: rows)
/-- Encode's answer: the error, the bytes -/
def Mg.encode (m : Mg) : Nat × List UInt8 :=
  if kindB m.kind = false then (80, []) else if m.ok = false then (81, []) else match m.pack with
    | none => (13, [])
    | some b => (0, b)

/-- so many numbers -/
def rdNums (k : Nat) (b : List UInt8) : Option (List Int) := if (intsN b).1 = 0 ∧ (intsN b).2.length = k then some (intsN b).2 else none
/-- so many fields -/
def rdFlds (k : Nat) (b : List UInt8) : Option (List (List UInt8)) := if (splitN b).1 = 0 ∧ (splitN b).2.length = k then some (splitN b).2 else none
def rdNum (b : List UInt8) : Option Int := match rdNums 1 b with
  | some [v] => some v
  | _ => none
def rdEn (b : List UInt8) : Option En := match rdFlds 2 b with
  | some [f0, f1] => (match rdNums 3 f0 with
    | some [x, y, z] => some ⟨x - 1, y, z, f1⟩
    | _ => none)
  | _ => none
def rdSplit (b : List UInt8) : Option (List (List UInt8)) := if (splitN b).1 = 0 then some (splitN b).2 else none
def rdLt (b : List UInt8) : Option Lt := match rdFlds 3 b with
  | some [f0, f1, f2] => (match rdNums 3 f0 with
    | some [x, y, z] => (match rdSplit f2 with
      | some ts => some ⟨x, y, z, f1, ts⟩
      | none => none)
    | _ => none)
  | _ => none
def rdList {α : Type} (f : List UInt8 → Option α) (b : List UInt8) : Option (List α) := match rdSplit b with
  | none => none
  | some fs => allX f fs
def rdLts (b : List UInt8) : Option (List Lt) := rdList rdLt b
def rdPv (b : List UInt8) : Option Pv := match rdFlds 3 b with
  | some [f0, f1, f2] => (match rdNums 2 f0 with
    | some [x, y] => (match rdEn f1 with
      | some e => (match rdLts f2 with
        | some v => some ⟨x, y, e, v⟩
        | none => none)
      | none => none)
    | _ => none)
  | _ => none
def rdPvs (b : List UInt8) : Option (List Pv) := rdList rdPv b
/-- the message has the part that bytes are -/
def Mg.put (m : Mg) (p : Nat) (b : List UInt8) : Option Mg :=
  match p with
  | 0 => (rdNum b).map fun v => { m with view := v }
  | 1 => (rdNum b).map fun v => { m with seq := v }
  | 2 => (rdNum b).map fun v => { m with client := v }
  | 3 => (rdNum b).map fun v => { m with stamp := v }
  | 4 => (rdEn b).map fun v => { m with e := v }
  | 5 => some { m with dig := b }
  | 6 => some { m with data := b }
  | 7 => (rdLts b).map fun v => { m with proof := v }
  | _ => (rdPvs b).map fun v => { m with proven := v }
def Mg.puts (m : Mg) : List Nat → List (List UInt8) → Option Mg
  | [], [] => some m
  | p :: ps, f :: fs => match m.put p f with
    | none => none
    | some m' => m'.puts ps fs
  | _, _ => none
def rdMg (b : List UInt8) : Option Mg := match rdSplit b with
  | some (f0 :: fs) => (match rdNum f0 with
    | some k => if kindB k then ({ Mg.zero with kind := k } : Mg).puts (partsN k) fs else none
    | none => none)
  | _ => none
/-- what is read, if it is right -/
def okX {α : Type} (ok : α → Bool) (r : Option α) : Option α := match r with
  | some x => if ok x then some x else none
  | none => none
def decMg (b : List UInt8) : Option Mg := okX Mg.ok (rdMg b)
def decLt (b : List UInt8) : Option Lt := okX Lt.ok (rdLt b)
def decEn (b : List UInt8) : Option En := okX En.ok (rdEn b)
end Go.Proofs.Ytmgmmbgjmnklkaa
