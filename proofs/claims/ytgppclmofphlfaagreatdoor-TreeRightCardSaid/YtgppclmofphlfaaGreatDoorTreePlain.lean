/-
  Trees of nodes as plain lists: the document's answers. Plain words; no statement.
-/
import Derived.Test.YtgppclmofphlfaaGreatDoorPathLem
namespace Go.Proofs.YtgppclmofphlfaaGreatDoor
set_option maxRecDepth 100000
set_option linter.unusedVariables false

/-- a node -/
structure Lf where
  path : List UInt8
  data : List UInt8
  ver : Int
  own : Int
  next : Int
  born : Int
deriving DecidableEq
def lfRoot : Lf := ⟨[47], [], 0, -1, 0, 0⟩
/-- where a path's node stands -/
def tAt (p : List UInt8) : List Lf → Option Nat
  | [] => none
  | x :: r => if x.path = p then some 0 else (tAt p r).map (· + 1)
/-- the list with this node in its place; put: it stands already -/
def tGo (l : Lf) : Bool → List Lf → List Lf
  | put, [] => if put then [] else [l]
  | put, x :: r => if x.path = l.path then tGo l put r else if put = false ∧ Op.bytesLess l.path x.path = true then l :: x :: tGo l true r else x :: tGo l put r
def tWith (l : Lf) (t : List Lf) : List Lf := tGo l false t
/-- a node's children -/
def tKids (p : List UInt8) (t : List Lf) : List (List UInt8) := (t.filter fun x => decide (parentP x.path = some p)).map (·.path)
def tOwned (os : List Int) (t : List Lf) : List (List UInt8) := (t.reverse.filter fun x => decide (x.own ∈ os)).map (·.path)
/-- what Make makes: a path, or an error's number -/
def tMake (p data : List UInt8) (own born : Int) (numbered : Bool) (t : List Lf) : List Lf × List UInt8 × Int :=
  match parentP p with
  | none => (t, [], 90)
  | some up =>
    if data.length > 128 then (t, [], 104) else
    match tAt up t with
    | none => (t, [], 100)
    | some k =>
      let a := t.getD k lfRoot
      if a.own ≠ -1 then (t, [], 105) else
      match (if numbered then numberedP p a.next else some p) with
      | none => (t, [], 90)
      | some q =>
        if (tAt q t).isSome then (t, [], 101) else
        if t.length ≥ 32 then (t, [], 104) else
        (tWith ⟨q, data, 0, max own (-1), 0, max born 0⟩ (tWith (if numbered then { a with next := a.next + 1 } else a) t), q, 0)
def tDrop (p : List UInt8) (v : Int) (t : List Lf) : List Lf × Int :=
  match parentP p with
  | none => (t, 90)
  | some up => match tAt p t with
    | none => (t, 100)
    | some k => if 0 ≤ v ∧ (t.getD k lfRoot).ver ≠ v then (t, 102) else if tKids p t ≠ [] then (t, 103) else (t.take k ++ t.drop (k + 1), 0)
def tSet (p data : List UInt8) (v : Int) (t : List Lf) : List Lf × Int × Int :=
  if partsOf p = none then (t, 0, 90) else
  match tAt p t with
  | none => (t, 0, 100)
  | some k =>
    let a := t.getD k lfRoot
    if 0 ≤ v ∧ a.ver ≠ v then (t, 0, 102) else if data.length > 128 then (t, 0, 104) else
    (tWith { a with data := data, ver := IntKind.i64.wrap (a.ver + 1) } t, IntKind.i64.wrap (a.ver + 1), 0)
def tGet (p : List UInt8) (t : List Lf) : Option Lf × Int :=
  if partsOf p = none then (none, 90) else match tAt p t with
    | none => (none, 100)
    | some k => (some (t.getD k lfRoot), 0)
/-- is the node at place k such as Load takes? -/
def tRight (t : List Lf) (k : Nat) : Bool :=
  let l := t.getD k lfRoot
  decide (-1 ≤ l.own ∧ 0 ≤ l.ver ∧ 0 ≤ l.next ∧ 0 ≤ l.born ∧ l.data.length ≤ 128) && (k == 0 ||
    (Op.bytesLess (t.getD (k - 1) lfRoot).path l.path && match parentP l.path with
      | none => false
      | some up => match tAt up t with
        | none => false
        | some j => decide ((t.getD j lfRoot).own = -1)))
def tLoads (t : List Lf) : Bool :=
  decide (1 ≤ t.length ∧ t.length ≤ 32) && decide ((t.getD 0 lfRoot).path = [47] ∧ (t.getD 0 lfRoot).own = -1 ∧ (t.getD 0 lfRoot).born = 0) && (List.range t.length).all (tRight t)
end Go.Proofs.YtgppclmofphlfaaGreatDoor
