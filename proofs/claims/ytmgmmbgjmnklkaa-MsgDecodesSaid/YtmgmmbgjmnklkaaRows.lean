/-
  No cell of these rows narrows 'for every input' (looked for: loops, veiled, ifaces, maps, wideKeys, modest, calm, conditions, laid).
  DERIVED. THE GIVEN ROWS OF THIS SEAT. 7 by the template 'for every input the law returns true; each argument reads behind the call as it read before'; 0 by the template 'total and deterministic' (their statements: YtmgmmbgjmnklkaaTotals.lean).
  GIVEN WITH THE SEED: the statements are not yours to turn. If you find one false, say at which input.
  Laid BY PROGRAM, IN A SANDBOX (cutbox-rows.mjs): the forced cells as the released guide's own fill.sh prints them over the translation 53009a729cec513a… (all of the seat's roots in one cut). By AI agents, Wed Nov 11 2026. No macro, syntax, notation, axiom, sorry.
-/
import Derived.Test.YtmgmmbgjmnklkaaChecked
import GoSem.Claim
import GoSem.ClaimJoined
import GoSem.ClaimMapViews
import Derived.JoinedTies
import Derived.KernelRfl
namespace Go.Proofs.Ytmgmmbgjmnklkaa
/- THE CELL 'sum', in the pinned program and in every row, IS THE sha256 OF THE DUMP (.gsa) THAT YtmgmmbgjmnklkaaProg.lean LOADS. Nothing in Lean hashes anything: it is a label: what it is worth is what the hold of that sum in a sandbox is worth. -/
noncomputable def Try.pinned : Pinned := { name := "ytmgmmbgjmnklkaa", sum := "53009a729cec513abb4df04266a9e7493dc2b1f7ed558d30e667f833e66f80b4", checked := Try.checked }
namespace Rows
def none {H : Type} : Left H := { results := [], args := [] }

/-- 'stanchionlaw08.MsgEncodes': WHATEVER THE INPUT: true; the input reads as it did. -/
def msgEncodesSpec : ChangeSpec := { name := "msgEncodes", fn := fun _ => fun
  | [d] => { results := [.lit (.bool true)], args := [d] }
  | _ => none }
def msgEncodesRow : OpenClaim := { program := "ytmgmmbgjmnklkaa", sum := "53009a729cec513abb4df04266a9e7493dc2b1f7ed558d30e667f833e66f80b4", func := "stanchion/stanchionlaw08.MsgEncodes", spec := "msgEncodes", unfollowed := true, recurses := true, apart := false }
def MsgEncodesSaid : Prop := msgEncodesRow.holds Try.pinned (OpenSpec.ofChange msgEncodesSpec)

/-- ITS FALSE NEIGHBOUR: 'it returns false'. Refute it at one input. -/
def msgEncodesWrong : ChangeSpec := { name := "msgEncodes", fn := fun _ => fun
  | [d] => { results := [.lit (.bool false)], args := [d] }
  | _ => none }
def MsgEncodesWrongFalsely : Prop := msgEncodesRow.holds Try.pinned (OpenSpec.ofChange msgEncodesWrong)

/-- 'stanchionlaw08.MsgDecodes': WHATEVER THE INPUT: true; the input reads as it did. -/
def msgDecodesSpec : ChangeSpec := { name := "msgDecodes", fn := fun _ => fun
  | [d] => { results := [.lit (.bool true)], args := [d] }
  | _ => none }
def msgDecodesRow : OpenClaim := { program := "ytmgmmbgjmnklkaa", sum := "53009a729cec513abb4df04266a9e7493dc2b1f7ed558d30e667f833e66f80b4", func := "stanchion/stanchionlaw08.MsgDecodes", spec := "msgDecodes", unfollowed := true, recurses := true, apart := false }
def MsgDecodesSaid : Prop := msgDecodesRow.holds Try.pinned (OpenSpec.ofChange msgDecodesSpec)

/-- ITS FALSE NEIGHBOUR: 'it returns false'. Refute it at one input. -/
def msgDecodesWrong : ChangeSpec := { name := "msgDecodes", fn := fun _ => fun
  | [d] => { results := [.lit (.bool false)], args := [d] }
  | _ => none }
def MsgDecodesWrongFalsely : Prop := msgDecodesRow.holds Try.pinned (OpenSpec.ofChange msgDecodesWrong)

/-- 'stanchionlaw08.MsgLetters': WHATEVER THE INPUT: true; the input reads as it did. -/
def msgLettersSpec : ChangeSpec := { name := "msgLetters", fn := fun _ => fun
  | [d1, d2, d3] => { results := [.lit (.bool true)], args := [d1, d2, d3] }
  | _ => none }
def msgLettersRow : OpenClaim := { program := "ytmgmmbgjmnklkaa", sum := "53009a729cec513abb4df04266a9e7493dc2b1f7ed558d30e667f833e66f80b4", func := "stanchion/stanchionlaw08.MsgLetters", spec := "msgLetters", unfollowed := true, recurses := true, apart := false }
def MsgLettersSaid : Prop := msgLettersRow.holds Try.pinned (OpenSpec.ofChange msgLettersSpec)

/-- ITS FALSE NEIGHBOUR: 'it returns false'. Refute it at one input. -/
def msgLettersWrong : ChangeSpec := { name := "msgLetters", fn := fun _ => fun
  | [d1, d2, d3] => { results := [.lit (.bool false)], args := [d1, d2, d3] }
  | _ => none }
def MsgLettersWrongFalsely : Prop := msgLettersRow.holds Try.pinned (OpenSpec.ofChange msgLettersWrong)

/-- 'stanchionlaw08.MsgRound': WHATEVER THE INPUT: true; the input reads as it did. -/
def msgRoundSpec : ChangeSpec := { name := "msgRound", fn := fun _ => fun
  | [d1, d2] => { results := [.lit (.bool true)], args := [d1, d2] }
  | _ => none }
def msgRoundRow : OpenClaim := { program := "ytmgmmbgjmnklkaa", sum := "53009a729cec513abb4df04266a9e7493dc2b1f7ed558d30e667f833e66f80b4", func := "stanchion/stanchionlaw08.MsgRound", spec := "msgRound", unfollowed := true, recurses := true, apart := false }
def MsgRoundSaid : Prop := msgRoundRow.holds Try.pinned (OpenSpec.ofChange msgRoundSpec)

/-- ITS FALSE NEIGHBOUR: 'it returns false'. Refute it at one input. -/
def msgRoundWrong : ChangeSpec := { name := "msgRound", fn := fun _ => fun
  | [d1, d2] => { results := [.lit (.bool false)], args := [d1, d2] }
  | _ => none }
def MsgRoundWrongFalsely : Prop := msgRoundRow.holds Try.pinned (OpenSpec.ofChange msgRoundWrong)

/-- 'stanchionlaw08.MsgOthers': WHATEVER THE INPUT: true; the input reads as it did. -/
def msgOthersSpec : ChangeSpec := { name := "msgOthers", fn := fun _ => fun
  | [d1, d2, d3, d4] => { results := [.lit (.bool true)], args := [d1, d2, d3, d4] }
  | _ => none }
def msgOthersRow : OpenClaim := { program := "ytmgmmbgjmnklkaa", sum := "53009a729cec513abb4df04266a9e7493dc2b1f7ed558d30e667f833e66f80b4", func := "stanchion/stanchionlaw08.MsgOthers", spec := "msgOthers", unfollowed := true, recurses := true, apart := false }
def MsgOthersSaid : Prop := msgOthersRow.holds Try.pinned (OpenSpec.ofChange msgOthersSpec)

/-- ITS FALSE NEIGHBOUR: 'it returns false'. Refute it at one input. -/
def msgOthersWrong : ChangeSpec := { name := "msgOthers", fn := fun _ => fun
  | [d1, d2, d3, d4] => { results := [.lit (.bool false)], args := [d1, d2, d3, d4] }
  | _ => none }
def MsgOthersWrongFalsely : Prop := msgOthersRow.holds Try.pinned (OpenSpec.ofChange msgOthersWrong)

/-- 'stanchionlaw08.MsgSmall': WHATEVER THE INPUT: true; the input reads as it did. -/
def msgSmallSpec : ChangeSpec := { name := "msgSmall", fn := fun _ => fun
  | [d1, d2] => { results := [.lit (.bool true)], args := [d1, d2] }
  | _ => none }
def msgSmallRow : OpenClaim := { program := "ytmgmmbgjmnklkaa", sum := "53009a729cec513abb4df04266a9e7493dc2b1f7ed558d30e667f833e66f80b4", func := "stanchion/stanchionlaw08.MsgSmall", spec := "msgSmall", unfollowed := true, recurses := true, apart := false }
def MsgSmallSaid : Prop := msgSmallRow.holds Try.pinned (OpenSpec.ofChange msgSmallSpec)

/-- ITS FALSE NEIGHBOUR: 'it returns false'. Refute it at one input. -/
def msgSmallWrong : ChangeSpec := { name := "msgSmall", fn := fun _ => fun
  | [d1, d2] => { results := [.lit (.bool false)], args := [d1, d2] }
  | _ => none }
def MsgSmallWrongFalsely : Prop := msgSmallRow.holds Try.pinned (OpenSpec.ofChange msgSmallWrong)

/-- 'stanchionlaw08.MsgCuts': WHATEVER THE INPUT: true; the input reads as it did. -/
def msgCutsSpec : ChangeSpec := { name := "msgCuts", fn := fun _ => fun
  | [d1, d2] => { results := [.lit (.bool true)], args := [d1, d2] }
  | _ => none }
def msgCutsRow : OpenClaim := { program := "ytmgmmbgjmnklkaa", sum := "53009a729cec513abb4df04266a9e7493dc2b1f7ed558d30e667f833e66f80b4", func := "stanchion/stanchionlaw08.MsgCuts", spec := "msgCuts", unfollowed := true, recurses := true, apart := false }
def MsgCutsSaid : Prop := msgCutsRow.holds Try.pinned (OpenSpec.ofChange msgCutsSpec)

/-- ITS FALSE NEIGHBOUR: 'it returns false'. Refute it at one input. -/
def msgCutsWrong : ChangeSpec := { name := "msgCuts", fn := fun _ => fun
  | [d1, d2] => { results := [.lit (.bool false)], args := [d1, d2] }
  | _ => none }
def MsgCutsWrongFalsely : Prop := msgCutsRow.holds Try.pinned (OpenSpec.ofChange msgCutsWrong)

/- THE SECOND FORM. 'bulk': how many values and letters a reading holds, each counted each time it is reached (what is shared counts as often as it is met; a slice's spare places count too). A statement '..UptoSaid' is the law's where the arguments, and the package variables that the reading takes, are together of bulk at most 1048576: NARROWER than '..Said'. Prove '..Said' where nothing that the law and all that it calls make is longer than what came in: it says more and counts as full. Else prove '..UptoSaid'. A law counts once. -/
mutual
def uptoBulk {H : Type} : DataW H → Nat
  | .lit (.string bytes) => bytes.length + 1
  | .lit _ => 1
  | .nil => 1
  | .ptr d => uptoBulk d + 1
  | .slice elems spare => uptoBulkAll elems + uptoBulkAll spare + 1
  | .agg parts => uptoBulkAll parts + 1
  | .iface _ d => uptoBulk d + 1
  | .map entries => uptoBulkEntries entries + 1
  | .held _ => 1
def uptoBulkAll {H : Type} : List (DataW H) → Nat
  | [] => 0
  | d :: r => uptoBulk d + uptoBulkAll r
def uptoBulkEntries {H : Type} : List (Lit × DataW H) → Nat
  | [] => 0
  | x :: r => uptoBulkEntry x + uptoBulkEntries r
def uptoBulkEntry {H : Type} : Lit × DataW H → Nat
  | (.string bytes, d) => bytes.length + uptoBulk d + 1
  | (_, d) => uptoBulk d + 1
 end
def uptoSmall : (H : Type) → List (DataW H) → Bool := fun _ ds => decide (uptoBulkAll ds ≤ 1048576)
def OpenSpec.upto (s : _root_.Go.ChangeSpec) : _root_.Go.OpenSpec := { _root_.Go.OpenSpec.ofChange s with cond := some uptoSmall }

/-- 'stanchionlaw08.MsgEncodes', WHERE WHAT IT READS IS OF BULK AT MOST 1048576: true; the input reads as it did. -/
def msgEncodesUptoRow : OpenClaim := { program := "ytmgmmbgjmnklkaa", sum := "53009a729cec513abb4df04266a9e7493dc2b1f7ed558d30e667f833e66f80b4", func := "stanchion/stanchionlaw08.MsgEncodes", spec := "msgEncodes", unfollowed := true, recurses := true, apart := false, narrowed := true }
def MsgEncodesUptoSaid : Prop := msgEncodesUptoRow.holds Try.pinned (OpenSpec.upto msgEncodesSpec)

/-- 'stanchionlaw08.MsgDecodes', WHERE WHAT IT READS IS OF BULK AT MOST 1048576: true; the input reads as it did. -/
def msgDecodesUptoRow : OpenClaim := { program := "ytmgmmbgjmnklkaa", sum := "53009a729cec513abb4df04266a9e7493dc2b1f7ed558d30e667f833e66f80b4", func := "stanchion/stanchionlaw08.MsgDecodes", spec := "msgDecodes", unfollowed := true, recurses := true, apart := false, narrowed := true }
def MsgDecodesUptoSaid : Prop := msgDecodesUptoRow.holds Try.pinned (OpenSpec.upto msgDecodesSpec)

/-- 'stanchionlaw08.MsgLetters', WHERE WHAT IT READS IS OF BULK AT MOST 1048576: true; the input reads as it did. -/
def msgLettersUptoRow : OpenClaim := { program := "ytmgmmbgjmnklkaa", sum := "53009a729cec513abb4df04266a9e7493dc2b1f7ed558d30e667f833e66f80b4", func := "stanchion/stanchionlaw08.MsgLetters", spec := "msgLetters", unfollowed := true, recurses := true, apart := false, narrowed := true }
def MsgLettersUptoSaid : Prop := msgLettersUptoRow.holds Try.pinned (OpenSpec.upto msgLettersSpec)

/-- 'stanchionlaw08.MsgRound', WHERE WHAT IT READS IS OF BULK AT MOST 1048576: true; the input reads as it did. -/
def msgRoundUptoRow : OpenClaim := { program := "ytmgmmbgjmnklkaa", sum := "53009a729cec513abb4df04266a9e7493dc2b1f7ed558d30e667f833e66f80b4", func := "stanchion/stanchionlaw08.MsgRound", spec := "msgRound", unfollowed := true, recurses := true, apart := false, narrowed := true }
def MsgRoundUptoSaid : Prop := msgRoundUptoRow.holds Try.pinned (OpenSpec.upto msgRoundSpec)

/-- 'stanchionlaw08.MsgOthers', WHERE WHAT IT READS IS OF BULK AT MOST 1048576: true; the input reads as it did. -/
def msgOthersUptoRow : OpenClaim := { program := "ytmgmmbgjmnklkaa", sum := "53009a729cec513abb4df04266a9e7493dc2b1f7ed558d30e667f833e66f80b4", func := "stanchion/stanchionlaw08.MsgOthers", spec := "msgOthers", unfollowed := true, recurses := true, apart := false, narrowed := true }
def MsgOthersUptoSaid : Prop := msgOthersUptoRow.holds Try.pinned (OpenSpec.upto msgOthersSpec)

/-- 'stanchionlaw08.MsgSmall', WHERE WHAT IT READS IS OF BULK AT MOST 1048576: true; the input reads as it did. -/
def msgSmallUptoRow : OpenClaim := { program := "ytmgmmbgjmnklkaa", sum := "53009a729cec513abb4df04266a9e7493dc2b1f7ed558d30e667f833e66f80b4", func := "stanchion/stanchionlaw08.MsgSmall", spec := "msgSmall", unfollowed := true, recurses := true, apart := false, narrowed := true }
def MsgSmallUptoSaid : Prop := msgSmallUptoRow.holds Try.pinned (OpenSpec.upto msgSmallSpec)

/-- 'stanchionlaw08.MsgCuts', WHERE WHAT IT READS IS OF BULK AT MOST 1048576: true; the input reads as it did. -/
def msgCutsUptoRow : OpenClaim := { program := "ytmgmmbgjmnklkaa", sum := "53009a729cec513abb4df04266a9e7493dc2b1f7ed558d30e667f833e66f80b4", func := "stanchion/stanchionlaw08.MsgCuts", spec := "msgCuts", unfollowed := true, recurses := true, apart := false, narrowed := true }
def MsgCutsUptoSaid : Prop := msgCutsUptoRow.holds Try.pinned (OpenSpec.upto msgCutsSpec)

end Rows
end Go.Proofs.Ytmgmmbgjmnklkaa
