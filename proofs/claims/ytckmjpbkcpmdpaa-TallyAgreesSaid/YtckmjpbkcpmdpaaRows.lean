/-
  No cell of these rows narrows 'for every input' (looked for: loops, veiled, ifaces, maps, wideKeys, modest, calm, conditions, laid).
  DERIVED. THE GIVEN ROWS OF THIS SEAT. 6 by the template 'for every input the law returns true; each argument reads behind the call as it read before'; 0 by the template 'total and deterministic' (their statements: YtckmjpbkcpmdpaaTotals.lean).
  GIVEN WITH THE SEED: the statements are not yours to turn. If you find one false, say at which input.
  Laid BY PROGRAM, IN A SANDBOX (cutbox-rows.mjs): the forced cells as the released guide's own fill.sh prints them over the translation 84b6cb32bfba3880… (all of the seat's roots in one cut). By AI agents, Wed Nov 11 2026. No macro, syntax, notation, axiom, sorry.
-/
import Derived.Test.YtckmjpbkcpmdpaaChecked
import GoSem.Claim
import GoSem.ClaimJoined
import GoSem.ClaimMapViews
import Derived.JoinedTies
import Derived.KernelRfl
namespace Go.Proofs.Ytckmjpbkcpmdpaa
/- THE CELL 'sum', in the pinned program and in every row, IS THE sha256 OF THE DUMP (.gsa) THAT YtckmjpbkcpmdpaaProg.lean LOADS. Nothing in Lean hashes anything: it is a label: what it is worth is what the hold of that sum in a sandbox is worth. -/
noncomputable def Try.pinned : Pinned := { name := "ytckmjpbkcpmdpaa", sum := "84b6cb32bfba3880aaaa7b1d309525bf676bbec5fbd2af1c8d48137bb5554af6", checked := Try.checked }
namespace Rows
def none {H : Type} : Left H := { results := [], args := [] }

/-- 'stanchionlaw07.TallySteps': WHATEVER THE INPUT: true; the input reads as it did. -/
def tallyStepsSpec : ChangeSpec := { name := "tallySteps", fn := fun _ => fun
  | [d1, d2, d3] => { results := [.lit (.bool true)], args := [d1, d2, d3] }
  | _ => none }
def tallyStepsRow : OpenClaim := { program := "ytckmjpbkcpmdpaa", sum := "84b6cb32bfba3880aaaa7b1d309525bf676bbec5fbd2af1c8d48137bb5554af6", func := "stanchion/stanchionlaw07.TallySteps", spec := "tallySteps", inPlace := ["internal/bytealg.Compare"], unfollowed := true, recurses := true, apart := false }
def TallyStepsSaid : Prop := tallyStepsRow.holds Try.pinned (OpenSpec.ofChange tallyStepsSpec)

/-- ITS FALSE NEIGHBOUR: 'it returns false'. Refute it at one input. -/
def tallyStepsWrong : ChangeSpec := { name := "tallySteps", fn := fun _ => fun
  | [d1, d2, d3] => { results := [.lit (.bool false)], args := [d1, d2, d3] }
  | _ => none }
def TallyStepsWrongFalsely : Prop := tallyStepsRow.holds Try.pinned (OpenSpec.ofChange tallyStepsWrong)

/-- 'stanchionlaw07.TallyAgrees': WHATEVER THE INPUT: true; the input reads as it did. -/
def tallyAgreesSpec : ChangeSpec := { name := "tallyAgrees", fn := fun _ => fun
  | [d1, d2, d3] => { results := [.lit (.bool true)], args := [d1, d2, d3] }
  | _ => none }
def tallyAgreesRow : OpenClaim := { program := "ytckmjpbkcpmdpaa", sum := "84b6cb32bfba3880aaaa7b1d309525bf676bbec5fbd2af1c8d48137bb5554af6", func := "stanchion/stanchionlaw07.TallyAgrees", spec := "tallyAgrees", inPlace := ["internal/bytealg.Compare"], unfollowed := true, recurses := true, apart := false }
def TallyAgreesSaid : Prop := tallyAgreesRow.holds Try.pinned (OpenSpec.ofChange tallyAgreesSpec)

/-- ITS FALSE NEIGHBOUR: 'it returns false'. Refute it at one input. -/
def tallyAgreesWrong : ChangeSpec := { name := "tallyAgrees", fn := fun _ => fun
  | [d1, d2, d3] => { results := [.lit (.bool false)], args := [d1, d2, d3] }
  | _ => none }
def TallyAgreesWrongFalsely : Prop := tallyAgreesRow.holds Try.pinned (OpenSpec.ofChange tallyAgreesWrong)

/-- 'stanchionlaw07.TallyQuorums': WHATEVER THE INPUT: true; the input reads as it did. -/
def tallyQuorumsSpec : ChangeSpec := { name := "tallyQuorums", fn := fun _ => fun
  | [d1, d2, d3] => { results := [.lit (.bool true)], args := [d1, d2, d3] }
  | _ => none }
def tallyQuorumsRow : OpenClaim := { program := "ytckmjpbkcpmdpaa", sum := "84b6cb32bfba3880aaaa7b1d309525bf676bbec5fbd2af1c8d48137bb5554af6", func := "stanchion/stanchionlaw07.TallyQuorums", spec := "tallyQuorums", inPlace := ["internal/bytealg.Compare"], unfollowed := true, recurses := true, apart := false }
def TallyQuorumsSaid : Prop := tallyQuorumsRow.holds Try.pinned (OpenSpec.ofChange tallyQuorumsSpec)

/-- ITS FALSE NEIGHBOUR: 'it returns false'. Refute it at one input. -/
def tallyQuorumsWrong : ChangeSpec := { name := "tallyQuorums", fn := fun _ => fun
  | [d1, d2, d3] => { results := [.lit (.bool false)], args := [d1, d2, d3] }
  | _ => none }
def TallyQuorumsWrongFalsely : Prop := tallyQuorumsRow.holds Try.pinned (OpenSpec.ofChange tallyQuorumsWrong)

/-- 'stanchionlaw07.TallyOrder': WHATEVER THE INPUT: true; the input reads as it did. -/
def tallyOrderSpec : ChangeSpec := { name := "tallyOrder", fn := fun _ => fun
  | [d1, d2, d3] => { results := [.lit (.bool true)], args := [d1, d2, d3] }
  | _ => none }
def tallyOrderRow : OpenClaim := { program := "ytckmjpbkcpmdpaa", sum := "84b6cb32bfba3880aaaa7b1d309525bf676bbec5fbd2af1c8d48137bb5554af6", func := "stanchion/stanchionlaw07.TallyOrder", spec := "tallyOrder", inPlace := ["internal/bytealg.Compare"], unfollowed := true, recurses := true, apart := false }
def TallyOrderSaid : Prop := tallyOrderRow.holds Try.pinned (OpenSpec.ofChange tallyOrderSpec)

/-- ITS FALSE NEIGHBOUR: 'it returns false'. Refute it at one input. -/
def tallyOrderWrong : ChangeSpec := { name := "tallyOrder", fn := fun _ => fun
  | [d1, d2, d3] => { results := [.lit (.bool false)], args := [d1, d2, d3] }
  | _ => none }
def TallyOrderWrongFalsely : Prop := tallyOrderRow.holds Try.pinned (OpenSpec.ofChange tallyOrderWrong)

/-- 'stanchionlaw07.TallyOnce': WHATEVER THE INPUT: true; the input reads as it did. -/
def tallyOnceSpec : ChangeSpec := { name := "tallyOnce", fn := fun _ => fun
  | [d1, d2, d3] => { results := [.lit (.bool true)], args := [d1, d2, d3] }
  | _ => none }
def tallyOnceRow : OpenClaim := { program := "ytckmjpbkcpmdpaa", sum := "84b6cb32bfba3880aaaa7b1d309525bf676bbec5fbd2af1c8d48137bb5554af6", func := "stanchion/stanchionlaw07.TallyOnce", spec := "tallyOnce", inPlace := ["internal/bytealg.Compare"], unfollowed := true, recurses := true, apart := false }
def TallyOnceSaid : Prop := tallyOnceRow.holds Try.pinned (OpenSpec.ofChange tallyOnceSpec)

/-- ITS FALSE NEIGHBOUR: 'it returns false'. Refute it at one input. -/
def tallyOnceWrong : ChangeSpec := { name := "tallyOnce", fn := fun _ => fun
  | [d1, d2, d3] => { results := [.lit (.bool false)], args := [d1, d2, d3] }
  | _ => none }
def TallyOnceWrongFalsely : Prop := tallyOnceRow.holds Try.pinned (OpenSpec.ofChange tallyOnceWrong)

/-- 'stanchionlaw07.TallyReaches': WHATEVER THE INPUT: true; the input reads as it did. -/
def tallyReachesSpec : ChangeSpec := { name := "tallyReaches", fn := fun _ => fun
  | [d1, d2, d3] => { results := [.lit (.bool true)], args := [d1, d2, d3] }
  | _ => none }
def tallyReachesRow : OpenClaim := { program := "ytckmjpbkcpmdpaa", sum := "84b6cb32bfba3880aaaa7b1d309525bf676bbec5fbd2af1c8d48137bb5554af6", func := "stanchion/stanchionlaw07.TallyReaches", spec := "tallyReaches", inPlace := ["internal/bytealg.Compare"], unfollowed := true, recurses := true, apart := false }
def TallyReachesSaid : Prop := tallyReachesRow.holds Try.pinned (OpenSpec.ofChange tallyReachesSpec)

/-- ITS FALSE NEIGHBOUR: 'it returns false'. Refute it at one input. -/
def tallyReachesWrong : ChangeSpec := { name := "tallyReaches", fn := fun _ => fun
  | [d1, d2, d3] => { results := [.lit (.bool false)], args := [d1, d2, d3] }
  | _ => none }
def TallyReachesWrongFalsely : Prop := tallyReachesRow.holds Try.pinned (OpenSpec.ofChange tallyReachesWrong)

/- THE SECOND FORM. 'bulk': how many values and letters a reading holds, each counted each time it is reached (what is shared counts as often as it is met; a slice's spare places count too). A statement '..UptoSaid' is the law's where the arguments, and the package variables that the reading takes, are together of bulk at most 1048576: NARROWER than '..Said'. Prove '..Said' where nothing that the law and all that it calls make is longer than what came in: it says more and counts as full. Else prove '..UptoSaid'. A law counts once. -/
mutual
def uptoBulk {H : Type} : DataW H → Nat
  | .lit (.string bytes) => bytes.length + 1
  | .lit _ => 1
  | .nil => 1
  | .ptr d => uptoBulk d + 1
  | .slice elems spare => uptoBulkAll elems + uptoBulkAll spare + 1
  | .agg parts => uptoBulkAll parts + 1
  | .iface _ d => uptoBulk d + 1
  | .map entries => uptoBulkEntries entries + 1
  | .held _ => 1
def uptoBulkAll {H : Type} : List (DataW H) → Nat
  | [] => 0
  | d :: r => uptoBulk d + uptoBulkAll r
def uptoBulkEntries {H : Type} : List (Lit × DataW H) → Nat
  | [] => 0
  | x :: r => uptoBulkEntry x + uptoBulkEntries r
def uptoBulkEntry {H : Type} : Lit × DataW H → Nat
  | (.string bytes, d) => bytes.length + uptoBulk d + 1
  | (_, d) => uptoBulk d + 1
 end
def uptoSmall : (H : Type) → List (DataW H) → Bool := fun _ ds => decide (uptoBulkAll ds ≤ 1048576)
def OpenSpec.upto (s : _root_.Go.ChangeSpec) : _root_.Go.OpenSpec := { _root_.Go.OpenSpec.ofChange s with cond := some uptoSmall }

/-- 'stanchionlaw07.TallySteps', WHERE WHAT IT READS IS OF BULK AT MOST 1048576: true; the input reads as it did. -/
def tallyStepsUptoRow : OpenClaim := { program := "ytckmjpbkcpmdpaa", sum := "84b6cb32bfba3880aaaa7b1d309525bf676bbec5fbd2af1c8d48137bb5554af6", func := "stanchion/stanchionlaw07.TallySteps", spec := "tallySteps", inPlace := ["internal/bytealg.Compare"], unfollowed := true, recurses := true, apart := false, narrowed := true }
def TallyStepsUptoSaid : Prop := tallyStepsUptoRow.holds Try.pinned (OpenSpec.upto tallyStepsSpec)

/-- 'stanchionlaw07.TallyAgrees', WHERE WHAT IT READS IS OF BULK AT MOST 1048576: true; the input reads as it did. -/
def tallyAgreesUptoRow : OpenClaim := { program := "ytckmjpbkcpmdpaa", sum := "84b6cb32bfba3880aaaa7b1d309525bf676bbec5fbd2af1c8d48137bb5554af6", func := "stanchion/stanchionlaw07.TallyAgrees", spec := "tallyAgrees", inPlace := ["internal/bytealg.Compare"], unfollowed := true, recurses := true, apart := false, narrowed := true }
def TallyAgreesUptoSaid : Prop := tallyAgreesUptoRow.holds Try.pinned (OpenSpec.upto tallyAgreesSpec)

/-- 'stanchionlaw07.TallyQuorums', WHERE WHAT IT READS IS OF BULK AT MOST 1048576: true; the input reads as it did. -/
def tallyQuorumsUptoRow : OpenClaim := { program := "ytckmjpbkcpmdpaa", sum := "84b6cb32bfba3880aaaa7b1d309525bf676bbec5fbd2af1c8d48137bb5554af6", func := "stanchion/stanchionlaw07.TallyQuorums", spec := "tallyQuorums", inPlace := ["internal/bytealg.Compare"], unfollowed := true, recurses := true, apart := false, narrowed := true }
def TallyQuorumsUptoSaid : Prop := tallyQuorumsUptoRow.holds Try.pinned (OpenSpec.upto tallyQuorumsSpec)

/-- 'stanchionlaw07.TallyOrder', WHERE WHAT IT READS IS OF BULK AT MOST 1048576: true; the input reads as it did. -/
def tallyOrderUptoRow : OpenClaim := { program := "ytckmjpbkcpmdpaa", sum := "84b6cb32bfba3880aaaa7b1d309525bf676bbec5fbd2af1c8d48137bb5554af6", func := "stanchion/stanchionlaw07.TallyOrder", spec := "tallyOrder", inPlace := ["internal/bytealg.Compare"], unfollowed := true, recurses := true, apart := false, narrowed := true }
def TallyOrderUptoSaid : Prop := tallyOrderUptoRow.holds Try.pinned (OpenSpec.upto tallyOrderSpec)

/-- 'stanchionlaw07.TallyOnce', WHERE WHAT IT READS IS OF BULK AT MOST 1048576: true; the input reads as it did. -/
def tallyOnceUptoRow : OpenClaim := { program := "ytckmjpbkcpmdpaa", sum := "84b6cb32bfba3880aaaa7b1d309525bf676bbec5fbd2af1c8d48137bb5554af6", func := "stanchion/stanchionlaw07.TallyOnce", spec := "tallyOnce", inPlace := ["internal/bytealg.Compare"], unfollowed := true, recurses := true, apart := false, narrowed := true }
def TallyOnceUptoSaid : Prop := tallyOnceUptoRow.holds Try.pinned (OpenSpec.upto tallyOnceSpec)

/-- 'stanchionlaw07.TallyReaches', WHERE WHAT IT READS IS OF BULK AT MOST 1048576: true; the input reads as it did. -/
def tallyReachesUptoRow : OpenClaim := { program := "ytckmjpbkcpmdpaa", sum := "84b6cb32bfba3880aaaa7b1d309525bf676bbec5fbd2af1c8d48137bb5554af6", func := "stanchion/stanchionlaw07.TallyReaches", spec := "tallyReaches", inPlace := ["internal/bytealg.Compare"], unfollowed := true, recurses := true, apart := false, narrowed := true }
def TallyReachesUptoSaid : Prop := tallyReachesUptoRow.holds Try.pinned (OpenSpec.upto tallyReachesSpec)

end Rows
end Go.Proofs.Ytckmjpbkcpmdpaa
