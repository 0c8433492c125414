/-
  NARROWER THAN 'FOR EVERY INPUT', by the rows' own cells (each row's printed sentence says how): LogSteps: laid · LogOpens: laid · LogPrefix: laid · LogLays: laid · LogMemory: laid · LogOne: laid · LogAgain: laid.
  DERIVED. THE GIVEN ROWS OF THIS SEAT. 7 by the template 'for every input the law returns true; each argument reads behind the call as it read before'; 0 by the template 'total and deterministic' (their statements: YtmiejaohkgemnaaDoorTotals.lean).
  GIVEN WITH THE SEED: the statements are not yours to turn. If you find one false, say at which input.
  Laid BY PROGRAM, IN A SANDBOX (cutbox-rows.mjs): the forced cells as the released guide's own fill.sh prints them over the translation 75f3df50d719e614… (all of the seat's roots in one cut). By AI agents, Wed Nov 11 2026. No macro, syntax, notation, axiom, sorry.
-/
import Derived.Test.YtmiejaohkgemnaaDoorChecked
import GoSem.Claim
import GoSem.ClaimJoined
import GoSem.ClaimMapViews
import Derived.JoinedTies
import Derived.KernelRfl
namespace Go.Proofs.YtmiejaohkgemnaaDoor
/- THE CELL 'sum', in the pinned program and in every row, IS THE sha256 OF THE DUMP (.gsa) THAT YtmiejaohkgemnaaDoorProg.lean LOADS. Nothing in Lean hashes anything: it is a label: what it is worth is what the hold of that sum in a sandbox is worth. -/
noncomputable def Tryd.pinned : Pinned := { name := "ytmiejaohkgemnaadoor", sum := "75f3df50d719e6144ee9729d809046f2852a2123079134d0038d6a1d0f1995a1", checked := Tryd.checked }
namespace Rows
def none {H : Type} : Left H := { results := [], args := [] }

/- WHAT THE LISTED PACKAGE-LEVEL VARIABLES READ AS WHEN THE CALL BEGINS. Each datum BY PROGRAM (the guide's laid-datum.mjs) off the statement by which the dump's own 'gosem.cut.vars' lays the variable. In a bare row this is a premise. The card (YtmiejaohkgemnaaDoorCards.lean) ties it to the program's text. -/
def laid_stanchion_sha_roundWords {H : Type} : DataW H := .agg [.lit (.int .u32 1116352408), .lit (.int .u32 1899447441), .lit (.int .u32 3049323471), .lit (.int .u32 3921009573), .lit (.int .u32 961987163), .lit (.int .u32 1508970993), .lit (.int .u32 2453635748), .lit (.int .u32 2870763221), .lit (.int .u32 3624381080), .lit (.int .u32 310598401), .lit (.int .u32 607225278), .lit (.int .u32 1426881987), .lit (.int .u32 1925078388), .lit (.int .u32 2162078206), .lit (.int .u32 2614888103), .lit (.int .u32 3248222580), .lit (.int .u32 3835390401), .lit (.int .u32 4022224774), .lit (.int .u32 264347078), .lit (.int .u32 604807628), .lit (.int .u32 770255983), .lit (.int .u32 1249150122), .lit (.int .u32 1555081692), .lit (.int .u32 1996064986), .lit (.int .u32 2554220882), .lit (.int .u32 2821834349), .lit (.int .u32 2952996808), .lit (.int .u32 3210313671), .lit (.int .u32 3336571891), .lit (.int .u32 3584528711), .lit (.int .u32 113926993), .lit (.int .u32 338241895), .lit (.int .u32 666307205), .lit (.int .u32 773529912), .lit (.int .u32 1294757372), .lit (.int .u32 1396182291), .lit (.int .u32 1695183700), .lit (.int .u32 1986661051), .lit (.int .u32 2177026350), .lit (.int .u32 2456956037), .lit (.int .u32 2730485921), .lit (.int .u32 2820302411), .lit (.int .u32 3259730800), .lit (.int .u32 3345764771), .lit (.int .u32 3516065817), .lit (.int .u32 3600352804), .lit (.int .u32 4094571909), .lit (.int .u32 275423344), .lit (.int .u32 430227734), .lit (.int .u32 506948616), .lit (.int .u32 659060556), .lit (.int .u32 883997877), .lit (.int .u32 958139571), .lit (.int .u32 1322822218), .lit (.int .u32 1537002063), .lit (.int .u32 1747873779), .lit (.int .u32 1955562222), .lit (.int .u32 2024104815), .lit (.int .u32 2227730452), .lit (.int .u32 2361852424), .lit (.int .u32 2428436474), .lit (.int .u32 2756734187), .lit (.int .u32 3204031479), .lit (.int .u32 3329325298)]

/-- 'stanchionlaw05.LogSteps': WHATEVER THE INPUT: true; the input reads as it did. -/
def logStepsSpec : ChangeSpec := { name := "logSteps", fn := fun _ => fun
  | [d1, d2] => { results := [.lit (.bool true)], args := [d1, d2] }
  | _ => none }
def logStepsRow : OpenClaim := { program := "ytmiejaohkgemnaadoor", sum := "75f3df50d719e6144ee9729d809046f2852a2123079134d0038d6a1d0f1995a1", func := "stanchion/stanchionlaw05.LogSteps", spec := "logSteps", unfollowed := true, recurses := true, named := ["stanchion/sha.roundWords"], apart := false, laid := [("stanchion/sha.roundWords", laid_stanchion_sha_roundWords)] }
def LogStepsSaid : Prop := logStepsRow.holds Tryd.pinned (OpenSpec.ofChange logStepsSpec)

/-- ITS FALSE NEIGHBOUR: 'it returns false'. Refute it at one input. -/
def logStepsWrong : ChangeSpec := { name := "logSteps", fn := fun _ => fun
  | [d1, d2] => { results := [.lit (.bool false)], args := [d1, d2] }
  | _ => none }
def LogStepsWrongFalsely : Prop := logStepsRow.holds Tryd.pinned (OpenSpec.ofChange logStepsWrong)

/-- 'stanchionlaw05.LogOpens': WHATEVER THE INPUT: true; the input reads as it did. -/
def logOpensSpec : ChangeSpec := { name := "logOpens", fn := fun _ => fun
  | [d1, d2, d3] => { results := [.lit (.bool true)], args := [d1, d2, d3] }
  | _ => none }
def logOpensRow : OpenClaim := { program := "ytmiejaohkgemnaadoor", sum := "75f3df50d719e6144ee9729d809046f2852a2123079134d0038d6a1d0f1995a1", func := "stanchion/stanchionlaw05.LogOpens", spec := "logOpens", unfollowed := true, recurses := true, named := ["stanchion/sha.roundWords"], apart := false, laid := [("stanchion/sha.roundWords", laid_stanchion_sha_roundWords)] }
def LogOpensSaid : Prop := logOpensRow.holds Tryd.pinned (OpenSpec.ofChange logOpensSpec)

/-- ITS FALSE NEIGHBOUR: 'it returns false'. Refute it at one input. -/
def logOpensWrong : ChangeSpec := { name := "logOpens", fn := fun _ => fun
  | [d1, d2, d3] => { results := [.lit (.bool false)], args := [d1, d2, d3] }
  | _ => none }
def LogOpensWrongFalsely : Prop := logOpensRow.holds Tryd.pinned (OpenSpec.ofChange logOpensWrong)

/-- 'stanchionlaw05.LogPrefix': WHATEVER THE INPUT: true; the input reads as it did. -/
def logPrefixSpec : ChangeSpec := { name := "logPrefix", fn := fun _ => fun
  | [d1, d2, d3, d4, d5] => { results := [.lit (.bool true)], args := [d1, d2, d3, d4, d5] }
  | _ => none }
def logPrefixRow : OpenClaim := { program := "ytmiejaohkgemnaadoor", sum := "75f3df50d719e6144ee9729d809046f2852a2123079134d0038d6a1d0f1995a1", func := "stanchion/stanchionlaw05.LogPrefix", spec := "logPrefix", unfollowed := true, recurses := true, named := ["stanchion/sha.roundWords"], apart := false, laid := [("stanchion/sha.roundWords", laid_stanchion_sha_roundWords)] }
def LogPrefixSaid : Prop := logPrefixRow.holds Tryd.pinned (OpenSpec.ofChange logPrefixSpec)

/-- ITS FALSE NEIGHBOUR: 'it returns false'. Refute it at one input. -/
def logPrefixWrong : ChangeSpec := { name := "logPrefix", fn := fun _ => fun
  | [d1, d2, d3, d4, d5] => { results := [.lit (.bool false)], args := [d1, d2, d3, d4, d5] }
  | _ => none }
def LogPrefixWrongFalsely : Prop := logPrefixRow.holds Tryd.pinned (OpenSpec.ofChange logPrefixWrong)

/-- 'stanchionlaw05.LogLays': WHATEVER THE INPUT: true; the input reads as it did. -/
def logLaysSpec : ChangeSpec := { name := "logLays", fn := fun _ => fun
  | [d1, d2, d3, d4] => { results := [.lit (.bool true)], args := [d1, d2, d3, d4] }
  | _ => none }
def logLaysRow : OpenClaim := { program := "ytmiejaohkgemnaadoor", sum := "75f3df50d719e6144ee9729d809046f2852a2123079134d0038d6a1d0f1995a1", func := "stanchion/stanchionlaw05.LogLays", spec := "logLays", unfollowed := true, recurses := true, named := ["stanchion/sha.roundWords"], apart := false, laid := [("stanchion/sha.roundWords", laid_stanchion_sha_roundWords)] }
def LogLaysSaid : Prop := logLaysRow.holds Tryd.pinned (OpenSpec.ofChange logLaysSpec)

/-- ITS FALSE NEIGHBOUR: 'it returns false'. Refute it at one input. -/
def logLaysWrong : ChangeSpec := { name := "logLays", fn := fun _ => fun
  | [d1, d2, d3, d4] => { results := [.lit (.bool false)], args := [d1, d2, d3, d4] }
  | _ => none }
def LogLaysWrongFalsely : Prop := logLaysRow.holds Tryd.pinned (OpenSpec.ofChange logLaysWrong)

/-- 'stanchionlaw05.LogMemory': WHATEVER THE INPUT: true; the input reads as it did. -/
def logMemorySpec : ChangeSpec := { name := "logMemory", fn := fun _ => fun
  | [d] => { results := [.lit (.bool true)], args := [d] }
  | _ => none }
def logMemoryRow : OpenClaim := { program := "ytmiejaohkgemnaadoor", sum := "75f3df50d719e6144ee9729d809046f2852a2123079134d0038d6a1d0f1995a1", func := "stanchion/stanchionlaw05.LogMemory", spec := "logMemory", unfollowed := true, recurses := true, named := ["stanchion/sha.roundWords"], apart := false, laid := [("stanchion/sha.roundWords", laid_stanchion_sha_roundWords)] }
def LogMemorySaid : Prop := logMemoryRow.holds Tryd.pinned (OpenSpec.ofChange logMemorySpec)

/-- ITS FALSE NEIGHBOUR: 'it returns false'. Refute it at one input. -/
def logMemoryWrong : ChangeSpec := { name := "logMemory", fn := fun _ => fun
  | [d] => { results := [.lit (.bool false)], args := [d] }
  | _ => none }
def LogMemoryWrongFalsely : Prop := logMemoryRow.holds Tryd.pinned (OpenSpec.ofChange logMemoryWrong)

/-- 'stanchionlaw05.LogOne': WHATEVER THE INPUT: true; the input reads as it did. -/
def logOneSpec : ChangeSpec := { name := "logOne", fn := fun _ => fun
  | [d] => { results := [.lit (.bool true)], args := [d] }
  | _ => none }
def logOneRow : OpenClaim := { program := "ytmiejaohkgemnaadoor", sum := "75f3df50d719e6144ee9729d809046f2852a2123079134d0038d6a1d0f1995a1", func := "stanchion/stanchionlaw05.LogOne", spec := "logOne", unfollowed := true, recurses := true, named := ["stanchion/sha.roundWords"], apart := false, laid := [("stanchion/sha.roundWords", laid_stanchion_sha_roundWords)] }
def LogOneSaid : Prop := logOneRow.holds Tryd.pinned (OpenSpec.ofChange logOneSpec)

/-- ITS FALSE NEIGHBOUR: 'it returns false'. Refute it at one input. -/
def logOneWrong : ChangeSpec := { name := "logOne", fn := fun _ => fun
  | [d] => { results := [.lit (.bool false)], args := [d] }
  | _ => none }
def LogOneWrongFalsely : Prop := logOneRow.holds Tryd.pinned (OpenSpec.ofChange logOneWrong)

/-- 'stanchionlaw05.LogAgain': WHATEVER THE INPUT: true; the input reads as it did. -/
def logAgainSpec : ChangeSpec := { name := "logAgain", fn := fun _ => fun
  | [d1, d2, d3] => { results := [.lit (.bool true)], args := [d1, d2, d3] }
  | _ => none }
def logAgainRow : OpenClaim := { program := "ytmiejaohkgemnaadoor", sum := "75f3df50d719e6144ee9729d809046f2852a2123079134d0038d6a1d0f1995a1", func := "stanchion/stanchionlaw05.LogAgain", spec := "logAgain", unfollowed := true, recurses := true, named := ["stanchion/sha.roundWords"], apart := false, laid := [("stanchion/sha.roundWords", laid_stanchion_sha_roundWords)] }
def LogAgainSaid : Prop := logAgainRow.holds Tryd.pinned (OpenSpec.ofChange logAgainSpec)

/-- ITS FALSE NEIGHBOUR: 'it returns false'. Refute it at one input. -/
def logAgainWrong : ChangeSpec := { name := "logAgain", fn := fun _ => fun
  | [d1, d2, d3] => { results := [.lit (.bool false)], args := [d1, d2, d3] }
  | _ => none }
def LogAgainWrongFalsely : Prop := logAgainRow.holds Tryd.pinned (OpenSpec.ofChange logAgainWrong)

/- THE SECOND FORM. 'bulk': how many values and letters a reading holds, each counted each time it is reached (what is shared counts as often as it is met; a slice's spare places count too). A statement '..UptoSaid' is the law's where the arguments, and the package variables that the reading takes, are together of bulk at most 1048576: NARROWER than '..Said'. Prove '..Said' where nothing that the law and all that it calls make is longer than what came in: it says more and counts as full. Else prove '..UptoSaid'. A law counts once. -/
mutual
def uptoBulk {H : Type} : DataW H → Nat
  | .lit (.string bytes) => bytes.length + 1
  | .lit _ => 1
  | .nil => 1
  | .ptr d => uptoBulk d + 1
  | .slice elems spare => uptoBulkAll elems + uptoBulkAll spare + 1
  | .agg parts => uptoBulkAll parts + 1
  | .iface _ d => uptoBulk d + 1
  | .map entries => uptoBulkEntries entries + 1
  | .held _ => 1
def uptoBulkAll {H : Type} : List (DataW H) → Nat
  | [] => 0
  | d :: r => uptoBulk d + uptoBulkAll r
def uptoBulkEntries {H : Type} : List (Lit × DataW H) → Nat
  | [] => 0
  | x :: r => uptoBulkEntry x + uptoBulkEntries r
def uptoBulkEntry {H : Type} : Lit × DataW H → Nat
  | (.string bytes, d) => bytes.length + uptoBulk d + 1
  | (_, d) => uptoBulk d + 1
 end
def uptoSmall : (H : Type) → List (DataW H) → Bool := fun _ ds => decide (uptoBulkAll ds ≤ 1048576)
def OpenSpec.upto (s : _root_.Go.ChangeSpec) : _root_.Go.OpenSpec := { _root_.Go.OpenSpec.ofChange s with cond := some uptoSmall }

/-- 'stanchionlaw05.LogSteps', WHERE WHAT IT READS IS OF BULK AT MOST 1048576: true; the input reads as it did. -/
def logStepsUptoRow : OpenClaim := { program := "ytmiejaohkgemnaadoor", sum := "75f3df50d719e6144ee9729d809046f2852a2123079134d0038d6a1d0f1995a1", func := "stanchion/stanchionlaw05.LogSteps", spec := "logSteps", unfollowed := true, recurses := true, named := ["stanchion/sha.roundWords"], apart := false, laid := [("stanchion/sha.roundWords", laid_stanchion_sha_roundWords)], narrowed := true }
def LogStepsUptoSaid : Prop := logStepsUptoRow.holds Tryd.pinned (OpenSpec.upto logStepsSpec)

/-- 'stanchionlaw05.LogOpens', WHERE WHAT IT READS IS OF BULK AT MOST 1048576: true; the input reads as it did. -/
def logOpensUptoRow : OpenClaim := { program := "ytmiejaohkgemnaadoor", sum := "75f3df50d719e6144ee9729d809046f2852a2123079134d0038d6a1d0f1995a1", func := "stanchion/stanchionlaw05.LogOpens", spec := "logOpens", unfollowed := true, recurses := true, named := ["stanchion/sha.roundWords"], apart := false, laid := [("stanchion/sha.roundWords", laid_stanchion_sha_roundWords)], narrowed := true }
def LogOpensUptoSaid : Prop := logOpensUptoRow.holds Tryd.pinned (OpenSpec.upto logOpensSpec)

/-- 'stanchionlaw05.LogPrefix', WHERE WHAT IT READS IS OF BULK AT MOST 1048576: true; the input reads as it did. -/
def logPrefixUptoRow : OpenClaim := { program := "ytmiejaohkgemnaadoor", sum := "75f3df50d719e6144ee9729d809046f2852a2123079134d0038d6a1d0f1995a1", func := "stanchion/stanchionlaw05.LogPrefix", spec := "logPrefix", unfollowed := true, recurses := true, named := ["stanchion/sha.roundWords"], apart := false, laid := [("stanchion/sha.roundWords", laid_stanchion_sha_roundWords)], narrowed := true }
def LogPrefixUptoSaid : Prop := logPrefixUptoRow.holds Tryd.pinned (OpenSpec.upto logPrefixSpec)

/-- 'stanchionlaw05.LogLays', WHERE WHAT IT READS IS OF BULK AT MOST 1048576: true; the input reads as it did. -/
def logLaysUptoRow : OpenClaim := { program := "ytmiejaohkgemnaadoor", sum := "75f3df50d719e6144ee9729d809046f2852a2123079134d0038d6a1d0f1995a1", func := "stanchion/stanchionlaw05.LogLays", spec := "logLays", unfollowed := true, recurses := true, named := ["stanchion/sha.roundWords"], apart := false, laid := [("stanchion/sha.roundWords", laid_stanchion_sha_roundWords)], narrowed := true }
def LogLaysUptoSaid : Prop := logLaysUptoRow.holds Tryd.pinned (OpenSpec.upto logLaysSpec)

/-- 'stanchionlaw05.LogMemory', WHERE WHAT IT READS IS OF BULK AT MOST 1048576: true; the input reads as it did. -/
def logMemoryUptoRow : OpenClaim := { program := "ytmiejaohkgemnaadoor", sum := "75f3df50d719e6144ee9729d809046f2852a2123079134d0038d6a1d0f1995a1", func := "stanchion/stanchionlaw05.LogMemory", spec := "logMemory", unfollowed := true, recurses := true, named := ["stanchion/sha.roundWords"], apart := false, laid := [("stanchion/sha.roundWords", laid_stanchion_sha_roundWords)], narrowed := true }
def LogMemoryUptoSaid : Prop := logMemoryUptoRow.holds Tryd.pinned (OpenSpec.upto logMemorySpec)

/-- 'stanchionlaw05.LogOne', WHERE WHAT IT READS IS OF BULK AT MOST 1048576: true; the input reads as it did. -/
def logOneUptoRow : OpenClaim := { program := "ytmiejaohkgemnaadoor", sum := "75f3df50d719e6144ee9729d809046f2852a2123079134d0038d6a1d0f1995a1", func := "stanchion/stanchionlaw05.LogOne", spec := "logOne", unfollowed := true, recurses := true, named := ["stanchion/sha.roundWords"], apart := false, laid := [("stanchion/sha.roundWords", laid_stanchion_sha_roundWords)], narrowed := true }
def LogOneUptoSaid : Prop := logOneUptoRow.holds Tryd.pinned (OpenSpec.upto logOneSpec)

/-- 'stanchionlaw05.LogAgain', WHERE WHAT IT READS IS OF BULK AT MOST 1048576: true; the input reads as it did. -/
def logAgainUptoRow : OpenClaim := { program := "ytmiejaohkgemnaadoor", sum := "75f3df50d719e6144ee9729d809046f2852a2123079134d0038d6a1d0f1995a1", func := "stanchion/stanchionlaw05.LogAgain", spec := "logAgain", unfollowed := true, recurses := true, named := ["stanchion/sha.roundWords"], apart := false, laid := [("stanchion/sha.roundWords", laid_stanchion_sha_roundWords)], narrowed := true }
def LogAgainUptoSaid : Prop := logAgainUptoRow.holds Tryd.pinned (OpenSpec.upto logAgainSpec)

end Rows
end Go.Proofs.YtmiejaohkgemnaaDoor
