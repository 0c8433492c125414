/-
  NARROWER THAN 'FOR EVERY INPUT', by the rows' own cells (each row's printed sentence says how): MacHmacs: laid · MacKeys: laid · MacSeals: laid · MacOpens: laid · MacReads: laid · MacZeros: laid · MacTurns: laid.
  DERIVED. THE GIVEN ROWS OF THIS SEAT. 7 by the template 'for every input the law returns true; each argument reads behind the call as it read before'; 0 by the template 'total and deterministic' (their statements: YtfdmnnbcnaofgaaDoorTotals.lean).
  GIVEN WITH THE SEED: the statements are not yours to turn. If you find one false, say at which input.
  Laid BY PROGRAM, IN A SANDBOX (cutbox-rows.mjs): the forced cells as the released guide's own fill.sh prints them over the translation 4388eadca39c62f7… (all of the seat's roots in one cut). By AI agents, Wed Nov 11 2026. No macro, syntax, notation, axiom, sorry.
-/
import Derived.Test.YtfdmnnbcnaofgaaDoorChecked
import GoSem.Claim
import GoSem.ClaimJoined
import GoSem.ClaimMapViews
import Derived.JoinedTies
import Derived.KernelRfl
namespace Go.Proofs.YtfdmnnbcnaofgaaDoor
/- THE CELL 'sum', in the pinned program and in every row, IS THE sha256 OF THE DUMP (.gsa) THAT YtfdmnnbcnaofgaaDoorProg.lean LOADS. Nothing in Lean hashes anything: it is a label: what it is worth is what the hold of that sum in a sandbox is worth. -/
noncomputable def Tryd.pinned : Pinned := { name := "ytfdmnnbcnaofgaadoor", sum := "4388eadca39c62f7df6644a647bbee24a24f5c696c0c2f6b4d21457d6af5a7d1", checked := Tryd.checked }
namespace Rows
def none {H : Type} : Left H := { results := [], args := [] }

/- WHAT THE LISTED PACKAGE-LEVEL VARIABLES READ AS WHEN THE CALL BEGINS. Each datum BY PROGRAM (the guide's laid-datum.mjs) off the statement by which the dump's own 'gosem.cut.vars' lays the variable. In a bare row this is a premise. The card (YtfdmnnbcnaofgaaDoorCards.lean) ties it to the program's text. -/
def laid_stanchion_sha_roundWords {H : Type} : DataW H := .agg [.lit (.int .u32 1116352408), .lit (.int .u32 1899447441), .lit (.int .u32 3049323471), .lit (.int .u32 3921009573), .lit (.int .u32 961987163), .lit (.int .u32 1508970993), .lit (.int .u32 2453635748), .lit (.int .u32 2870763221), .lit (.int .u32 3624381080), .lit (.int .u32 310598401), .lit (.int .u32 607225278), .lit (.int .u32 1426881987), .lit (.int .u32 1925078388), .lit (.int .u32 2162078206), .lit (.int .u32 2614888103), .lit (.int .u32 3248222580), .lit (.int .u32 3835390401), .lit (.int .u32 4022224774), .lit (.int .u32 264347078), .lit (.int .u32 604807628), .lit (.int .u32 770255983), .lit (.int .u32 1249150122), .lit (.int .u32 1555081692), .lit (.int .u32 1996064986), .lit (.int .u32 2554220882), .lit (.int .u32 2821834349), .lit (.int .u32 2952996808), .lit (.int .u32 3210313671), .lit (.int .u32 3336571891), .lit (.int .u32 3584528711), .lit (.int .u32 113926993), .lit (.int .u32 338241895), .lit (.int .u32 666307205), .lit (.int .u32 773529912), .lit (.int .u32 1294757372), .lit (.int .u32 1396182291), .lit (.int .u32 1695183700), .lit (.int .u32 1986661051), .lit (.int .u32 2177026350), .lit (.int .u32 2456956037), .lit (.int .u32 2730485921), .lit (.int .u32 2820302411), .lit (.int .u32 3259730800), .lit (.int .u32 3345764771), .lit (.int .u32 3516065817), .lit (.int .u32 3600352804), .lit (.int .u32 4094571909), .lit (.int .u32 275423344), .lit (.int .u32 430227734), .lit (.int .u32 506948616), .lit (.int .u32 659060556), .lit (.int .u32 883997877), .lit (.int .u32 958139571), .lit (.int .u32 1322822218), .lit (.int .u32 1537002063), .lit (.int .u32 1747873779), .lit (.int .u32 1955562222), .lit (.int .u32 2024104815), .lit (.int .u32 2227730452), .lit (.int .u32 2361852424), .lit (.int .u32 2428436474), .lit (.int .u32 2756734187), .lit (.int .u32 3204031479), .lit (.int .u32 3329325298)]

/-- 'stanchionlaw03.MacHmacs': WHATEVER THE INPUT: true; the input reads as it did. -/
def macHmacsSpec : ChangeSpec := { name := "macHmacs", fn := fun _ => fun
  | [d1, d2] => { results := [.lit (.bool true)], args := [d1, d2] }
  | _ => none }
def macHmacsRow : OpenClaim := { program := "ytfdmnnbcnaofgaadoor", sum := "4388eadca39c62f7df6644a647bbee24a24f5c696c0c2f6b4d21457d6af5a7d1", func := "stanchion/stanchionlaw03.MacHmacs", spec := "macHmacs", inPlace := ["internal/abi.NoEscape", "internal/bytealg.MakeNoZero"], named := ["stanchion/sha.roundWords"], apart := false, laid := [("stanchion/sha.roundWords", laid_stanchion_sha_roundWords)] }
def MacHmacsSaid : Prop := macHmacsRow.holds Tryd.pinned (OpenSpec.ofChange macHmacsSpec)

/-- ITS FALSE NEIGHBOUR: 'it returns false'. Refute it at one input. -/
def macHmacsWrong : ChangeSpec := { name := "macHmacs", fn := fun _ => fun
  | [d1, d2] => { results := [.lit (.bool false)], args := [d1, d2] }
  | _ => none }
def MacHmacsWrongFalsely : Prop := macHmacsRow.holds Tryd.pinned (OpenSpec.ofChange macHmacsWrong)

/-- 'stanchionlaw03.MacKeys': WHATEVER THE INPUT: true; the input reads as it did. -/
def macKeysSpec : ChangeSpec := { name := "macKeys", fn := fun _ => fun
  | [d1, d2, d3, d4] => { results := [.lit (.bool true)], args := [d1, d2, d3, d4] }
  | _ => none }
def macKeysRow : OpenClaim := { program := "ytfdmnnbcnaofgaadoor", sum := "4388eadca39c62f7df6644a647bbee24a24f5c696c0c2f6b4d21457d6af5a7d1", func := "stanchion/stanchionlaw03.MacKeys", spec := "macKeys", inPlace := ["internal/abi.NoEscape", "internal/bytealg.MakeNoZero"], named := ["stanchion/sha.roundWords"], apart := false, laid := [("stanchion/sha.roundWords", laid_stanchion_sha_roundWords)] }
def MacKeysSaid : Prop := macKeysRow.holds Tryd.pinned (OpenSpec.ofChange macKeysSpec)

/-- ITS FALSE NEIGHBOUR: 'it returns false'. Refute it at one input. -/
def macKeysWrong : ChangeSpec := { name := "macKeys", fn := fun _ => fun
  | [d1, d2, d3, d4] => { results := [.lit (.bool false)], args := [d1, d2, d3, d4] }
  | _ => none }
def MacKeysWrongFalsely : Prop := macKeysRow.holds Tryd.pinned (OpenSpec.ofChange macKeysWrong)

/-- 'stanchionlaw03.MacSeals': WHATEVER THE INPUT: true; the input reads as it did. -/
def macSealsSpec : ChangeSpec := { name := "macSeals", fn := fun _ => fun
  | [d1, d2, d3, d4, d5, d6] => { results := [.lit (.bool true)], args := [d1, d2, d3, d4, d5, d6] }
  | _ => none }
def macSealsRow : OpenClaim := { program := "ytfdmnnbcnaofgaadoor", sum := "4388eadca39c62f7df6644a647bbee24a24f5c696c0c2f6b4d21457d6af5a7d1", func := "stanchion/stanchionlaw03.MacSeals", spec := "macSeals", inPlace := ["internal/abi.NoEscape", "internal/bytealg.MakeNoZero"], named := ["stanchion/sha.roundWords"], apart := false, laid := [("stanchion/sha.roundWords", laid_stanchion_sha_roundWords)] }
def MacSealsSaid : Prop := macSealsRow.holds Tryd.pinned (OpenSpec.ofChange macSealsSpec)

/-- ITS FALSE NEIGHBOUR: 'it returns false'. Refute it at one input. -/
def macSealsWrong : ChangeSpec := { name := "macSeals", fn := fun _ => fun
  | [d1, d2, d3, d4, d5, d6] => { results := [.lit (.bool false)], args := [d1, d2, d3, d4, d5, d6] }
  | _ => none }
def MacSealsWrongFalsely : Prop := macSealsRow.holds Tryd.pinned (OpenSpec.ofChange macSealsWrong)

/-- 'stanchionlaw03.MacOpens': WHATEVER THE INPUT: true; the input reads as it did. -/
def macOpensSpec : ChangeSpec := { name := "macOpens", fn := fun _ => fun
  | [d1, d2, d3] => { results := [.lit (.bool true)], args := [d1, d2, d3] }
  | _ => none }
def macOpensRow : OpenClaim := { program := "ytfdmnnbcnaofgaadoor", sum := "4388eadca39c62f7df6644a647bbee24a24f5c696c0c2f6b4d21457d6af5a7d1", func := "stanchion/stanchionlaw03.MacOpens", spec := "macOpens", inPlace := ["internal/abi.NoEscape", "internal/bytealg.MakeNoZero"], named := ["stanchion/sha.roundWords"], apart := false, laid := [("stanchion/sha.roundWords", laid_stanchion_sha_roundWords)] }
def MacOpensSaid : Prop := macOpensRow.holds Tryd.pinned (OpenSpec.ofChange macOpensSpec)

/-- ITS FALSE NEIGHBOUR: 'it returns false'. Refute it at one input. -/
def macOpensWrong : ChangeSpec := { name := "macOpens", fn := fun _ => fun
  | [d1, d2, d3] => { results := [.lit (.bool false)], args := [d1, d2, d3] }
  | _ => none }
def MacOpensWrongFalsely : Prop := macOpensRow.holds Tryd.pinned (OpenSpec.ofChange macOpensWrong)

/-- 'stanchionlaw03.MacReads': WHATEVER THE INPUT: true; the input reads as it did. -/
def macReadsSpec : ChangeSpec := { name := "macReads", fn := fun _ => fun
  | [d1, d2, d3, d4, d5, d6] => { results := [.lit (.bool true)], args := [d1, d2, d3, d4, d5, d6] }
  | _ => none }
def macReadsRow : OpenClaim := { program := "ytfdmnnbcnaofgaadoor", sum := "4388eadca39c62f7df6644a647bbee24a24f5c696c0c2f6b4d21457d6af5a7d1", func := "stanchion/stanchionlaw03.MacReads", spec := "macReads", inPlace := ["internal/abi.NoEscape", "internal/bytealg.MakeNoZero"], named := ["stanchion/sha.roundWords"], apart := false, laid := [("stanchion/sha.roundWords", laid_stanchion_sha_roundWords)] }
def MacReadsSaid : Prop := macReadsRow.holds Tryd.pinned (OpenSpec.ofChange macReadsSpec)

/-- ITS FALSE NEIGHBOUR: 'it returns false'. Refute it at one input. -/
def macReadsWrong : ChangeSpec := { name := "macReads", fn := fun _ => fun
  | [d1, d2, d3, d4, d5, d6] => { results := [.lit (.bool false)], args := [d1, d2, d3, d4, d5, d6] }
  | _ => none }
def MacReadsWrongFalsely : Prop := macReadsRow.holds Tryd.pinned (OpenSpec.ofChange macReadsWrong)

/-- 'stanchionlaw03.MacZeros': WHATEVER THE INPUT: true; the input reads as it did. -/
def macZerosSpec : ChangeSpec := { name := "macZeros", fn := fun _ => fun
  | [d1, d2, d3] => { results := [.lit (.bool true)], args := [d1, d2, d3] }
  | _ => none }
def macZerosRow : OpenClaim := { program := "ytfdmnnbcnaofgaadoor", sum := "4388eadca39c62f7df6644a647bbee24a24f5c696c0c2f6b4d21457d6af5a7d1", func := "stanchion/stanchionlaw03.MacZeros", spec := "macZeros", inPlace := ["internal/abi.NoEscape", "internal/bytealg.MakeNoZero"], named := ["stanchion/sha.roundWords"], apart := false, laid := [("stanchion/sha.roundWords", laid_stanchion_sha_roundWords)] }
def MacZerosSaid : Prop := macZerosRow.holds Tryd.pinned (OpenSpec.ofChange macZerosSpec)

/-- ITS FALSE NEIGHBOUR: 'it returns false'. Refute it at one input. -/
def macZerosWrong : ChangeSpec := { name := "macZeros", fn := fun _ => fun
  | [d1, d2, d3] => { results := [.lit (.bool false)], args := [d1, d2, d3] }
  | _ => none }
def MacZerosWrongFalsely : Prop := macZerosRow.holds Tryd.pinned (OpenSpec.ofChange macZerosWrong)

/-- 'stanchionlaw03.MacTurns': WHATEVER THE INPUT: true; the input reads as it did. -/
def macTurnsSpec : ChangeSpec := { name := "macTurns", fn := fun _ => fun
  | [d1, d2, d3, d4, d5, d6] => { results := [.lit (.bool true)], args := [d1, d2, d3, d4, d5, d6] }
  | _ => none }
def macTurnsRow : OpenClaim := { program := "ytfdmnnbcnaofgaadoor", sum := "4388eadca39c62f7df6644a647bbee24a24f5c696c0c2f6b4d21457d6af5a7d1", func := "stanchion/stanchionlaw03.MacTurns", spec := "macTurns", inPlace := ["internal/abi.NoEscape", "internal/bytealg.MakeNoZero"], named := ["stanchion/sha.roundWords"], apart := false, laid := [("stanchion/sha.roundWords", laid_stanchion_sha_roundWords)] }
def MacTurnsSaid : Prop := macTurnsRow.holds Tryd.pinned (OpenSpec.ofChange macTurnsSpec)

/-- ITS FALSE NEIGHBOUR: 'it returns false'. Refute it at one input. -/
def macTurnsWrong : ChangeSpec := { name := "macTurns", fn := fun _ => fun
  | [d1, d2, d3, d4, d5, d6] => { results := [.lit (.bool false)], args := [d1, d2, d3, d4, d5, d6] }
  | _ => none }
def MacTurnsWrongFalsely : Prop := macTurnsRow.holds Tryd.pinned (OpenSpec.ofChange macTurnsWrong)

/- THE SECOND FORM. 'bulk': how many values and letters a reading holds, each counted each time it is reached (what is shared counts as often as it is met; a slice's spare places count too). A statement '..UptoSaid' is the law's where the arguments, and the package variables that the reading takes, are together of bulk at most 1048576: NARROWER than '..Said'. Prove '..Said' where nothing that the law and all that it calls make is longer than what came in: it says more and counts as full. Else prove '..UptoSaid'. A law counts once. -/
mutual
def uptoBulk {H : Type} : DataW H → Nat
  | .lit (.string bytes) => bytes.length + 1
  | .lit _ => 1
  | .nil => 1
  | .ptr d => uptoBulk d + 1
  | .slice elems spare => uptoBulkAll elems + uptoBulkAll spare + 1
  | .agg parts => uptoBulkAll parts + 1
  | .iface _ d => uptoBulk d + 1
  | .map entries => uptoBulkEntries entries + 1
  | .held _ => 1
def uptoBulkAll {H : Type} : List (DataW H) → Nat
  | [] => 0
  | d :: r => uptoBulk d + uptoBulkAll r
def uptoBulkEntries {H : Type} : List (Lit × DataW H) → Nat
  | [] => 0
  | x :: r => uptoBulkEntry x + uptoBulkEntries r
def uptoBulkEntry {H : Type} : Lit × DataW H → Nat
  | (.string bytes, d) => bytes.length + uptoBulk d + 1
  | (_, d) => uptoBulk d + 1
 end
def uptoSmall : (H : Type) → List (DataW H) → Bool := fun _ ds => decide (uptoBulkAll ds ≤ 1048576)
def OpenSpec.upto (s : _root_.Go.ChangeSpec) : _root_.Go.OpenSpec := { _root_.Go.OpenSpec.ofChange s with cond := some uptoSmall }

/-- 'stanchionlaw03.MacHmacs', WHERE WHAT IT READS IS OF BULK AT MOST 1048576: true; the input reads as it did. -/
def macHmacsUptoRow : OpenClaim := { program := "ytfdmnnbcnaofgaadoor", sum := "4388eadca39c62f7df6644a647bbee24a24f5c696c0c2f6b4d21457d6af5a7d1", func := "stanchion/stanchionlaw03.MacHmacs", spec := "macHmacs", inPlace := ["internal/abi.NoEscape", "internal/bytealg.MakeNoZero"], named := ["stanchion/sha.roundWords"], apart := false, laid := [("stanchion/sha.roundWords", laid_stanchion_sha_roundWords)], narrowed := true }
def MacHmacsUptoSaid : Prop := macHmacsUptoRow.holds Tryd.pinned (OpenSpec.upto macHmacsSpec)

/-- 'stanchionlaw03.MacKeys', WHERE WHAT IT READS IS OF BULK AT MOST 1048576: true; the input reads as it did. -/
def macKeysUptoRow : OpenClaim := { program := "ytfdmnnbcnaofgaadoor", sum := "4388eadca39c62f7df6644a647bbee24a24f5c696c0c2f6b4d21457d6af5a7d1", func := "stanchion/stanchionlaw03.MacKeys", spec := "macKeys", inPlace := ["internal/abi.NoEscape", "internal/bytealg.MakeNoZero"], named := ["stanchion/sha.roundWords"], apart := false, laid := [("stanchion/sha.roundWords", laid_stanchion_sha_roundWords)], narrowed := true }
def MacKeysUptoSaid : Prop := macKeysUptoRow.holds Tryd.pinned (OpenSpec.upto macKeysSpec)

/-- 'stanchionlaw03.MacSeals', WHERE WHAT IT READS IS OF BULK AT MOST 1048576: true; the input reads as it did. -/
def macSealsUptoRow : OpenClaim := { program := "ytfdmnnbcnaofgaadoor", sum := "4388eadca39c62f7df6644a647bbee24a24f5c696c0c2f6b4d21457d6af5a7d1", func := "stanchion/stanchionlaw03.MacSeals", spec := "macSeals", inPlace := ["internal/abi.NoEscape", "internal/bytealg.MakeNoZero"], named := ["stanchion/sha.roundWords"], apart := false, laid := [("stanchion/sha.roundWords", laid_stanchion_sha_roundWords)], narrowed := true }
def MacSealsUptoSaid : Prop := macSealsUptoRow.holds Tryd.pinned (OpenSpec.upto macSealsSpec)

/-- 'stanchionlaw03.MacOpens', WHERE WHAT IT READS IS OF BULK AT MOST 1048576: true; the input reads as it did. -/
def macOpensUptoRow : OpenClaim := { program := "ytfdmnnbcnaofgaadoor", sum := "4388eadca39c62f7df6644a647bbee24a24f5c696c0c2f6b4d21457d6af5a7d1", func := "stanchion/stanchionlaw03.MacOpens", spec := "macOpens", inPlace := ["internal/abi.NoEscape", "internal/bytealg.MakeNoZero"], named := ["stanchion/sha.roundWords"], apart := false, laid := [("stanchion/sha.roundWords", laid_stanchion_sha_roundWords)], narrowed := true }
def MacOpensUptoSaid : Prop := macOpensUptoRow.holds Tryd.pinned (OpenSpec.upto macOpensSpec)

/-- 'stanchionlaw03.MacReads', WHERE WHAT IT READS IS OF BULK AT MOST 1048576: true; the input reads as it did. -/
def macReadsUptoRow : OpenClaim := { program := "ytfdmnnbcnaofgaadoor", sum := "4388eadca39c62f7df6644a647bbee24a24f5c696c0c2f6b4d21457d6af5a7d1", func := "stanchion/stanchionlaw03.MacReads", spec := "macReads", inPlace := ["internal/abi.NoEscape", "internal/bytealg.MakeNoZero"], named := ["stanchion/sha.roundWords"], apart := false, laid := [("stanchion/sha.roundWords", laid_stanchion_sha_roundWords)], narrowed := true }
def MacReadsUptoSaid : Prop := macReadsUptoRow.holds Tryd.pinned (OpenSpec.upto macReadsSpec)

/-- 'stanchionlaw03.MacZeros', WHERE WHAT IT READS IS OF BULK AT MOST 1048576: true; the input reads as it did. -/
def macZerosUptoRow : OpenClaim := { program := "ytfdmnnbcnaofgaadoor", sum := "4388eadca39c62f7df6644a647bbee24a24f5c696c0c2f6b4d21457d6af5a7d1", func := "stanchion/stanchionlaw03.MacZeros", spec := "macZeros", inPlace := ["internal/abi.NoEscape", "internal/bytealg.MakeNoZero"], named := ["stanchion/sha.roundWords"], apart := false, laid := [("stanchion/sha.roundWords", laid_stanchion_sha_roundWords)], narrowed := true }
def MacZerosUptoSaid : Prop := macZerosUptoRow.holds Tryd.pinned (OpenSpec.upto macZerosSpec)

/-- 'stanchionlaw03.MacTurns', WHERE WHAT IT READS IS OF BULK AT MOST 1048576: true; the input reads as it did. -/
def macTurnsUptoRow : OpenClaim := { program := "ytfdmnnbcnaofgaadoor", sum := "4388eadca39c62f7df6644a647bbee24a24f5c696c0c2f6b4d21457d6af5a7d1", func := "stanchion/stanchionlaw03.MacTurns", spec := "macTurns", inPlace := ["internal/abi.NoEscape", "internal/bytealg.MakeNoZero"], named := ["stanchion/sha.roundWords"], apart := false, laid := [("stanchion/sha.roundWords", laid_stanchion_sha_roundWords)], narrowed := true }
def MacTurnsUptoSaid : Prop := macTurnsUptoRow.holds Tryd.pinned (OpenSpec.upto macTurnsSpec)

end Rows
end Go.Proofs.YtfdmnnbcnaofgaaDoor
