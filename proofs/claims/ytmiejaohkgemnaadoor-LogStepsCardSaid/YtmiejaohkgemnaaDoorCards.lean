/-
  DERIVED. GIVEN WITH THE SEED: THE CARDS: each row of YtmiejaohkgemnaaDoorRows.lean that lists a variable, with what it lists TIED to the program's text (the seventh form; the later family's looks); each row that meets fmt, with fmt's text TOLD by the authors' own Lean function (tested against real Go, not proved from fmt's source: count such statements apart). THE CARD IS WHAT COUNTS. Prove the row's statement (the work); the ties are given (YtmiejaohkgemnaaDoorTie.lean); close each card by the builder's one call (the guide's Derived/Test/ToyasCard.lean, 'card_holds'). Laid BY PROGRAM, IN A SANDBOX (cutbox-door.mjs). By AI agents, Wed Nov 11 2026. No macro, syntax, notation, axiom, sorry.
-/
import Derived.Test.YtmiejaohkgemnaaDoorRows
import GoSem.ClaimSeven
namespace Go.Proofs.YtmiejaohkgemnaaDoor
namespace Rows

/-- THE TIED CARD OF 'stanchionlaw05.LogSteps'. -/
def logStepsCard : Claim7 := { stood := { row := logStepsRow, standIns := [], harness := (true, "749ef08049b09842f8b1b445cd831a8dd8fb6b8a415e986d8b3662eefb929182"), looks := false }, kinds := [], alts := [], laidByText := true, laidKinds := [.data], laidTests := true, laidLooks := .later }
def LogStepsCardSaid : Prop := Claim7.holds Tryd.pinned (.plain (OpenSpec.ofChange logStepsSpec)) logStepsCard

/-- THE TIED CARD OF 'stanchionlaw05.LogOpens'. -/
def logOpensCard : Claim7 := { stood := { row := logOpensRow, standIns := [], harness := (true, "749ef08049b09842f8b1b445cd831a8dd8fb6b8a415e986d8b3662eefb929182"), looks := false }, kinds := [], alts := [], laidByText := true, laidKinds := [.data], laidTests := true, laidLooks := .later }
def LogOpensCardSaid : Prop := Claim7.holds Tryd.pinned (.plain (OpenSpec.ofChange logOpensSpec)) logOpensCard

/-- THE TIED CARD OF 'stanchionlaw05.LogPrefix'. -/
def logPrefixCard : Claim7 := { stood := { row := logPrefixRow, standIns := [], harness := (true, "749ef08049b09842f8b1b445cd831a8dd8fb6b8a415e986d8b3662eefb929182"), looks := false }, kinds := [], alts := [], laidByText := true, laidKinds := [.data], laidTests := true, laidLooks := .later }
def LogPrefixCardSaid : Prop := Claim7.holds Tryd.pinned (.plain (OpenSpec.ofChange logPrefixSpec)) logPrefixCard

/-- THE TIED CARD OF 'stanchionlaw05.LogLays'. -/
def logLaysCard : Claim7 := { stood := { row := logLaysRow, standIns := [], harness := (true, "749ef08049b09842f8b1b445cd831a8dd8fb6b8a415e986d8b3662eefb929182"), looks := false }, kinds := [], alts := [], laidByText := true, laidKinds := [.data], laidTests := true, laidLooks := .later }
def LogLaysCardSaid : Prop := Claim7.holds Tryd.pinned (.plain (OpenSpec.ofChange logLaysSpec)) logLaysCard

/-- THE TIED CARD OF 'stanchionlaw05.LogMemory'. -/
def logMemoryCard : Claim7 := { stood := { row := logMemoryRow, standIns := [], harness := (true, "749ef08049b09842f8b1b445cd831a8dd8fb6b8a415e986d8b3662eefb929182"), looks := false }, kinds := [], alts := [], laidByText := true, laidKinds := [.data], laidTests := true, laidLooks := .later }
def LogMemoryCardSaid : Prop := Claim7.holds Tryd.pinned (.plain (OpenSpec.ofChange logMemorySpec)) logMemoryCard

/-- THE TIED CARD OF 'stanchionlaw05.LogOne'. -/
def logOneCard : Claim7 := { stood := { row := logOneRow, standIns := [], harness := (true, "749ef08049b09842f8b1b445cd831a8dd8fb6b8a415e986d8b3662eefb929182"), looks := false }, kinds := [], alts := [], laidByText := true, laidKinds := [.data], laidTests := true, laidLooks := .later }
def LogOneCardSaid : Prop := Claim7.holds Tryd.pinned (.plain (OpenSpec.ofChange logOneSpec)) logOneCard

/-- THE TIED CARD OF 'stanchionlaw05.LogAgain'. -/
def logAgainCard : Claim7 := { stood := { row := logAgainRow, standIns := [], harness := (true, "749ef08049b09842f8b1b445cd831a8dd8fb6b8a415e986d8b3662eefb929182"), looks := false }, kinds := [], alts := [], laidByText := true, laidKinds := [.data], laidTests := true, laidLooks := .later }
def LogAgainCardSaid : Prop := Claim7.holds Tryd.pinned (.plain (OpenSpec.ofChange logAgainSpec)) logAgainCard

/-- THE SECOND FORM's CARD OF 'stanchionlaw05.LogSteps'. -/
def logStepsUptoCard : Claim7 := { stood := { row := logStepsUptoRow, standIns := [], harness := (true, "749ef08049b09842f8b1b445cd831a8dd8fb6b8a415e986d8b3662eefb929182"), looks := false }, kinds := [], alts := [], laidByText := true, laidKinds := [.data], laidTests := true, laidLooks := .later }
def LogStepsUptoCardSaid : Prop := Claim7.holds Tryd.pinned (.plain (OpenSpec.upto logStepsSpec)) logStepsUptoCard

/-- THE SECOND FORM's CARD OF 'stanchionlaw05.LogOpens'. -/
def logOpensUptoCard : Claim7 := { stood := { row := logOpensUptoRow, standIns := [], harness := (true, "749ef08049b09842f8b1b445cd831a8dd8fb6b8a415e986d8b3662eefb929182"), looks := false }, kinds := [], alts := [], laidByText := true, laidKinds := [.data], laidTests := true, laidLooks := .later }
def LogOpensUptoCardSaid : Prop := Claim7.holds Tryd.pinned (.plain (OpenSpec.upto logOpensSpec)) logOpensUptoCard

/-- THE SECOND FORM's CARD OF 'stanchionlaw05.LogPrefix'. -/
def logPrefixUptoCard : Claim7 := { stood := { row := logPrefixUptoRow, standIns := [], harness := (true, "749ef08049b09842f8b1b445cd831a8dd8fb6b8a415e986d8b3662eefb929182"), looks := false }, kinds := [], alts := [], laidByText := true, laidKinds := [.data], laidTests := true, laidLooks := .later }
def LogPrefixUptoCardSaid : Prop := Claim7.holds Tryd.pinned (.plain (OpenSpec.upto logPrefixSpec)) logPrefixUptoCard

/-- THE SECOND FORM's CARD OF 'stanchionlaw05.LogLays'. -/
def logLaysUptoCard : Claim7 := { stood := { row := logLaysUptoRow, standIns := [], harness := (true, "749ef08049b09842f8b1b445cd831a8dd8fb6b8a415e986d8b3662eefb929182"), looks := false }, kinds := [], alts := [], laidByText := true, laidKinds := [.data], laidTests := true, laidLooks := .later }
def LogLaysUptoCardSaid : Prop := Claim7.holds Tryd.pinned (.plain (OpenSpec.upto logLaysSpec)) logLaysUptoCard

/-- THE SECOND FORM's CARD OF 'stanchionlaw05.LogMemory'. -/
def logMemoryUptoCard : Claim7 := { stood := { row := logMemoryUptoRow, standIns := [], harness := (true, "749ef08049b09842f8b1b445cd831a8dd8fb6b8a415e986d8b3662eefb929182"), looks := false }, kinds := [], alts := [], laidByText := true, laidKinds := [.data], laidTests := true, laidLooks := .later }
def LogMemoryUptoCardSaid : Prop := Claim7.holds Tryd.pinned (.plain (OpenSpec.upto logMemorySpec)) logMemoryUptoCard

/-- THE SECOND FORM's CARD OF 'stanchionlaw05.LogOne'. -/
def logOneUptoCard : Claim7 := { stood := { row := logOneUptoRow, standIns := [], harness := (true, "749ef08049b09842f8b1b445cd831a8dd8fb6b8a415e986d8b3662eefb929182"), looks := false }, kinds := [], alts := [], laidByText := true, laidKinds := [.data], laidTests := true, laidLooks := .later }
def LogOneUptoCardSaid : Prop := Claim7.holds Tryd.pinned (.plain (OpenSpec.upto logOneSpec)) logOneUptoCard

/-- THE SECOND FORM's CARD OF 'stanchionlaw05.LogAgain'. -/
def logAgainUptoCard : Claim7 := { stood := { row := logAgainUptoRow, standIns := [], harness := (true, "749ef08049b09842f8b1b445cd831a8dd8fb6b8a415e986d8b3662eefb929182"), looks := false }, kinds := [], alts := [], laidByText := true, laidKinds := [.data], laidTests := true, laidLooks := .later }
def LogAgainUptoCardSaid : Prop := Claim7.holds Tryd.pinned (.plain (OpenSpec.upto logAgainSpec)) logAgainUptoCard
end Rows
end Go.Proofs.YtmiejaohkgemnaaDoor
