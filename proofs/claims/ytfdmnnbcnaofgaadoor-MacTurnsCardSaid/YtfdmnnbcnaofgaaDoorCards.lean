/-
  DERIVED. GIVEN WITH THE SEED: THE CARDS: each row of YtfdmnnbcnaofgaaDoorRows.lean that lists a variable, with what it lists TIED to the program's text (the seventh form; the later family's looks); each row that meets fmt, with fmt's text TOLD by the authors' own Lean function (tested against real Go, not proved from fmt's source: count such statements apart). THE CARD IS WHAT COUNTS. Prove the row's statement (the work); the ties are given (YtfdmnnbcnaofgaaDoorTie.lean); close each card by the builder's one call (the guide's Derived/Test/ToyasCard.lean, 'card_holds'). Laid BY PROGRAM, IN A SANDBOX (cutbox-door.mjs). By AI agents, Wed Nov 11 2026. No macro, syntax, notation, axiom, sorry.
-/
import Derived.Test.YtfdmnnbcnaofgaaDoorRows
import GoSem.ClaimSeven
namespace Go.Proofs.YtfdmnnbcnaofgaaDoor
namespace Rows

/-- THE TIED CARD OF 'stanchionlaw03.MacHmacs'. -/
def macHmacsCard : Claim7 := { stood := { row := macHmacsRow, standIns := [], harness := (true, "c929d0bef4ba9460eb62f626ae0cf01aa6889be0db929fdf6c6e251efd298e4a"), looks := false }, kinds := [], alts := [], laidByText := true, laidKinds := [.data], laidTests := true, laidLooks := .later }
def MacHmacsCardSaid : Prop := Claim7.holds Tryd.pinned (.plain (OpenSpec.ofChange macHmacsSpec)) macHmacsCard

/-- THE TIED CARD OF 'stanchionlaw03.MacKeys'. -/
def macKeysCard : Claim7 := { stood := { row := macKeysRow, standIns := [], harness := (true, "c929d0bef4ba9460eb62f626ae0cf01aa6889be0db929fdf6c6e251efd298e4a"), looks := false }, kinds := [], alts := [], laidByText := true, laidKinds := [.data], laidTests := true, laidLooks := .later }
def MacKeysCardSaid : Prop := Claim7.holds Tryd.pinned (.plain (OpenSpec.ofChange macKeysSpec)) macKeysCard

/-- THE TIED CARD OF 'stanchionlaw03.MacSeals'. -/
def macSealsCard : Claim7 := { stood := { row := macSealsRow, standIns := [], harness := (true, "c929d0bef4ba9460eb62f626ae0cf01aa6889be0db929fdf6c6e251efd298e4a"), looks := false }, kinds := [], alts := [], laidByText := true, laidKinds := [.data], laidTests := true, laidLooks := .later }
def MacSealsCardSaid : Prop := Claim7.holds Tryd.pinned (.plain (OpenSpec.ofChange macSealsSpec)) macSealsCard

/-- THE TIED CARD OF 'stanchionlaw03.MacOpens'. -/
def macOpensCard : Claim7 := { stood := { row := macOpensRow, standIns := [], harness := (true, "c929d0bef4ba9460eb62f626ae0cf01aa6889be0db929fdf6c6e251efd298e4a"), looks := false }, kinds := [], alts := [], laidByText := true, laidKinds := [.data], laidTests := true, laidLooks := .later }
def MacOpensCardSaid : Prop := Claim7.holds Tryd.pinned (.plain (OpenSpec.ofChange macOpensSpec)) macOpensCard

/-- THE TIED CARD OF 'stanchionlaw03.MacReads'. -/
def macReadsCard : Claim7 := { stood := { row := macReadsRow, standIns := [], harness := (true, "c929d0bef4ba9460eb62f626ae0cf01aa6889be0db929fdf6c6e251efd298e4a"), looks := false }, kinds := [], alts := [], laidByText := true, laidKinds := [.data], laidTests := true, laidLooks := .later }
def MacReadsCardSaid : Prop := Claim7.holds Tryd.pinned (.plain (OpenSpec.ofChange macReadsSpec)) macReadsCard

/-- THE TIED CARD OF 'stanchionlaw03.MacZeros'. -/
def macZerosCard : Claim7 := { stood := { row := macZerosRow, standIns := [], harness := (true, "c929d0bef4ba9460eb62f626ae0cf01aa6889be0db929fdf6c6e251efd298e4a"), looks := false }, kinds := [], alts := [], laidByText := true, laidKinds := [.data], laidTests := true, laidLooks := .later }
def MacZerosCardSaid : Prop := Claim7.holds Tryd.pinned (.plain (OpenSpec.ofChange macZerosSpec)) macZerosCard

/-- THE TIED CARD OF 'stanchionlaw03.MacTurns'. -/
def macTurnsCard : Claim7 := { stood := { row := macTurnsRow, standIns := [], harness := (true, "c929d0bef4ba9460eb62f626ae0cf01aa6889be0db929fdf6c6e251efd298e4a"), looks := false }, kinds := [], alts := [], laidByText := true, laidKinds := [.data], laidTests := true, laidLooks := .later }
def MacTurnsCardSaid : Prop := Claim7.holds Tryd.pinned (.plain (OpenSpec.ofChange macTurnsSpec)) macTurnsCard

/-- THE SECOND FORM's CARD OF 'stanchionlaw03.MacHmacs'. -/
def macHmacsUptoCard : Claim7 := { stood := { row := macHmacsUptoRow, standIns := [], harness := (true, "c929d0bef4ba9460eb62f626ae0cf01aa6889be0db929fdf6c6e251efd298e4a"), looks := false }, kinds := [], alts := [], laidByText := true, laidKinds := [.data], laidTests := true, laidLooks := .later }
def MacHmacsUptoCardSaid : Prop := Claim7.holds Tryd.pinned (.plain (OpenSpec.upto macHmacsSpec)) macHmacsUptoCard

/-- THE SECOND FORM's CARD OF 'stanchionlaw03.MacKeys'. -/
def macKeysUptoCard : Claim7 := { stood := { row := macKeysUptoRow, standIns := [], harness := (true, "c929d0bef4ba9460eb62f626ae0cf01aa6889be0db929fdf6c6e251efd298e4a"), looks := false }, kinds := [], alts := [], laidByText := true, laidKinds := [.data], laidTests := true, laidLooks := .later }
def MacKeysUptoCardSaid : Prop := Claim7.holds Tryd.pinned (.plain (OpenSpec.upto macKeysSpec)) macKeysUptoCard

/-- THE SECOND FORM's CARD OF 'stanchionlaw03.MacSeals'. -/
def macSealsUptoCard : Claim7 := { stood := { row := macSealsUptoRow, standIns := [], harness := (true, "c929d0bef4ba9460eb62f626ae0cf01aa6889be0db929fdf6c6e251efd298e4a"), looks := false }, kinds := [], alts := [], laidByText := true, laidKinds := [.data], laidTests := true, laidLooks := .later }
def MacSealsUptoCardSaid : Prop := Claim7.holds Tryd.pinned (.plain (OpenSpec.upto macSealsSpec)) macSealsUptoCard

/-- THE SECOND FORM's CARD OF 'stanchionlaw03.MacOpens'. -/
def macOpensUptoCard : Claim7 := { stood := { row := macOpensUptoRow, standIns := [], harness := (true, "c929d0bef4ba9460eb62f626ae0cf01aa6889be0db929fdf6c6e251efd298e4a"), looks := false }, kinds := [], alts := [], laidByText := true, laidKinds := [.data], laidTests := true, laidLooks := .later }
def MacOpensUptoCardSaid : Prop := Claim7.holds Tryd.pinned (.plain (OpenSpec.upto macOpensSpec)) macOpensUptoCard

/-- THE SECOND FORM's CARD OF 'stanchionlaw03.MacReads'. -/
def macReadsUptoCard : Claim7 := { stood := { row := macReadsUptoRow, standIns := [], harness := (true, "c929d0bef4ba9460eb62f626ae0cf01aa6889be0db929fdf6c6e251efd298e4a"), looks := false }, kinds := [], alts := [], laidByText := true, laidKinds := [.data], laidTests := true, laidLooks := .later }
def MacReadsUptoCardSaid : Prop := Claim7.holds Tryd.pinned (.plain (OpenSpec.upto macReadsSpec)) macReadsUptoCard

/-- THE SECOND FORM's CARD OF 'stanchionlaw03.MacZeros'. -/
def macZerosUptoCard : Claim7 := { stood := { row := macZerosUptoRow, standIns := [], harness := (true, "c929d0bef4ba9460eb62f626ae0cf01aa6889be0db929fdf6c6e251efd298e4a"), looks := false }, kinds := [], alts := [], laidByText := true, laidKinds := [.data], laidTests := true, laidLooks := .later }
def MacZerosUptoCardSaid : Prop := Claim7.holds Tryd.pinned (.plain (OpenSpec.upto macZerosSpec)) macZerosUptoCard

/-- THE SECOND FORM's CARD OF 'stanchionlaw03.MacTurns'. -/
def macTurnsUptoCard : Claim7 := { stood := { row := macTurnsUptoRow, standIns := [], harness := (true, "c929d0bef4ba9460eb62f626ae0cf01aa6889be0db929fdf6c6e251efd298e4a"), looks := false }, kinds := [], alts := [], laidByText := true, laidKinds := [.data], laidTests := true, laidLooks := .later }
def MacTurnsUptoCardSaid : Prop := Claim7.holds Tryd.pinned (.plain (OpenSpec.upto macTurnsSpec)) macTurnsUptoCard
end Rows
end Go.Proofs.YtfdmnnbcnaofgaaDoor
