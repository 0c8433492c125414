/-
  DERIVED. GIVEN WITH THE SEED: THE CARDS: each row of YtclnbggehefbeaaDoorRows.lean that lists a variable, with what it lists TIED to the program's text (the seventh form; the later family's looks); each row that meets fmt, with fmt's text TOLD by the authors' own Lean function (tested against real Go, not proved from fmt's source: count such statements apart). THE CARD IS WHAT COUNTS. Prove the row's statement (the work); the ties are given (YtclnbggehefbeaaDoorTie.lean); close each card by the builder's one call (the guide's Derived/Test/ToyasCard.lean, 'card_holds'). Laid BY PROGRAM, IN A SANDBOX (cutbox-door.mjs). By AI agents, Wed Nov 11 2026. No macro, syntax, notation, axiom, sorry.
-/
import Derived.Test.YtclnbggehefbeaaDoorRows
import GoSem.ClaimSeven
namespace Go.Proofs.YtclnbggehefbeaaDoor
namespace Rows

/-- THE TIED CARD OF 'stanchionlaw09.PathAnswers'. -/
def pathAnswersCard : Claim7 := { stood := { row := pathAnswersRow, standIns := [], harness := (true, "503600235dcc6d74b31b3b4bfd2b9af9264520354a389983ffba7912f054664e"), looks := false }, kinds := [], alts := [], laidByText := true, laidKinds := [.data, .data, .data, .data, .pinned], laidTests := true, laidLooks := .later }
def PathAnswersCardSaid : Prop := Claim7.holds Tryd.pinned (.plain (OpenSpec.ofChange pathAnswersSpec)) pathAnswersCard

/-- THE TIED CARD OF 'stanchionlaw09.PathJoins'. -/
def pathJoinsCard : Claim7 := { stood := { row := pathJoinsRow, standIns := [], harness := (true, "503600235dcc6d74b31b3b4bfd2b9af9264520354a389983ffba7912f054664e"), looks := false }, kinds := [], alts := [], laidByText := true, laidKinds := [.data, .data, .data, .data, .pinned], laidTests := true, laidLooks := .later }
def PathJoinsCardSaid : Prop := Claim7.holds Tryd.pinned (.plain (OpenSpec.ofChange pathJoinsSpec)) pathJoinsCard

/-- THE TIED CARD OF 'stanchionlaw09.PathRound'. -/
def pathRoundCard : Claim7 := { stood := { row := pathRoundRow, standIns := [], harness := (true, "503600235dcc6d74b31b3b4bfd2b9af9264520354a389983ffba7912f054664e"), looks := false }, kinds := [], alts := [], laidByText := true, laidKinds := [.data, .data, .data, .data, .pinned], laidTests := true, laidLooks := .later }
def PathRoundCardSaid : Prop := Claim7.holds Tryd.pinned (.plain (OpenSpec.ofChange pathRoundSpec)) pathRoundCard

/-- THE TIED CARD OF 'stanchionlaw09.PathNumbers'. -/
def pathNumbersCard : Claim7 := { stood := { row := pathNumbersRow, standIns := [], harness := (true, "503600235dcc6d74b31b3b4bfd2b9af9264520354a389983ffba7912f054664e"), looks := false }, kinds := [], alts := [], laidByText := true, laidKinds := [.data, .data, .data, .data, .pinned], laidTests := true, laidLooks := .later }
def PathNumbersCardSaid : Prop := Claim7.holds Tryd.pinned (.plain (OpenSpec.ofChange pathNumbersSpec)) pathNumbersCard

/-- THE TIED CARD OF 'stanchionlaw09.PathWithin'. -/
def pathWithinCard : Claim7 := { stood := { row := pathWithinRow, standIns := [], harness := (true, "503600235dcc6d74b31b3b4bfd2b9af9264520354a389983ffba7912f054664e"), looks := false }, kinds := [], alts := [], laidByText := true, laidKinds := [.data, .data, .data, .data, .pinned], laidTests := true, laidLooks := .later }
def PathWithinCardSaid : Prop := Claim7.holds Tryd.pinned (.plain (OpenSpec.ofChange pathWithinSpec)) pathWithinCard

/-- THE TIED CARD OF 'stanchionlaw09.PathBounds'. -/
def pathBoundsCard : Claim7 := { stood := { row := pathBoundsRow, standIns := [], harness := (true, "503600235dcc6d74b31b3b4bfd2b9af9264520354a389983ffba7912f054664e"), looks := false }, kinds := [], alts := [], laidByText := true, laidKinds := [.data, .data, .data, .data, .pinned], laidTests := true, laidLooks := .later }
def PathBoundsCardSaid : Prop := Claim7.holds Tryd.pinned (.plain (OpenSpec.ofChange pathBoundsSpec)) pathBoundsCard

/-- THE SECOND FORM's CARD OF 'stanchionlaw09.PathAnswers'. -/
def pathAnswersUptoCard : Claim7 := { stood := { row := pathAnswersUptoRow, standIns := [], harness := (true, "503600235dcc6d74b31b3b4bfd2b9af9264520354a389983ffba7912f054664e"), looks := false }, kinds := [], alts := [], laidByText := true, laidKinds := [.data, .data, .data, .data, .pinned], laidTests := true, laidLooks := .later }
def PathAnswersUptoCardSaid : Prop := Claim7.holds Tryd.pinned (.plain (OpenSpec.upto pathAnswersSpec)) pathAnswersUptoCard

/-- THE SECOND FORM's CARD OF 'stanchionlaw09.PathJoins'. -/
def pathJoinsUptoCard : Claim7 := { stood := { row := pathJoinsUptoRow, standIns := [], harness := (true, "503600235dcc6d74b31b3b4bfd2b9af9264520354a389983ffba7912f054664e"), looks := false }, kinds := [], alts := [], laidByText := true, laidKinds := [.data, .data, .data, .data, .pinned], laidTests := true, laidLooks := .later }
def PathJoinsUptoCardSaid : Prop := Claim7.holds Tryd.pinned (.plain (OpenSpec.upto pathJoinsSpec)) pathJoinsUptoCard

/-- THE SECOND FORM's CARD OF 'stanchionlaw09.PathRound'. -/
def pathRoundUptoCard : Claim7 := { stood := { row := pathRoundUptoRow, standIns := [], harness := (true, "503600235dcc6d74b31b3b4bfd2b9af9264520354a389983ffba7912f054664e"), looks := false }, kinds := [], alts := [], laidByText := true, laidKinds := [.data, .data, .data, .data, .pinned], laidTests := true, laidLooks := .later }
def PathRoundUptoCardSaid : Prop := Claim7.holds Tryd.pinned (.plain (OpenSpec.upto pathRoundSpec)) pathRoundUptoCard

/-- THE SECOND FORM's CARD OF 'stanchionlaw09.PathNumbers'. -/
def pathNumbersUptoCard : Claim7 := { stood := { row := pathNumbersUptoRow, standIns := [], harness := (true, "503600235dcc6d74b31b3b4bfd2b9af9264520354a389983ffba7912f054664e"), looks := false }, kinds := [], alts := [], laidByText := true, laidKinds := [.data, .data, .data, .data, .pinned], laidTests := true, laidLooks := .later }
def PathNumbersUptoCardSaid : Prop := Claim7.holds Tryd.pinned (.plain (OpenSpec.upto pathNumbersSpec)) pathNumbersUptoCard

/-- THE SECOND FORM's CARD OF 'stanchionlaw09.PathWithin'. -/
def pathWithinUptoCard : Claim7 := { stood := { row := pathWithinUptoRow, standIns := [], harness := (true, "503600235dcc6d74b31b3b4bfd2b9af9264520354a389983ffba7912f054664e"), looks := false }, kinds := [], alts := [], laidByText := true, laidKinds := [.data, .data, .data, .data, .pinned], laidTests := true, laidLooks := .later }
def PathWithinUptoCardSaid : Prop := Claim7.holds Tryd.pinned (.plain (OpenSpec.upto pathWithinSpec)) pathWithinUptoCard

/-- THE SECOND FORM's CARD OF 'stanchionlaw09.PathBounds'. -/
def pathBoundsUptoCard : Claim7 := { stood := { row := pathBoundsUptoRow, standIns := [], harness := (true, "503600235dcc6d74b31b3b4bfd2b9af9264520354a389983ffba7912f054664e"), looks := false }, kinds := [], alts := [], laidByText := true, laidKinds := [.data, .data, .data, .data, .pinned], laidTests := true, laidLooks := .later }
def PathBoundsUptoCardSaid : Prop := Claim7.holds Tryd.pinned (.plain (OpenSpec.upto pathBoundsSpec)) pathBoundsUptoCard
end Rows
end Go.Proofs.YtclnbggehefbeaaDoor
