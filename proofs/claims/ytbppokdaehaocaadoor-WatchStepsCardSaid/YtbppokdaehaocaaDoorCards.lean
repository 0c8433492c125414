/-
  DERIVED. GIVEN WITH THE SEED: THE CARDS: each row of YtbppokdaehaocaaDoorRows.lean that lists a variable, with what it lists TIED to the program's text (the seventh form; the later family's looks); each row that meets fmt, with fmt's text TOLD by the authors' own Lean function (tested against real Go, not proved from fmt's source: count such statements apart). THE CARD IS WHAT COUNTS. Prove the row's statement (the work); the ties are given (YtbppokdaehaocaaDoorTie.lean); close each card by the builder's one call (the guide's Derived/Test/ToyasCard.lean, 'card_holds'). Laid BY PROGRAM, IN A SANDBOX (cutbox-door.mjs). By AI agents, Wed Nov 11 2026. No macro, syntax, notation, axiom, sorry.
-/
import Derived.Test.YtbppokdaehaocaaDoorRows
import GoSem.ClaimSeven
namespace Go.Proofs.YtbppokdaehaocaaDoor
namespace Rows

/-- THE TIED CARD OF 'stanchionlaw11.WatchSteps'. -/
def watchStepsCard : Claim7 := { stood := { row := watchStepsRow, standIns := [], harness := (true, "72f1d411b9b83944cc242ce1aa9c2f606b0d960de5af11e94c1d67bd79ce8c78"), looks := false }, kinds := [], alts := [], laidByText := true, laidKinds := [.data, .pinned], laidTests := true, laidLooks := .later }
def WatchStepsCardSaid : Prop := Claim7.holds Tryd.pinned (.plain (OpenSpec.ofChange watchStepsSpec)) watchStepsCard

/-- THE TIED CARD OF 'stanchionlaw11.WatchLoads'. -/
def watchLoadsCard : Claim7 := { stood := { row := watchLoadsRow, standIns := [], harness := (true, "72f1d411b9b83944cc242ce1aa9c2f606b0d960de5af11e94c1d67bd79ce8c78"), looks := false }, kinds := [], alts := [], laidByText := true, laidKinds := [.data, .pinned], laidTests := true, laidLooks := .later }
def WatchLoadsCardSaid : Prop := Claim7.holds Tryd.pinned (.plain (OpenSpec.ofChange watchLoadsSpec)) watchLoadsCard

/-- THE TIED CARD OF 'stanchionlaw11.WatchOnce'. -/
def watchOnceCard : Claim7 := { stood := { row := watchOnceRow, standIns := [], harness := (true, "72f1d411b9b83944cc242ce1aa9c2f606b0d960de5af11e94c1d67bd79ce8c78"), looks := false }, kinds := [], alts := [], laidByText := true, laidKinds := [.data, .pinned], laidTests := true, laidLooks := .later }
def WatchOnceCardSaid : Prop := Claim7.holds Tryd.pinned (.plain (OpenSpec.ofChange watchOnceSpec)) watchOnceCard

/-- THE TIED CARD OF 'stanchionlaw11.WatchRoom'. -/
def watchRoomCard : Claim7 := { stood := { row := watchRoomRow, standIns := [], harness := (true, "72f1d411b9b83944cc242ce1aa9c2f606b0d960de5af11e94c1d67bd79ce8c78"), looks := false }, kinds := [], alts := [], laidByText := true, laidKinds := [.data, .pinned], laidTests := true, laidLooks := .later }
def WatchRoomCardSaid : Prop := Claim7.holds Tryd.pinned (.plain (OpenSpec.ofChange watchRoomSpec)) watchRoomCard

/-- THE TIED CARD OF 'stanchionlaw11.WatchOrder'. -/
def watchOrderCard : Claim7 := { stood := { row := watchOrderRow, standIns := [], harness := (true, "72f1d411b9b83944cc242ce1aa9c2f606b0d960de5af11e94c1d67bd79ce8c78"), looks := false }, kinds := [], alts := [], laidByText := true, laidKinds := [.data, .pinned], laidTests := true, laidLooks := .later }
def WatchOrderCardSaid : Prop := Claim7.holds Tryd.pinned (.plain (OpenSpec.ofChange watchOrderSpec)) watchOrderCard

/-- THE SECOND FORM's CARD OF 'stanchionlaw11.WatchSteps'. -/
def watchStepsUptoCard : Claim7 := { stood := { row := watchStepsUptoRow, standIns := [], harness := (true, "72f1d411b9b83944cc242ce1aa9c2f606b0d960de5af11e94c1d67bd79ce8c78"), looks := false }, kinds := [], alts := [], laidByText := true, laidKinds := [.data, .pinned], laidTests := true, laidLooks := .later }
def WatchStepsUptoCardSaid : Prop := Claim7.holds Tryd.pinned (.plain (OpenSpec.upto watchStepsSpec)) watchStepsUptoCard

/-- THE SECOND FORM's CARD OF 'stanchionlaw11.WatchLoads'. -/
def watchLoadsUptoCard : Claim7 := { stood := { row := watchLoadsUptoRow, standIns := [], harness := (true, "72f1d411b9b83944cc242ce1aa9c2f606b0d960de5af11e94c1d67bd79ce8c78"), looks := false }, kinds := [], alts := [], laidByText := true, laidKinds := [.data, .pinned], laidTests := true, laidLooks := .later }
def WatchLoadsUptoCardSaid : Prop := Claim7.holds Tryd.pinned (.plain (OpenSpec.upto watchLoadsSpec)) watchLoadsUptoCard

/-- THE SECOND FORM's CARD OF 'stanchionlaw11.WatchOnce'. -/
def watchOnceUptoCard : Claim7 := { stood := { row := watchOnceUptoRow, standIns := [], harness := (true, "72f1d411b9b83944cc242ce1aa9c2f606b0d960de5af11e94c1d67bd79ce8c78"), looks := false }, kinds := [], alts := [], laidByText := true, laidKinds := [.data, .pinned], laidTests := true, laidLooks := .later }
def WatchOnceUptoCardSaid : Prop := Claim7.holds Tryd.pinned (.plain (OpenSpec.upto watchOnceSpec)) watchOnceUptoCard

/-- THE SECOND FORM's CARD OF 'stanchionlaw11.WatchRoom'. -/
def watchRoomUptoCard : Claim7 := { stood := { row := watchRoomUptoRow, standIns := [], harness := (true, "72f1d411b9b83944cc242ce1aa9c2f606b0d960de5af11e94c1d67bd79ce8c78"), looks := false }, kinds := [], alts := [], laidByText := true, laidKinds := [.data, .pinned], laidTests := true, laidLooks := .later }
def WatchRoomUptoCardSaid : Prop := Claim7.holds Tryd.pinned (.plain (OpenSpec.upto watchRoomSpec)) watchRoomUptoCard

/-- THE SECOND FORM's CARD OF 'stanchionlaw11.WatchOrder'. -/
def watchOrderUptoCard : Claim7 := { stood := { row := watchOrderUptoRow, standIns := [], harness := (true, "72f1d411b9b83944cc242ce1aa9c2f606b0d960de5af11e94c1d67bd79ce8c78"), looks := false }, kinds := [], alts := [], laidByText := true, laidKinds := [.data, .pinned], laidTests := true, laidLooks := .later }
def WatchOrderUptoCardSaid : Prop := Claim7.holds Tryd.pinned (.plain (OpenSpec.upto watchOrderSpec)) watchOrderUptoCard
end Rows
end Go.Proofs.YtbppokdaehaocaaDoor
