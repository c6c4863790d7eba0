/-
  DERIVED. GIVEN WITH THE SEED: THE CARDS: each row of YtgpojlblhaphnaaDoorRows.lean that lists a variable, with what it lists TIED to the program's text (the seventh form; the later family's looks); each row that meets fmt, with fmt's text TOLD by the authors' own Lean function (tested against real Go, not proved from fmt's source: count such statements apart). THE CARD IS WHAT COUNTS. Prove the row's statement (the work); the ties are given (YtgpojlblhaphnaaDoorTie.lean); close each card by the builder's one call (the guide's Derived/Test/ToyasCard.lean, 'card_holds'). Laid BY PROGRAM, IN A SANDBOX (cutbox-door.mjs). By AI agents, Wed Nov 11 2026. No macro, syntax, notation, axiom, sorry.
-/
import Derived.Test.YtgpojlblhaphnaaDoorRows
import GoSem.ClaimSeven
namespace Go.Proofs.YtgpojlblhaphnaaDoor
namespace Rows

/-- THE TIED CARD OF 'baileelaw11.ShufflePlaces'. -/
def shufflePlacesCard : Claim7 := { stood := { row := shufflePlacesRow, standIns := [], harness := (true, "a0c80c6d32fc57438d1da1b310a37ffe384fa1ebc0ba268c9ba4d86ff1019e59"), looks := true }, kinds := [], alts := [], laidByText := true, laidKinds := [.data, .data, .sentinel, .sentinel, .sentinel, .sentinel, .sentinel, .sentinel, .sentinel, .sentinel, .sentinel, .sentinel, .sentinel, .sentinel, .sentinel, .sentinel, .sentinel, .sentinel, .sentinel, .sentinel, .sentinel, .sentinel, .data, .data], laidTests := true, laidLooks := .later }
def ShufflePlacesCardSaid : Prop := Claim7.holds Tryd.pinned (.plain (OpenSpec.ofChange shufflePlacesSpec)) shufflePlacesCard

/-- THE TIED CARD OF 'baileelaw11.ShuffleSteps'. -/
def shuffleStepsCard : Claim7 := { stood := { row := shuffleStepsRow, standIns := [], harness := (true, "a0c80c6d32fc57438d1da1b310a37ffe384fa1ebc0ba268c9ba4d86ff1019e59"), looks := true }, kinds := [], alts := [], laidByText := true, laidKinds := [.data, .data, .sentinel, .sentinel, .sentinel, .sentinel, .sentinel, .sentinel, .sentinel, .sentinel, .sentinel, .sentinel, .sentinel, .sentinel, .sentinel, .sentinel, .sentinel, .sentinel, .sentinel, .sentinel, .sentinel, .sentinel, .data, .data], laidTests := true, laidLooks := .later }
def ShuffleStepsCardSaid : Prop := Claim7.holds Tryd.pinned (.plain (OpenSpec.ofChange shuffleStepsSpec)) shuffleStepsCard

/-- THE TIED CARD OF 'baileelaw11.ShuffleOnce'. -/
def shuffleOnceCard : Claim7 := { stood := { row := shuffleOnceRow, standIns := [], harness := (true, "a0c80c6d32fc57438d1da1b310a37ffe384fa1ebc0ba268c9ba4d86ff1019e59"), looks := true }, kinds := [], alts := [], laidByText := true, laidKinds := [.sentinel, .data, .data], laidTests := true, laidLooks := .later }
def ShuffleOnceCardSaid : Prop := Claim7.holds Tryd.pinned (.plain (OpenSpec.ofChange shuffleOnceSpec)) shuffleOnceCard

/-- THE TIED CARD OF 'baileelaw11.ShuffleBack'. -/
def shuffleBackCard : Claim7 := { stood := { row := shuffleBackRow, standIns := [], harness := (true, "a0c80c6d32fc57438d1da1b310a37ffe384fa1ebc0ba268c9ba4d86ff1019e59"), looks := true }, kinds := [], alts := [], laidByText := true, laidKinds := [.sentinel, .data, .data], laidTests := true, laidLooks := .later }
def ShuffleBackCardSaid : Prop := Claim7.holds Tryd.pinned (.plain (OpenSpec.ofChange shuffleBackSpec)) shuffleBackCard

/-- THE SECOND FORM's CARD OF 'baileelaw11.ShufflePlaces'. -/
def shufflePlacesUptoCard : Claim7 := { stood := { row := shufflePlacesUptoRow, standIns := [], harness := (true, "a0c80c6d32fc57438d1da1b310a37ffe384fa1ebc0ba268c9ba4d86ff1019e59"), looks := true }, kinds := [], alts := [], laidByText := true, laidKinds := [.data, .data, .sentinel, .sentinel, .sentinel, .sentinel, .sentinel, .sentinel, .sentinel, .sentinel, .sentinel, .sentinel, .sentinel, .sentinel, .sentinel, .sentinel, .sentinel, .sentinel, .sentinel, .sentinel, .sentinel, .sentinel, .data, .data], laidTests := true, laidLooks := .later }
def ShufflePlacesUptoCardSaid : Prop := Claim7.holds Tryd.pinned (.plain (OpenSpec.upto shufflePlacesSpec)) shufflePlacesUptoCard

/-- THE SECOND FORM's CARD OF 'baileelaw11.ShuffleSteps'. -/
def shuffleStepsUptoCard : Claim7 := { stood := { row := shuffleStepsUptoRow, standIns := [], harness := (true, "a0c80c6d32fc57438d1da1b310a37ffe384fa1ebc0ba268c9ba4d86ff1019e59"), looks := true }, kinds := [], alts := [], laidByText := true, laidKinds := [.data, .data, .sentinel, .sentinel, .sentinel, .sentinel, .sentinel, .sentinel, .sentinel, .sentinel, .sentinel, .sentinel, .sentinel, .sentinel, .sentinel, .sentinel, .sentinel, .sentinel, .sentinel, .sentinel, .sentinel, .sentinel, .data, .data], laidTests := true, laidLooks := .later }
def ShuffleStepsUptoCardSaid : Prop := Claim7.holds Tryd.pinned (.plain (OpenSpec.upto shuffleStepsSpec)) shuffleStepsUptoCard

/-- THE SECOND FORM's CARD OF 'baileelaw11.ShuffleOnce'. -/
def shuffleOnceUptoCard : Claim7 := { stood := { row := shuffleOnceUptoRow, standIns := [], harness := (true, "a0c80c6d32fc57438d1da1b310a37ffe384fa1ebc0ba268c9ba4d86ff1019e59"), looks := true }, kinds := [], alts := [], laidByText := true, laidKinds := [.sentinel, .data, .data], laidTests := true, laidLooks := .later }
def ShuffleOnceUptoCardSaid : Prop := Claim7.holds Tryd.pinned (.plain (OpenSpec.upto shuffleOnceSpec)) shuffleOnceUptoCard

/-- THE SECOND FORM's CARD OF 'baileelaw11.ShuffleBack'. -/
def shuffleBackUptoCard : Claim7 := { stood := { row := shuffleBackUptoRow, standIns := [], harness := (true, "a0c80c6d32fc57438d1da1b310a37ffe384fa1ebc0ba268c9ba4d86ff1019e59"), looks := true }, kinds := [], alts := [], laidByText := true, laidKinds := [.sentinel, .data, .data], laidTests := true, laidLooks := .later }
def ShuffleBackUptoCardSaid : Prop := Claim7.holds Tryd.pinned (.plain (OpenSpec.upto shuffleBackSpec)) shuffleBackUptoCard
end Rows
end Go.Proofs.YtgpojlblhaphnaaDoor
