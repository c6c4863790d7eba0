/-
  DERIVED. GIVEN WITH THE SEED: THE CARDS: each row of YteldgablpehcpaaGreatDoorRows.lean that lists a variable, with what it lists TIED to the program's text (the seventh form; the later family's looks); each row that meets fmt, with fmt's text TOLD by the authors' own Lean function (tested against real Go, not proved from fmt's source: count such statements apart). THE CARD IS WHAT COUNTS. Prove the row's statement (the work); the ties are given (YteldgablpehcpaaGreatDoorTie.lean); close each card by the builder's one call (the guide's Derived/Test/ToyasCard.lean, 'card_holds'). Laid BY PROGRAM, IN A SANDBOX (cutbox-door.mjs). By AI agents, Wed Nov 11 2026. No macro, syntax, notation, axiom, sorry.
-/
import Derived.Test.YteldgablpehcpaaGreatDoorRows
import GoSem.ClaimSeven
namespace Go.Proofs.YteldgablpehcpaaGreatDoor
namespace Rows

/-- THE TIED CARD OF 'baileelaw17.OpenedOpens'. -/
def openedOpensCard : Claim7 := { stood := { row := openedOpensRow, standIns := [], harness := (true, "ec6311e9b46a979686fcd5b6bbed796d6b2ea01557cc8fb93861af01a5224865"), looks := true }, kinds := [], alts := [], laidByText := true, laidKinds := [.data, .data, .sentinel, .sentinel, .sentinel, .sentinel, .sentinel, .sentinel, .sentinel, .sentinel, .sentinel, .sentinel, .sentinel, .sentinel, .sentinel, .sentinel, .sentinel, .sentinel, .sentinel, .sentinel, .sentinel, .sentinel, .data, .data], laidTests := true, laidLooks := .later }
def OpenedOpensCardSaid : Prop := Claim7.holds Tryz.pinned (.plain (OpenSpec.ofChange openedOpensSpec)) openedOpensCard

/-- THE TIED CARD OF 'baileelaw17.OpenedBack'. -/
def openedBackCard : Claim7 := { stood := { row := openedBackRow, standIns := [], harness := (true, "ec6311e9b46a979686fcd5b6bbed796d6b2ea01557cc8fb93861af01a5224865"), looks := true }, kinds := [], alts := [], laidByText := true, laidKinds := [.sentinel, .sentinel, .sentinel, .sentinel, .sentinel, .sentinel, .sentinel, .sentinel, .sentinel, .sentinel, .data, .data], laidTests := true, laidLooks := .later }
def OpenedBackCardSaid : Prop := Claim7.holds Tryz.pinned (.plain (OpenSpec.ofChange openedBackSpec)) openedBackCard

/-- THE TIED CARD OF 'baileelaw17.OpenedNever'. -/
def openedNeverCard : Claim7 := { stood := { row := openedNeverRow, standIns := [], harness := (true, "ec6311e9b46a979686fcd5b6bbed796d6b2ea01557cc8fb93861af01a5224865"), looks := true }, kinds := [], alts := [], laidByText := true, laidKinds := [.data, .data, .sentinel, .sentinel, .sentinel, .sentinel, .sentinel, .sentinel, .sentinel, .sentinel, .sentinel, .sentinel, .data, .data], laidTests := true, laidLooks := .later }
def OpenedNeverCardSaid : Prop := Claim7.holds Tryz.pinned (.plain (OpenSpec.ofChange openedNeverSpec)) openedNeverCard

/-- THE TIED CARD OF 'baileelaw17.OpenedLoads'. -/
def openedLoadsCard : Claim7 := { stood := { row := openedLoadsRow, standIns := [], harness := (true, "ec6311e9b46a979686fcd5b6bbed796d6b2ea01557cc8fb93861af01a5224865"), looks := true }, kinds := [], alts := [], laidByText := true, laidKinds := [.sentinel, .sentinel, .sentinel, .sentinel, .sentinel, .sentinel, .sentinel, .sentinel, .sentinel, .sentinel, .sentinel, .sentinel, .sentinel, .sentinel, .sentinel, .sentinel, .sentinel, .sentinel, .sentinel, .sentinel, .data, .data], laidTests := true, laidLooks := .later }
def OpenedLoadsCardSaid : Prop := Claim7.holds Tryz.pinned (.plain (OpenSpec.ofChange openedLoadsSpec)) openedLoadsCard

/-- THE SECOND FORM's CARD OF 'baileelaw17.OpenedOpens'. -/
def openedOpensUptoCard : Claim7 := { stood := { row := openedOpensUptoRow, standIns := [], harness := (true, "ec6311e9b46a979686fcd5b6bbed796d6b2ea01557cc8fb93861af01a5224865"), looks := true }, kinds := [], alts := [], laidByText := true, laidKinds := [.data, .data, .sentinel, .sentinel, .sentinel, .sentinel, .sentinel, .sentinel, .sentinel, .sentinel, .sentinel, .sentinel, .sentinel, .sentinel, .sentinel, .sentinel, .sentinel, .sentinel, .sentinel, .sentinel, .sentinel, .sentinel, .data, .data], laidTests := true, laidLooks := .later }
def OpenedOpensUptoCardSaid : Prop := Claim7.holds Tryz.pinned (.plain (OpenSpec.upto openedOpensSpec)) openedOpensUptoCard

/-- THE SECOND FORM's CARD OF 'baileelaw17.OpenedBack'. -/
def openedBackUptoCard : Claim7 := { stood := { row := openedBackUptoRow, standIns := [], harness := (true, "ec6311e9b46a979686fcd5b6bbed796d6b2ea01557cc8fb93861af01a5224865"), looks := true }, kinds := [], alts := [], laidByText := true, laidKinds := [.sentinel, .sentinel, .sentinel, .sentinel, .sentinel, .sentinel, .sentinel, .sentinel, .sentinel, .sentinel, .data, .data], laidTests := true, laidLooks := .later }
def OpenedBackUptoCardSaid : Prop := Claim7.holds Tryz.pinned (.plain (OpenSpec.upto openedBackSpec)) openedBackUptoCard

/-- THE SECOND FORM's CARD OF 'baileelaw17.OpenedNever'. -/
def openedNeverUptoCard : Claim7 := { stood := { row := openedNeverUptoRow, standIns := [], harness := (true, "ec6311e9b46a979686fcd5b6bbed796d6b2ea01557cc8fb93861af01a5224865"), looks := true }, kinds := [], alts := [], laidByText := true, laidKinds := [.data, .data, .sentinel, .sentinel, .sentinel, .sentinel, .sentinel, .sentinel, .sentinel, .sentinel, .sentinel, .sentinel, .data, .data], laidTests := true, laidLooks := .later }
def OpenedNeverUptoCardSaid : Prop := Claim7.holds Tryz.pinned (.plain (OpenSpec.upto openedNeverSpec)) openedNeverUptoCard

/-- THE SECOND FORM's CARD OF 'baileelaw17.OpenedLoads'. -/
def openedLoadsUptoCard : Claim7 := { stood := { row := openedLoadsUptoRow, standIns := [], harness := (true, "ec6311e9b46a979686fcd5b6bbed796d6b2ea01557cc8fb93861af01a5224865"), looks := true }, kinds := [], alts := [], laidByText := true, laidKinds := [.sentinel, .sentinel, .sentinel, .sentinel, .sentinel, .sentinel, .sentinel, .sentinel, .sentinel, .sentinel, .sentinel, .sentinel, .sentinel, .sentinel, .sentinel, .sentinel, .sentinel, .sentinel, .sentinel, .sentinel, .data, .data], laidTests := true, laidLooks := .later }
def OpenedLoadsUptoCardSaid : Prop := Claim7.holds Tryz.pinned (.plain (OpenSpec.upto openedLoadsSpec)) openedLoadsUptoCard
end Rows
end Go.Proofs.YteldgablpehcpaaGreatDoor
