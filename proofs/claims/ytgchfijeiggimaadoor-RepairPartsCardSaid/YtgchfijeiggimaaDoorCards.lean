/-
  DERIVED. GIVEN WITH THE SEED: THE CARDS: each row of YtgchfijeiggimaaDoorRows.lean that lists a variable, with what it lists TIED to the program's text (the seventh form; the later family's looks); each row that meets fmt, with fmt's text TOLD by the authors' own Lean function (tested against real Go, not proved from fmt's source: count such statements apart). THE CARD IS WHAT COUNTS. Prove the row's statement (the work); the ties are given (YtgchfijeiggimaaDoorTie.lean); close each card by the builder's one call (the guide's Derived/Test/ToyasCard.lean, 'card_holds'). Laid BY PROGRAM, IN A SANDBOX (cutbox-door.mjs). By AI agents, Wed Nov 11 2026. No macro, syntax, notation, axiom, sorry.
-/
import Derived.Test.YtgchfijeiggimaaDoorRows
import GoSem.ClaimSeven
namespace Go.Proofs.YtgchfijeiggimaaDoor
namespace Rows

/-- THE TIED CARD OF 'baileelaw05.RepairBack'. -/
def repairBackCard : Claim7 := { stood := { row := repairBackRow, standIns := [], harness := (true, "19c454e8b1f1d8b9598227ae3c52611e107f26b8fbb556d0f7630cde1a4d17f8"), looks := true }, kinds := [], alts := [], laidByText := true, laidKinds := [.sentinel, .sentinel, .sentinel, .sentinel, .sentinel, .sentinel], laidTests := true, laidLooks := .later }
def RepairBackCardSaid : Prop := Claim7.holds Tryd.pinned (.plain (OpenSpec.ofChange repairBackSpec)) repairBackCard

/-- THE TIED CARD OF 'baileelaw05.RepairRight'. -/
def repairRightCard : Claim7 := { stood := { row := repairRightRow, standIns := [], harness := (true, "19c454e8b1f1d8b9598227ae3c52611e107f26b8fbb556d0f7630cde1a4d17f8"), looks := true }, kinds := [], alts := [], laidByText := true, laidKinds := [.sentinel, .sentinel, .sentinel, .sentinel, .sentinel, .sentinel], laidTests := true, laidLooks := .later }
def RepairRightCardSaid : Prop := Claim7.holds Tryd.pinned (.plain (OpenSpec.ofChange repairRightSpec)) repairRightCard

/-- THE TIED CARD OF 'baileelaw05.RepairParts'. -/
def repairPartsCard : Claim7 := { stood := { row := repairPartsRow, standIns := [], harness := (true, "19c454e8b1f1d8b9598227ae3c52611e107f26b8fbb556d0f7630cde1a4d17f8"), looks := true }, kinds := [], alts := [], laidByText := true, laidKinds := [.sentinel, .sentinel, .sentinel, .sentinel, .sentinel, .sentinel, .sentinel, .sentinel, .sentinel, .sentinel, .sentinel, .sentinel, .sentinel, .sentinel, .sentinel, .sentinel, .sentinel, .sentinel, .sentinel, .sentinel], laidTests := true, laidLooks := .later }
def RepairPartsCardSaid : Prop := Claim7.holds Tryd.pinned (.plain (OpenSpec.ofChange repairPartsSpec)) repairPartsCard

/-- THE TIED CARD OF 'baileelaw05.RepairErased'. -/
def repairErasedCard : Claim7 := { stood := { row := repairErasedRow, standIns := [], harness := (true, "19c454e8b1f1d8b9598227ae3c52611e107f26b8fbb556d0f7630cde1a4d17f8"), looks := true }, kinds := [], alts := [], laidByText := true, laidKinds := [.sentinel, .sentinel, .sentinel, .sentinel, .sentinel, .sentinel], laidTests := true, laidLooks := .later }
def RepairErasedCardSaid : Prop := Claim7.holds Tryd.pinned (.plain (OpenSpec.ofChange repairErasedSpec)) repairErasedCard

/-- THE SECOND FORM's CARD OF 'baileelaw05.RepairBack'. -/
def repairBackUptoCard : Claim7 := { stood := { row := repairBackUptoRow, standIns := [], harness := (true, "19c454e8b1f1d8b9598227ae3c52611e107f26b8fbb556d0f7630cde1a4d17f8"), looks := true }, kinds := [], alts := [], laidByText := true, laidKinds := [.sentinel, .sentinel, .sentinel, .sentinel, .sentinel, .sentinel], laidTests := true, laidLooks := .later }
def RepairBackUptoCardSaid : Prop := Claim7.holds Tryd.pinned (.plain (OpenSpec.upto repairBackSpec)) repairBackUptoCard

/-- THE SECOND FORM's CARD OF 'baileelaw05.RepairRight'. -/
def repairRightUptoCard : Claim7 := { stood := { row := repairRightUptoRow, standIns := [], harness := (true, "19c454e8b1f1d8b9598227ae3c52611e107f26b8fbb556d0f7630cde1a4d17f8"), looks := true }, kinds := [], alts := [], laidByText := true, laidKinds := [.sentinel, .sentinel, .sentinel, .sentinel, .sentinel, .sentinel], laidTests := true, laidLooks := .later }
def RepairRightUptoCardSaid : Prop := Claim7.holds Tryd.pinned (.plain (OpenSpec.upto repairRightSpec)) repairRightUptoCard

/-- THE SECOND FORM's CARD OF 'baileelaw05.RepairParts'. -/
def repairPartsUptoCard : Claim7 := { stood := { row := repairPartsUptoRow, standIns := [], harness := (true, "19c454e8b1f1d8b9598227ae3c52611e107f26b8fbb556d0f7630cde1a4d17f8"), looks := true }, kinds := [], alts := [], laidByText := true, laidKinds := [.sentinel, .sentinel, .sentinel, .sentinel, .sentinel, .sentinel, .sentinel, .sentinel, .sentinel, .sentinel, .sentinel, .sentinel, .sentinel, .sentinel, .sentinel, .sentinel, .sentinel, .sentinel, .sentinel, .sentinel], laidTests := true, laidLooks := .later }
def RepairPartsUptoCardSaid : Prop := Claim7.holds Tryd.pinned (.plain (OpenSpec.upto repairPartsSpec)) repairPartsUptoCard

/-- THE SECOND FORM's CARD OF 'baileelaw05.RepairErased'. -/
def repairErasedUptoCard : Claim7 := { stood := { row := repairErasedUptoRow, standIns := [], harness := (true, "19c454e8b1f1d8b9598227ae3c52611e107f26b8fbb556d0f7630cde1a4d17f8"), looks := true }, kinds := [], alts := [], laidByText := true, laidKinds := [.sentinel, .sentinel, .sentinel, .sentinel, .sentinel, .sentinel], laidTests := true, laidLooks := .later }
def RepairErasedUptoCardSaid : Prop := Claim7.holds Tryd.pinned (.plain (OpenSpec.upto repairErasedSpec)) repairErasedUptoCard
end Rows
end Go.Proofs.YtgchfijeiggimaaDoor
