/-
  DERIVED. GIVEN WITH THE SEED: THE CARDS: each row of YtgchfijeiggimaaGreatDoorRows.lean that lists a variable, with what it lists TIED to the program's text (the seventh form; the later family's looks); each row that meets fmt, with fmt's text TOLD by the authors' own Lean function (tested against real Go, not proved from fmt's source: count such statements apart). THE CARD IS WHAT COUNTS. Prove the row's statement (the work); the ties are given (YtgchfijeiggimaaGreatDoorTie.lean); close each card by the builder's one call (the guide's Derived/Test/ToyasCard.lean, 'card_holds'). Laid BY PROGRAM, IN A SANDBOX (cutbox-door.mjs). By AI agents, Wed Nov 11 2026. No macro, syntax, notation, axiom, sorry.
-/
import Derived.Test.YtgchfijeiggimaaGreatDoorRows
import GoSem.ClaimSeven
namespace Go.Proofs.YtgchfijeiggimaaGreatDoor
namespace Rows

/-- THE TIED CARD OF 'baileelaw05.RepairFixes'. -/
def repairFixesCard : Claim7 := { stood := { row := repairFixesRow, standIns := [], harness := (true, "c8bc2f91abd49fdd81235684f74d7aa0966029ab9ccd23e92598d4f10d49d2b6"), looks := true }, kinds := [], alts := [], laidByText := true, laidKinds := [.sentinel, .sentinel, .sentinel, .sentinel, .sentinel, .sentinel, .sentinel, .sentinel, .sentinel, .sentinel, .sentinel, .sentinel, .sentinel, .sentinel, .sentinel, .sentinel, .sentinel, .sentinel, .sentinel, .sentinel], laidTests := true, laidLooks := .later }
def RepairFixesCardSaid : Prop := Claim7.holds Tryz.pinned (.plain (OpenSpec.ofChange repairFixesSpec)) repairFixesCard

/-- THE SECOND FORM's CARD OF 'baileelaw05.RepairFixes'. -/
def repairFixesUptoCard : Claim7 := { stood := { row := repairFixesUptoRow, standIns := [], harness := (true, "c8bc2f91abd49fdd81235684f74d7aa0966029ab9ccd23e92598d4f10d49d2b6"), looks := true }, kinds := [], alts := [], laidByText := true, laidKinds := [.sentinel, .sentinel, .sentinel, .sentinel, .sentinel, .sentinel, .sentinel, .sentinel, .sentinel, .sentinel, .sentinel, .sentinel, .sentinel, .sentinel, .sentinel, .sentinel, .sentinel, .sentinel, .sentinel, .sentinel], laidTests := true, laidLooks := .later }
def RepairFixesUptoCardSaid : Prop := Claim7.holds Tryz.pinned (.plain (OpenSpec.upto repairFixesSpec)) repairFixesUptoCard
end Rows
end Go.Proofs.YtgchfijeiggimaaGreatDoor
