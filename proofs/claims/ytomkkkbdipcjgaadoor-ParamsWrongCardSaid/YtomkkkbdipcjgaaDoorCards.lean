/-
  DERIVED. GIVEN WITH THE SEED: THE CARDS: each row of YtomkkkbdipcjgaaDoorRows.lean that lists a variable, with what it lists TIED to the program's text (the seventh form; the later family's looks); each row that meets fmt, with fmt's text TOLD by the authors' own Lean function (tested against real Go, not proved from fmt's source: count such statements apart). THE CARD IS WHAT COUNTS. Prove the row's statement (the work); the ties are given (YtomkkkbdipcjgaaDoorTie.lean); close each card by the builder's one call (the guide's Derived/Test/ToyasCard.lean, 'card_holds'). Laid BY PROGRAM, IN A SANDBOX (cutbox-door.mjs). By AI agents, Wed Nov 11 2026. No macro, syntax, notation, axiom, sorry.
-/
import Derived.Test.YtomkkkbdipcjgaaDoorRows
import GoSem.ClaimSeven
namespace Go.Proofs.YtomkkkbdipcjgaaDoor
namespace Rows

/-- THE TIED CARD OF 'baileelaw15.ParamsChecks'. -/
def paramsChecksCard : Claim7 := { stood := { row := paramsChecksRow, standIns := [], harness := (true, "43acc96a19296f6be3cafc320c3b13533acd1185866d8962a93cc224ed831ea3"), looks := true }, kinds := [], alts := [], laidByText := true, laidKinds := [.handle, .sentinel, .sentinel, .sentinel, .sentinel, .sentinel, .sentinel, .sentinel, .sentinel, .sentinel, .sentinel, .sentinel, .sentinel, .sentinel, .sentinel, .sentinel, .sentinel, .sentinel, .sentinel, .sentinel, .sentinel, .data], laidTests := true, laidLooks := .later }
def ParamsChecksCardSaid : Prop := Claim7.holds Tryd.pinned (.plain (OpenSpec.ofChange paramsChecksSpec)) paramsChecksCard

/-- THE TIED CARD OF 'baileelaw15.ParamsParses'. -/
def paramsParsesCard : Claim7 := { stood := { row := paramsParsesRow, standIns := [], harness := (true, "43acc96a19296f6be3cafc320c3b13533acd1185866d8962a93cc224ed831ea3"), looks := true }, kinds := [], alts := [], laidByText := true, laidKinds := [.handle, .sentinel, .sentinel, .sentinel, .sentinel, .sentinel, .sentinel, .sentinel, .sentinel, .sentinel, .sentinel, .sentinel, .sentinel, .sentinel, .sentinel, .sentinel, .sentinel, .sentinel, .sentinel, .sentinel, .sentinel, .data], laidTests := true, laidLooks := .later }
def ParamsParsesCardSaid : Prop := Claim7.holds Tryd.pinned (.plain (OpenSpec.ofChange paramsParsesSpec)) paramsParsesCard

/-- THE TIED CARD OF 'baileelaw15.ParamsDefault'. -/
def paramsDefaultCard : Claim7 := { stood := { row := paramsDefaultRow, standIns := [], harness := (true, "43acc96a19296f6be3cafc320c3b13533acd1185866d8962a93cc224ed831ea3"), looks := true }, kinds := [], alts := [], laidByText := true, laidKinds := [.handle, .sentinel, .sentinel, .sentinel], laidTests := true, laidLooks := .later }
def ParamsDefaultCardSaid : Prop := Claim7.holds Tryd.pinned (.plain (OpenSpec.ofChange paramsDefaultSpec)) paramsDefaultCard

/-- THE TIED CARD OF 'baileelaw15.ParamsWrong'. -/
def paramsWrongCard : Claim7 := { stood := { row := paramsWrongRow, standIns := [], harness := (true, "43acc96a19296f6be3cafc320c3b13533acd1185866d8962a93cc224ed831ea3"), looks := true }, kinds := [], alts := [], laidByText := true, laidKinds := [.data, .data, .data, .handle, .sentinel, .sentinel, .sentinel, .sentinel, .sentinel, .sentinel, .sentinel, .sentinel, .sentinel, .sentinel, .sentinel, .sentinel, .sentinel, .sentinel, .sentinel, .sentinel, .sentinel, .sentinel, .sentinel, .sentinel], laidTests := true, laidLooks := .later }
def ParamsWrongCardSaid : Prop := Claim7.holds Tryd.pinned (.plain (OpenSpec.ofChange paramsWrongSpec)) paramsWrongCard

/-- THE SECOND FORM's CARD OF 'baileelaw15.ParamsChecks'. -/
def paramsChecksUptoCard : Claim7 := { stood := { row := paramsChecksUptoRow, standIns := [], harness := (true, "43acc96a19296f6be3cafc320c3b13533acd1185866d8962a93cc224ed831ea3"), looks := true }, kinds := [], alts := [], laidByText := true, laidKinds := [.handle, .sentinel, .sentinel, .sentinel, .sentinel, .sentinel, .sentinel, .sentinel, .sentinel, .sentinel, .sentinel, .sentinel, .sentinel, .sentinel, .sentinel, .sentinel, .sentinel, .sentinel, .sentinel, .sentinel, .sentinel, .data], laidTests := true, laidLooks := .later }
def ParamsChecksUptoCardSaid : Prop := Claim7.holds Tryd.pinned (.plain (OpenSpec.upto paramsChecksSpec)) paramsChecksUptoCard

/-- THE SECOND FORM's CARD OF 'baileelaw15.ParamsParses'. -/
def paramsParsesUptoCard : Claim7 := { stood := { row := paramsParsesUptoRow, standIns := [], harness := (true, "43acc96a19296f6be3cafc320c3b13533acd1185866d8962a93cc224ed831ea3"), looks := true }, kinds := [], alts := [], laidByText := true, laidKinds := [.handle, .sentinel, .sentinel, .sentinel, .sentinel, .sentinel, .sentinel, .sentinel, .sentinel, .sentinel, .sentinel, .sentinel, .sentinel, .sentinel, .sentinel, .sentinel, .sentinel, .sentinel, .sentinel, .sentinel, .sentinel, .data], laidTests := true, laidLooks := .later }
def ParamsParsesUptoCardSaid : Prop := Claim7.holds Tryd.pinned (.plain (OpenSpec.upto paramsParsesSpec)) paramsParsesUptoCard

/-- THE SECOND FORM's CARD OF 'baileelaw15.ParamsDefault'. -/
def paramsDefaultUptoCard : Claim7 := { stood := { row := paramsDefaultUptoRow, standIns := [], harness := (true, "43acc96a19296f6be3cafc320c3b13533acd1185866d8962a93cc224ed831ea3"), looks := true }, kinds := [], alts := [], laidByText := true, laidKinds := [.handle, .sentinel, .sentinel, .sentinel], laidTests := true, laidLooks := .later }
def ParamsDefaultUptoCardSaid : Prop := Claim7.holds Tryd.pinned (.plain (OpenSpec.upto paramsDefaultSpec)) paramsDefaultUptoCard

/-- THE SECOND FORM's CARD OF 'baileelaw15.ParamsWrong'. -/
def paramsWrongUptoCard : Claim7 := { stood := { row := paramsWrongUptoRow, standIns := [], harness := (true, "43acc96a19296f6be3cafc320c3b13533acd1185866d8962a93cc224ed831ea3"), looks := true }, kinds := [], alts := [], laidByText := true, laidKinds := [.data, .data, .data, .handle, .sentinel, .sentinel, .sentinel, .sentinel, .sentinel, .sentinel, .sentinel, .sentinel, .sentinel, .sentinel, .sentinel, .sentinel, .sentinel, .sentinel, .sentinel, .sentinel, .sentinel, .sentinel, .sentinel, .sentinel], laidTests := true, laidLooks := .later }
def ParamsWrongUptoCardSaid : Prop := Claim7.holds Tryd.pinned (.plain (OpenSpec.upto paramsWrongSpec)) paramsWrongUptoCard
end Rows
end Go.Proofs.YtomkkkbdipcjgaaDoor
