/-
  DERIVED. GIVEN WITH THE SEED: THE CARDS: each row of YtfccpfmgkpcnoaaDoorRows.lean that lists a variable, with what it lists TIED to the program's text (the seventh form; the later family's looks); each row that meets fmt, with fmt's text TOLD by the authors' own Lean function (tested against real Go, not proved from fmt's source: count such statements apart). THE CARD IS WHAT COUNTS. Prove the row's statement (the work); the ties are given (YtfccpfmgkpcnoaaDoorTie.lean); close each card by the builder's one call (the guide's Derived/Test/ToyasCard.lean, 'card_holds'). Laid BY PROGRAM, IN A SANDBOX (cutbox-door.mjs). By AI agents, Wed Nov 11 2026. No macro, syntax, notation, axiom, sorry.
-/
import Derived.Test.YtfccpfmgkpcnoaaDoorRows
import GoSem.ClaimSeven
namespace Go.Proofs.YtfccpfmgkpcnoaaDoor
namespace Rows

/-- THE TIED CARD OF 'baileelaw14.GrowthAdds'. -/
def growthAddsCard : Claim7 := { stood := { row := growthAddsRow, standIns := [], harness := (true, "536968ca2edca87741e04aeb2ab36337cb76c13db5d00560910040547074e28d"), looks := true }, kinds := [], alts := [], laidByText := true, laidKinds := [.data, .data, .sentinel, .sentinel, .sentinel, .data, .data], laidTests := true, laidLooks := .later }
def GrowthAddsCardSaid : Prop := Claim7.holds Tryd.pinned (.plain (OpenSpec.ofChange growthAddsSpec)) growthAddsCard

/-- THE TIED CARD OF 'baileelaw14.GrowthFrontiers'. -/
def growthFrontiersCard : Claim7 := { stood := { row := growthFrontiersRow, standIns := [], harness := (true, "536968ca2edca87741e04aeb2ab36337cb76c13db5d00560910040547074e28d"), looks := true }, kinds := [], alts := [], laidByText := true, laidKinds := [.data, .data, .sentinel, .sentinel, .sentinel, .sentinel, .sentinel, .sentinel, .sentinel, .sentinel, .sentinel, .sentinel, .sentinel, .sentinel, .sentinel, .sentinel, .sentinel, .sentinel, .sentinel, .sentinel, .sentinel, .sentinel, .data, .data], laidTests := true, laidLooks := .later }
def GrowthFrontiersCardSaid : Prop := Claim7.holds Tryd.pinned (.plain (OpenSpec.ofChange growthFrontiersSpec)) growthFrontiersCard

/-- THE TIED CARD OF 'baileelaw14.GrowthProves'. -/
def growthProvesCard : Claim7 := { stood := { row := growthProvesRow, standIns := [], harness := (true, "536968ca2edca87741e04aeb2ab36337cb76c13db5d00560910040547074e28d"), looks := true }, kinds := [], alts := [], laidByText := true, laidKinds := [.data, .data, .sentinel, .sentinel, .sentinel, .sentinel, .sentinel, .sentinel, .sentinel, .sentinel, .sentinel, .sentinel, .sentinel, .sentinel, .sentinel, .sentinel, .sentinel, .sentinel, .sentinel, .sentinel, .sentinel, .sentinel, .data, .data], laidTests := true, laidLooks := .later }
def GrowthProvesCardSaid : Prop := Claim7.holds Tryd.pinned (.plain (OpenSpec.ofChange growthProvesSpec)) growthProvesCard

/-- THE TIED CARD OF 'baileelaw14.GrowthChecks'. -/
def growthChecksCard : Claim7 := { stood := { row := growthChecksRow, standIns := [], harness := (true, "536968ca2edca87741e04aeb2ab36337cb76c13db5d00560910040547074e28d"), looks := true }, kinds := [], alts := [], laidByText := true, laidKinds := [.data, .data, .sentinel, .sentinel, .sentinel, .sentinel, .sentinel, .sentinel, .sentinel, .sentinel, .sentinel, .sentinel, .sentinel, .sentinel, .sentinel, .sentinel, .sentinel, .sentinel, .sentinel, .sentinel, .sentinel, .sentinel, .data, .data], laidTests := true, laidLooks := .later }
def GrowthChecksCardSaid : Prop := Claim7.holds Tryd.pinned (.plain (OpenSpec.ofChange growthChecksSpec)) growthChecksCard

/-- THE TIED CARD OF 'baileelaw14.GrowthOne'. -/
def growthOneCard : Claim7 := { stood := { row := growthOneRow, standIns := [], harness := (true, "536968ca2edca87741e04aeb2ab36337cb76c13db5d00560910040547074e28d"), looks := true }, kinds := [], alts := [], laidByText := true, laidKinds := [.data, .data, .sentinel, .sentinel, .sentinel, .sentinel, .data, .data], laidTests := true, laidLooks := .later }
def GrowthOneCardSaid : Prop := Claim7.holds Tryd.pinned (.plain (OpenSpec.ofChange growthOneSpec)) growthOneCard

/-- THE TIED CARD OF 'baileelaw14.GrowthChain'. -/
def growthChainCard : Claim7 := { stood := { row := growthChainRow, standIns := [], harness := (true, "536968ca2edca87741e04aeb2ab36337cb76c13db5d00560910040547074e28d"), looks := true }, kinds := [], alts := [], laidByText := true, laidKinds := [.data, .data, .sentinel, .sentinel, .sentinel, .sentinel, .data, .data], laidTests := true, laidLooks := .later }
def GrowthChainCardSaid : Prop := Claim7.holds Tryd.pinned (.plain (OpenSpec.ofChange growthChainSpec)) growthChainCard

/-- THE SECOND FORM's CARD OF 'baileelaw14.GrowthAdds'. -/
def growthAddsUptoCard : Claim7 := { stood := { row := growthAddsUptoRow, standIns := [], harness := (true, "536968ca2edca87741e04aeb2ab36337cb76c13db5d00560910040547074e28d"), looks := true }, kinds := [], alts := [], laidByText := true, laidKinds := [.data, .data, .sentinel, .sentinel, .sentinel, .data, .data], laidTests := true, laidLooks := .later }
def GrowthAddsUptoCardSaid : Prop := Claim7.holds Tryd.pinned (.plain (OpenSpec.upto growthAddsSpec)) growthAddsUptoCard

/-- THE SECOND FORM's CARD OF 'baileelaw14.GrowthFrontiers'. -/
def growthFrontiersUptoCard : Claim7 := { stood := { row := growthFrontiersUptoRow, standIns := [], harness := (true, "536968ca2edca87741e04aeb2ab36337cb76c13db5d00560910040547074e28d"), looks := true }, kinds := [], alts := [], laidByText := true, laidKinds := [.data, .data, .sentinel, .sentinel, .sentinel, .sentinel, .sentinel, .sentinel, .sentinel, .sentinel, .sentinel, .sentinel, .sentinel, .sentinel, .sentinel, .sentinel, .sentinel, .sentinel, .sentinel, .sentinel, .sentinel, .sentinel, .data, .data], laidTests := true, laidLooks := .later }
def GrowthFrontiersUptoCardSaid : Prop := Claim7.holds Tryd.pinned (.plain (OpenSpec.upto growthFrontiersSpec)) growthFrontiersUptoCard

/-- THE SECOND FORM's CARD OF 'baileelaw14.GrowthProves'. -/
def growthProvesUptoCard : Claim7 := { stood := { row := growthProvesUptoRow, standIns := [], harness := (true, "536968ca2edca87741e04aeb2ab36337cb76c13db5d00560910040547074e28d"), looks := true }, kinds := [], alts := [], laidByText := true, laidKinds := [.data, .data, .sentinel, .sentinel, .sentinel, .sentinel, .sentinel, .sentinel, .sentinel, .sentinel, .sentinel, .sentinel, .sentinel, .sentinel, .sentinel, .sentinel, .sentinel, .sentinel, .sentinel, .sentinel, .sentinel, .sentinel, .data, .data], laidTests := true, laidLooks := .later }
def GrowthProvesUptoCardSaid : Prop := Claim7.holds Tryd.pinned (.plain (OpenSpec.upto growthProvesSpec)) growthProvesUptoCard

/-- THE SECOND FORM's CARD OF 'baileelaw14.GrowthChecks'. -/
def growthChecksUptoCard : Claim7 := { stood := { row := growthChecksUptoRow, standIns := [], harness := (true, "536968ca2edca87741e04aeb2ab36337cb76c13db5d00560910040547074e28d"), looks := true }, kinds := [], alts := [], laidByText := true, laidKinds := [.data, .data, .sentinel, .sentinel, .sentinel, .sentinel, .sentinel, .sentinel, .sentinel, .sentinel, .sentinel, .sentinel, .sentinel, .sentinel, .sentinel, .sentinel, .sentinel, .sentinel, .sentinel, .sentinel, .sentinel, .sentinel, .data, .data], laidTests := true, laidLooks := .later }
def GrowthChecksUptoCardSaid : Prop := Claim7.holds Tryd.pinned (.plain (OpenSpec.upto growthChecksSpec)) growthChecksUptoCard

/-- THE SECOND FORM's CARD OF 'baileelaw14.GrowthOne'. -/
def growthOneUptoCard : Claim7 := { stood := { row := growthOneUptoRow, standIns := [], harness := (true, "536968ca2edca87741e04aeb2ab36337cb76c13db5d00560910040547074e28d"), looks := true }, kinds := [], alts := [], laidByText := true, laidKinds := [.data, .data, .sentinel, .sentinel, .sentinel, .sentinel, .data, .data], laidTests := true, laidLooks := .later }
def GrowthOneUptoCardSaid : Prop := Claim7.holds Tryd.pinned (.plain (OpenSpec.upto growthOneSpec)) growthOneUptoCard

/-- THE SECOND FORM's CARD OF 'baileelaw14.GrowthChain'. -/
def growthChainUptoCard : Claim7 := { stood := { row := growthChainUptoRow, standIns := [], harness := (true, "536968ca2edca87741e04aeb2ab36337cb76c13db5d00560910040547074e28d"), looks := true }, kinds := [], alts := [], laidByText := true, laidKinds := [.data, .data, .sentinel, .sentinel, .sentinel, .sentinel, .data, .data], laidTests := true, laidLooks := .later }
def GrowthChainUptoCardSaid : Prop := Claim7.holds Tryd.pinned (.plain (OpenSpec.upto growthChainSpec)) growthChainUptoCard
end Rows
end Go.Proofs.YtfccpfmgkpcnoaaDoor
