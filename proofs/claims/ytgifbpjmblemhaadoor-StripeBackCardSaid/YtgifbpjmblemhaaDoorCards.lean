/-
  DERIVED. GIVEN WITH THE SEED: THE CARDS: each row of YtgifbpjmblemhaaDoorRows.lean that lists a variable, with what it lists TIED to the program's text (the seventh form; the later family's looks); each row that meets fmt, with fmt's text TOLD by the authors' own Lean function (tested against real Go, not proved from fmt's source: count such statements apart). THE CARD IS WHAT COUNTS. Prove the row's statement (the work); the ties are given (YtgifbpjmblemhaaDoorTie.lean); close each card by the builder's one call (the guide's Derived/Test/ToyasCard.lean, 'card_holds'). Laid BY PROGRAM, IN A SANDBOX (cutbox-door.mjs). By AI agents, Wed Nov 11 2026. No macro, syntax, notation, axiom, sorry.
-/
import Derived.Test.YtgifbpjmblemhaaDoorRows
import GoSem.ClaimSeven
namespace Go.Proofs.YtgifbpjmblemhaaDoor
namespace Rows

/-- THE TIED CARD OF 'baileelaw06.StripeBlocks'. -/
def stripeBlocksCard : Claim7 := { stood := { row := stripeBlocksRow, standIns := [], harness := (true, "2e7c3ac10da43500505f69acc1cb827482a1aaff5598d1ef0d086dfc4e4eadd3"), looks := true }, kinds := [], alts := [], laidByText := true, laidKinds := [.sentinel, .sentinel, .sentinel, .sentinel, .sentinel, .sentinel, .sentinel, .sentinel, .sentinel, .sentinel, .sentinel, .sentinel, .sentinel, .sentinel, .sentinel, .sentinel, .sentinel, .sentinel, .sentinel, .sentinel], laidTests := true, laidLooks := .later }
def StripeBlocksCardSaid : Prop := Claim7.holds Tryd.pinned (.plain (OpenSpec.ofChange stripeBlocksSpec)) stripeBlocksCard

/-- THE TIED CARD OF 'baileelaw06.StripeShapes'. -/
def stripeShapesCard : Claim7 := { stood := { row := stripeShapesRow, standIns := [], harness := (true, "2e7c3ac10da43500505f69acc1cb827482a1aaff5598d1ef0d086dfc4e4eadd3"), looks := true }, kinds := [], alts := [], laidByText := true, laidKinds := [.sentinel, .sentinel, .sentinel, .sentinel, .sentinel, .sentinel, .sentinel, .sentinel, .sentinel, .sentinel, .sentinel, .sentinel, .sentinel, .sentinel, .sentinel, .sentinel, .sentinel, .sentinel, .sentinel, .sentinel], laidTests := true, laidLooks := .later }
def StripeShapesCardSaid : Prop := Claim7.holds Tryd.pinned (.plain (OpenSpec.ofChange stripeShapesSpec)) stripeShapesCard

/-- THE TIED CARD OF 'baileelaw06.StripeBack'. -/
def stripeBackCard : Claim7 := { stood := { row := stripeBackRow, standIns := [], harness := (true, "2e7c3ac10da43500505f69acc1cb827482a1aaff5598d1ef0d086dfc4e4eadd3"), looks := true }, kinds := [], alts := [], laidByText := true, laidKinds := [.sentinel, .sentinel, .sentinel, .sentinel, .sentinel, .sentinel, .sentinel], laidTests := true, laidLooks := .later }
def StripeBackCardSaid : Prop := Claim7.holds Tryd.pinned (.plain (OpenSpec.ofChange stripeBackSpec)) stripeBackCard

/-- THE TIED CARD OF 'baileelaw06.StripeSystematic'. -/
def stripeSystematicCard : Claim7 := { stood := { row := stripeSystematicRow, standIns := [], harness := (true, "2e7c3ac10da43500505f69acc1cb827482a1aaff5598d1ef0d086dfc4e4eadd3"), looks := true }, kinds := [], alts := [], laidByText := true, laidKinds := [.sentinel, .sentinel], laidTests := true, laidLooks := .later }
def StripeSystematicCardSaid : Prop := Claim7.holds Tryd.pinned (.plain (OpenSpec.ofChange stripeSystematicSpec)) stripeSystematicCard

/-- THE SECOND FORM's CARD OF 'baileelaw06.StripeBlocks'. -/
def stripeBlocksUptoCard : Claim7 := { stood := { row := stripeBlocksUptoRow, standIns := [], harness := (true, "2e7c3ac10da43500505f69acc1cb827482a1aaff5598d1ef0d086dfc4e4eadd3"), looks := true }, kinds := [], alts := [], laidByText := true, laidKinds := [.sentinel, .sentinel, .sentinel, .sentinel, .sentinel, .sentinel, .sentinel, .sentinel, .sentinel, .sentinel, .sentinel, .sentinel, .sentinel, .sentinel, .sentinel, .sentinel, .sentinel, .sentinel, .sentinel, .sentinel], laidTests := true, laidLooks := .later }
def StripeBlocksUptoCardSaid : Prop := Claim7.holds Tryd.pinned (.plain (OpenSpec.upto stripeBlocksSpec)) stripeBlocksUptoCard

/-- THE SECOND FORM's CARD OF 'baileelaw06.StripeShapes'. -/
def stripeShapesUptoCard : Claim7 := { stood := { row := stripeShapesUptoRow, standIns := [], harness := (true, "2e7c3ac10da43500505f69acc1cb827482a1aaff5598d1ef0d086dfc4e4eadd3"), looks := true }, kinds := [], alts := [], laidByText := true, laidKinds := [.sentinel, .sentinel, .sentinel, .sentinel, .sentinel, .sentinel, .sentinel, .sentinel, .sentinel, .sentinel, .sentinel, .sentinel, .sentinel, .sentinel, .sentinel, .sentinel, .sentinel, .sentinel, .sentinel, .sentinel], laidTests := true, laidLooks := .later }
def StripeShapesUptoCardSaid : Prop := Claim7.holds Tryd.pinned (.plain (OpenSpec.upto stripeShapesSpec)) stripeShapesUptoCard

/-- THE SECOND FORM's CARD OF 'baileelaw06.StripeBack'. -/
def stripeBackUptoCard : Claim7 := { stood := { row := stripeBackUptoRow, standIns := [], harness := (true, "2e7c3ac10da43500505f69acc1cb827482a1aaff5598d1ef0d086dfc4e4eadd3"), looks := true }, kinds := [], alts := [], laidByText := true, laidKinds := [.sentinel, .sentinel, .sentinel, .sentinel, .sentinel, .sentinel, .sentinel], laidTests := true, laidLooks := .later }
def StripeBackUptoCardSaid : Prop := Claim7.holds Tryd.pinned (.plain (OpenSpec.upto stripeBackSpec)) stripeBackUptoCard

/-- THE SECOND FORM's CARD OF 'baileelaw06.StripeSystematic'. -/
def stripeSystematicUptoCard : Claim7 := { stood := { row := stripeSystematicUptoRow, standIns := [], harness := (true, "2e7c3ac10da43500505f69acc1cb827482a1aaff5598d1ef0d086dfc4e4eadd3"), looks := true }, kinds := [], alts := [], laidByText := true, laidKinds := [.sentinel, .sentinel], laidTests := true, laidLooks := .later }
def StripeSystematicUptoCardSaid : Prop := Claim7.holds Tryd.pinned (.plain (OpenSpec.upto stripeSystematicSpec)) stripeSystematicUptoCard
end Rows
end Go.Proofs.YtgifbpjmblemhaaDoor
