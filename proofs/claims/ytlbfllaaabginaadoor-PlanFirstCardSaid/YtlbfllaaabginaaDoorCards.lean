/-
  DERIVED. GIVEN WITH THE SEED: THE CARDS: each row of YtlbfllaaabginaaDoorRows.lean that lists a variable, with what it lists TIED to the program's text (the seventh form; the later family's looks); each row that meets fmt, with fmt's text TOLD by the authors' own Lean function (tested against real Go, not proved from fmt's source: count such statements apart). THE CARD IS WHAT COUNTS. Prove the row's statement (the work); the ties are given (YtlbfllaaabginaaDoorTie.lean); close each card by the builder's one call (the guide's Derived/Test/ToyasCard.lean, 'card_holds'). Laid BY PROGRAM, IN A SANDBOX (cutbox-door.mjs). By AI agents, Wed Nov 11 2026. No macro, syntax, notation, axiom, sorry.
-/
import Derived.Test.YtlbfllaaabginaaDoorRows
import GoSem.ClaimSeven
namespace Go.Proofs.YtlbfllaaabginaaDoor
namespace Rows

/-- THE TIED CARD OF 'brackenlaw17.PlanDoes'. -/
def planDoesCard : Claim7 := { stood := { row := planDoesRow, standIns := [], harness := (true, "c2a2dcc644990540ce24d3a64aee470b3f9936beb0fd4994da3f1f907eac0a6c"), looks := false }, kinds := [], alts := [], laidByText := true, laidKinds := [.data], laidTests := true, laidLooks := .later }
def PlanDoesCardSaid : Prop := Claim7.holds Tryd.pinned (.plain (OpenSpec.ofChange planDoesSpec)) planDoesCard

/-- THE TIED CARD OF 'brackenlaw17.PlanAsks'. -/
def planAsksCard : Claim7 := { stood := { row := planAsksRow, standIns := [], harness := (true, "c2a2dcc644990540ce24d3a64aee470b3f9936beb0fd4994da3f1f907eac0a6c"), looks := false }, kinds := [], alts := [], laidByText := true, laidKinds := [.data], laidTests := true, laidLooks := .later }
def PlanAsksCardSaid : Prop := Claim7.holds Tryd.pinned (.plain (OpenSpec.ofChange planAsksSpec)) planAsksCard

/-- THE TIED CARD OF 'brackenlaw17.PlanWhole'. -/
def planWholeCard : Claim7 := { stood := { row := planWholeRow, standIns := [], harness := (true, "c2a2dcc644990540ce24d3a64aee470b3f9936beb0fd4994da3f1f907eac0a6c"), looks := false }, kinds := [], alts := [], laidByText := true, laidKinds := [.data], laidTests := true, laidLooks := .later }
def PlanWholeCardSaid : Prop := Claim7.holds Tryd.pinned (.plain (OpenSpec.ofChange planWholeSpec)) planWholeCard

/-- THE TIED CARD OF 'brackenlaw17.PlanBack'. -/
def planBackCard : Claim7 := { stood := { row := planBackRow, standIns := [], harness := (true, "c2a2dcc644990540ce24d3a64aee470b3f9936beb0fd4994da3f1f907eac0a6c"), looks := false }, kinds := [], alts := [], laidByText := true, laidKinds := [.data], laidTests := true, laidLooks := .later }
def PlanBackCardSaid : Prop := Claim7.holds Tryd.pinned (.plain (OpenSpec.ofChange planBackSpec)) planBackCard

/-- THE TIED CARD OF 'brackenlaw17.PlanFits'. -/
def planFitsCard : Claim7 := { stood := { row := planFitsRow, standIns := [], harness := (true, "c2a2dcc644990540ce24d3a64aee470b3f9936beb0fd4994da3f1f907eac0a6c"), looks := false }, kinds := [], alts := [], laidByText := true, laidKinds := [.data], laidTests := true, laidLooks := .later }
def PlanFitsCardSaid : Prop := Claim7.holds Tryd.pinned (.plain (OpenSpec.ofChange planFitsSpec)) planFitsCard

/-- THE TIED CARD OF 'brackenlaw17.PlanSteps'. -/
def planStepsCard : Claim7 := { stood := { row := planStepsRow, standIns := [], harness := (true, "c2a2dcc644990540ce24d3a64aee470b3f9936beb0fd4994da3f1f907eac0a6c"), looks := false }, kinds := [], alts := [], laidByText := true, laidKinds := [.data], laidTests := true, laidLooks := .later }
def PlanStepsCardSaid : Prop := Claim7.holds Tryd.pinned (.plain (OpenSpec.ofChange planStepsSpec)) planStepsCard

/-- THE TIED CARD OF 'brackenlaw17.PlanFirst'. -/
def planFirstCard : Claim7 := { stood := { row := planFirstRow, standIns := [], harness := (true, "c2a2dcc644990540ce24d3a64aee470b3f9936beb0fd4994da3f1f907eac0a6c"), looks := false }, kinds := [], alts := [], laidByText := true, laidKinds := [.data], laidTests := true, laidLooks := .later }
def PlanFirstCardSaid : Prop := Claim7.holds Tryd.pinned (.plain (OpenSpec.ofChange planFirstSpec)) planFirstCard

/-- THE TIED CARD OF 'brackenlaw17.PlanItems'. -/
def planItemsCard : Claim7 := { stood := { row := planItemsRow, standIns := [], harness := (true, "c2a2dcc644990540ce24d3a64aee470b3f9936beb0fd4994da3f1f907eac0a6c"), looks := false }, kinds := [], alts := [], laidByText := true, laidKinds := [.data], laidTests := true, laidLooks := .later }
def PlanItemsCardSaid : Prop := Claim7.holds Tryd.pinned (.plain (OpenSpec.ofChange planItemsSpec)) planItemsCard

/-- THE SECOND FORM's CARD OF 'brackenlaw17.PlanDoes'. -/
def planDoesUptoCard : Claim7 := { stood := { row := planDoesUptoRow, standIns := [], harness := (true, "c2a2dcc644990540ce24d3a64aee470b3f9936beb0fd4994da3f1f907eac0a6c"), looks := false }, kinds := [], alts := [], laidByText := true, laidKinds := [.data], laidTests := true, laidLooks := .later }
def PlanDoesUptoCardSaid : Prop := Claim7.holds Tryd.pinned (.plain (OpenSpec.upto planDoesSpec)) planDoesUptoCard

/-- THE SECOND FORM's CARD OF 'brackenlaw17.PlanAsks'. -/
def planAsksUptoCard : Claim7 := { stood := { row := planAsksUptoRow, standIns := [], harness := (true, "c2a2dcc644990540ce24d3a64aee470b3f9936beb0fd4994da3f1f907eac0a6c"), looks := false }, kinds := [], alts := [], laidByText := true, laidKinds := [.data], laidTests := true, laidLooks := .later }
def PlanAsksUptoCardSaid : Prop := Claim7.holds Tryd.pinned (.plain (OpenSpec.upto planAsksSpec)) planAsksUptoCard

/-- THE SECOND FORM's CARD OF 'brackenlaw17.PlanWhole'. -/
def planWholeUptoCard : Claim7 := { stood := { row := planWholeUptoRow, standIns := [], harness := (true, "c2a2dcc644990540ce24d3a64aee470b3f9936beb0fd4994da3f1f907eac0a6c"), looks := false }, kinds := [], alts := [], laidByText := true, laidKinds := [.data], laidTests := true, laidLooks := .later }
def PlanWholeUptoCardSaid : Prop := Claim7.holds Tryd.pinned (.plain (OpenSpec.upto planWholeSpec)) planWholeUptoCard

/-- THE SECOND FORM's CARD OF 'brackenlaw17.PlanBack'. -/
def planBackUptoCard : Claim7 := { stood := { row := planBackUptoRow, standIns := [], harness := (true, "c2a2dcc644990540ce24d3a64aee470b3f9936beb0fd4994da3f1f907eac0a6c"), looks := false }, kinds := [], alts := [], laidByText := true, laidKinds := [.data], laidTests := true, laidLooks := .later }
def PlanBackUptoCardSaid : Prop := Claim7.holds Tryd.pinned (.plain (OpenSpec.upto planBackSpec)) planBackUptoCard

/-- THE SECOND FORM's CARD OF 'brackenlaw17.PlanFits'. -/
def planFitsUptoCard : Claim7 := { stood := { row := planFitsUptoRow, standIns := [], harness := (true, "c2a2dcc644990540ce24d3a64aee470b3f9936beb0fd4994da3f1f907eac0a6c"), looks := false }, kinds := [], alts := [], laidByText := true, laidKinds := [.data], laidTests := true, laidLooks := .later }
def PlanFitsUptoCardSaid : Prop := Claim7.holds Tryd.pinned (.plain (OpenSpec.upto planFitsSpec)) planFitsUptoCard

/-- THE SECOND FORM's CARD OF 'brackenlaw17.PlanSteps'. -/
def planStepsUptoCard : Claim7 := { stood := { row := planStepsUptoRow, standIns := [], harness := (true, "c2a2dcc644990540ce24d3a64aee470b3f9936beb0fd4994da3f1f907eac0a6c"), looks := false }, kinds := [], alts := [], laidByText := true, laidKinds := [.data], laidTests := true, laidLooks := .later }
def PlanStepsUptoCardSaid : Prop := Claim7.holds Tryd.pinned (.plain (OpenSpec.upto planStepsSpec)) planStepsUptoCard

/-- THE SECOND FORM's CARD OF 'brackenlaw17.PlanFirst'. -/
def planFirstUptoCard : Claim7 := { stood := { row := planFirstUptoRow, standIns := [], harness := (true, "c2a2dcc644990540ce24d3a64aee470b3f9936beb0fd4994da3f1f907eac0a6c"), looks := false }, kinds := [], alts := [], laidByText := true, laidKinds := [.data], laidTests := true, laidLooks := .later }
def PlanFirstUptoCardSaid : Prop := Claim7.holds Tryd.pinned (.plain (OpenSpec.upto planFirstSpec)) planFirstUptoCard

/-- THE SECOND FORM's CARD OF 'brackenlaw17.PlanItems'. -/
def planItemsUptoCard : Claim7 := { stood := { row := planItemsUptoRow, standIns := [], harness := (true, "c2a2dcc644990540ce24d3a64aee470b3f9936beb0fd4994da3f1f907eac0a6c"), looks := false }, kinds := [], alts := [], laidByText := true, laidKinds := [.data], laidTests := true, laidLooks := .later }
def PlanItemsUptoCardSaid : Prop := Claim7.holds Tryd.pinned (.plain (OpenSpec.upto planItemsSpec)) planItemsUptoCard
end Rows
end Go.Proofs.YtlbfllaaabginaaDoor
