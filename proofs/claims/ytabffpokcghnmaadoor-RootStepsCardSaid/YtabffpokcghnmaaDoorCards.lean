/-
  DERIVED. GIVEN WITH THE SEED: THE CARDS: each row of YtabffpokcghnmaaDoorRows.lean that lists a variable, with what it lists TIED to the program's text (the seventh form; the later family's looks); each row that meets fmt, with fmt's text TOLD by the authors' own Lean function (tested against real Go, not proved from fmt's source: count such statements apart). THE CARD IS WHAT COUNTS. Prove the row's statement (the work); the ties are given (YtabffpokcghnmaaDoorTie.lean); close each card by the builder's one call (the guide's Derived/Test/ToyasCard.lean, 'card_holds'). Laid BY PROGRAM, IN A SANDBOX (cutbox-door.mjs). By AI agents, Wed Nov 11 2026. No macro, syntax, notation, axiom, sorry.
-/
import Derived.Test.YtabffpokcghnmaaDoorRows
import GoSem.ClaimSeven
namespace Go.Proofs.YtabffpokcghnmaaDoor
namespace Rows

/-- THE TIED CARD OF 'brackenlaw03.RootDoes'. -/
def rootDoesCard : Claim7 := { stood := { row := rootDoesRow, standIns := [], harness := (true, "062d6bbe0767de81791c86f6d8ada0e1bea52532c45e8e657063ad4df4054a43"), looks := false }, kinds := [], alts := [], laidByText := true, laidKinds := [.data], laidTests := true, laidLooks := .later }
def RootDoesCardSaid : Prop := Claim7.holds Tryd.pinned (.plain (OpenSpec.ofChange rootDoesSpec)) rootDoesCard

/-- THE TIED CARD OF 'brackenlaw03.RootOrder'. -/
def rootOrderCard : Claim7 := { stood := { row := rootOrderRow, standIns := [], harness := (true, "062d6bbe0767de81791c86f6d8ada0e1bea52532c45e8e657063ad4df4054a43"), looks := false }, kinds := [], alts := [], laidByText := true, laidKinds := [.data], laidTests := true, laidLooks := .later }
def RootOrderCardSaid : Prop := Claim7.holds Tryd.pinned (.plain (OpenSpec.ofChange rootOrderSpec)) rootOrderCard

/-- THE TIED CARD OF 'brackenlaw03.RootSteps'. -/
def rootStepsCard : Claim7 := { stood := { row := rootStepsRow, standIns := [], harness := (true, "062d6bbe0767de81791c86f6d8ada0e1bea52532c45e8e657063ad4df4054a43"), looks := false }, kinds := [], alts := [], laidByText := true, laidKinds := [.data], laidTests := true, laidLooks := .later }
def RootStepsCardSaid : Prop := Claim7.holds Tryd.pinned (.plain (OpenSpec.ofChange rootStepsSpec)) rootStepsCard

/-- THE TIED CARD OF 'brackenlaw03.RootSum'. -/
def rootSumCard : Claim7 := { stood := { row := rootSumRow, standIns := [], harness := (true, "062d6bbe0767de81791c86f6d8ada0e1bea52532c45e8e657063ad4df4054a43"), looks := false }, kinds := [], alts := [], laidByText := true, laidKinds := [.data], laidTests := true, laidLooks := .later }
def RootSumCardSaid : Prop := Claim7.holds Tryd.pinned (.plain (OpenSpec.ofChange rootSumSpec)) rootSumCard

/-- THE SECOND FORM's CARD OF 'brackenlaw03.RootDoes'. -/
def rootDoesUptoCard : Claim7 := { stood := { row := rootDoesUptoRow, standIns := [], harness := (true, "062d6bbe0767de81791c86f6d8ada0e1bea52532c45e8e657063ad4df4054a43"), looks := false }, kinds := [], alts := [], laidByText := true, laidKinds := [.data], laidTests := true, laidLooks := .later }
def RootDoesUptoCardSaid : Prop := Claim7.holds Tryd.pinned (.plain (OpenSpec.upto rootDoesSpec)) rootDoesUptoCard

/-- THE SECOND FORM's CARD OF 'brackenlaw03.RootOrder'. -/
def rootOrderUptoCard : Claim7 := { stood := { row := rootOrderUptoRow, standIns := [], harness := (true, "062d6bbe0767de81791c86f6d8ada0e1bea52532c45e8e657063ad4df4054a43"), looks := false }, kinds := [], alts := [], laidByText := true, laidKinds := [.data], laidTests := true, laidLooks := .later }
def RootOrderUptoCardSaid : Prop := Claim7.holds Tryd.pinned (.plain (OpenSpec.upto rootOrderSpec)) rootOrderUptoCard

/-- THE SECOND FORM's CARD OF 'brackenlaw03.RootSteps'. -/
def rootStepsUptoCard : Claim7 := { stood := { row := rootStepsUptoRow, standIns := [], harness := (true, "062d6bbe0767de81791c86f6d8ada0e1bea52532c45e8e657063ad4df4054a43"), looks := false }, kinds := [], alts := [], laidByText := true, laidKinds := [.data], laidTests := true, laidLooks := .later }
def RootStepsUptoCardSaid : Prop := Claim7.holds Tryd.pinned (.plain (OpenSpec.upto rootStepsSpec)) rootStepsUptoCard

/-- THE SECOND FORM's CARD OF 'brackenlaw03.RootSum'. -/
def rootSumUptoCard : Claim7 := { stood := { row := rootSumUptoRow, standIns := [], harness := (true, "062d6bbe0767de81791c86f6d8ada0e1bea52532c45e8e657063ad4df4054a43"), looks := false }, kinds := [], alts := [], laidByText := true, laidKinds := [.data], laidTests := true, laidLooks := .later }
def RootSumUptoCardSaid : Prop := Claim7.holds Tryd.pinned (.plain (OpenSpec.upto rootSumSpec)) rootSumUptoCard
end Rows
end Go.Proofs.YtabffpokcghnmaaDoor
