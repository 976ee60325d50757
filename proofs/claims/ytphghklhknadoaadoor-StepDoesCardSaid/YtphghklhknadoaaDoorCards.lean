/-
  DERIVED. GIVEN WITH THE SEED: THE CARDS: each row of YtphghklhknadoaaDoorRows.lean that lists a variable, with what it lists TIED to the program's text (the seventh form; the later family's looks); each row that meets fmt, with fmt's text TOLD by the authors' own Lean function (tested against real Go, not proved from fmt's source: count such statements apart). THE CARD IS WHAT COUNTS. Prove the row's statement (the work); the ties are given (YtphghklhknadoaaDoorTie.lean); close each card by the builder's one call (the guide's Derived/Test/ToyasCard.lean, 'card_holds'). Laid BY PROGRAM, IN A SANDBOX (cutbox-door.mjs). By AI agents, Wed Nov 11 2026. No macro, syntax, notation, axiom, sorry.
-/
import Derived.Test.YtphghklhknadoaaDoorRows
import GoSem.ClaimSeven
namespace Go.Proofs.YtphghklhknadoaaDoor
namespace Rows

/-- THE TIED CARD OF 'brackenlaw16.StepDoes'. -/
def stepDoesCard : Claim7 := { stood := { row := stepDoesRow, standIns := [], harness := (true, "602bb83c011bf7de597e46e052cef735cde1f3e26dfdf74d82d9cb988f332382"), looks := false }, kinds := [], alts := [], laidByText := true, laidKinds := [.data], laidTests := true, laidLooks := .later }
def StepDoesCardSaid : Prop := Claim7.holds Tryd.pinned (.plain (OpenSpec.ofChange stepDoesSpec)) stepDoesCard

/-- THE TIED CARD OF 'brackenlaw16.StepTells'. -/
def stepTellsCard : Claim7 := { stood := { row := stepTellsRow, standIns := [], harness := (true, "602bb83c011bf7de597e46e052cef735cde1f3e26dfdf74d82d9cb988f332382"), looks := false }, kinds := [], alts := [], laidByText := true, laidKinds := [.data], laidTests := true, laidLooks := .later }
def StepTellsCardSaid : Prop := Claim7.holds Tryd.pinned (.plain (OpenSpec.ofChange stepTellsSpec)) stepTellsCard

/-- THE TIED CARD OF 'brackenlaw16.StepWhole'. -/
def stepWholeCard : Claim7 := { stood := { row := stepWholeRow, standIns := [], harness := (true, "602bb83c011bf7de597e46e052cef735cde1f3e26dfdf74d82d9cb988f332382"), looks := false }, kinds := [], alts := [], laidByText := true, laidKinds := [.data], laidTests := true, laidLooks := .later }
def StepWholeCardSaid : Prop := Claim7.holds Tryd.pinned (.plain (OpenSpec.ofChange stepWholeSpec)) stepWholeCard

/-- THE TIED CARD OF 'brackenlaw16.StepPredicts'. -/
def stepPredictsCard : Claim7 := { stood := { row := stepPredictsRow, standIns := [], harness := (true, "602bb83c011bf7de597e46e052cef735cde1f3e26dfdf74d82d9cb988f332382"), looks := false }, kinds := [], alts := [], laidByText := true, laidKinds := [.data], laidTests := true, laidLooks := .later }
def StepPredictsCardSaid : Prop := Claim7.holds Tryd.pinned (.plain (OpenSpec.ofChange stepPredictsSpec)) stepPredictsCard

/-- THE TIED CARD OF 'brackenlaw16.StepSums'. -/
def stepSumsCard : Claim7 := { stood := { row := stepSumsRow, standIns := [], harness := (true, "602bb83c011bf7de597e46e052cef735cde1f3e26dfdf74d82d9cb988f332382"), looks := false }, kinds := [], alts := [], laidByText := true, laidKinds := [.data], laidTests := true, laidLooks := .later }
def StepSumsCardSaid : Prop := Claim7.holds Tryd.pinned (.plain (OpenSpec.ofChange stepSumsSpec)) stepSumsCard

/-- THE TIED CARD OF 'brackenlaw16.StepPlaces'. -/
def stepPlacesCard : Claim7 := { stood := { row := stepPlacesRow, standIns := [], harness := (true, "602bb83c011bf7de597e46e052cef735cde1f3e26dfdf74d82d9cb988f332382"), looks := false }, kinds := [], alts := [], laidByText := true, laidKinds := [.data], laidTests := true, laidLooks := .later }
def StepPlacesCardSaid : Prop := Claim7.holds Tryd.pinned (.plain (OpenSpec.ofChange stepPlacesSpec)) stepPlacesCard

/-- THE TIED CARD OF 'brackenlaw16.StepApart'. -/
def stepApartCard : Claim7 := { stood := { row := stepApartRow, standIns := [], harness := (true, "602bb83c011bf7de597e46e052cef735cde1f3e26dfdf74d82d9cb988f332382"), looks := false }, kinds := [], alts := [], laidByText := true, laidKinds := [.data], laidTests := true, laidLooks := .later }
def StepApartCardSaid : Prop := Claim7.holds Tryd.pinned (.plain (OpenSpec.ofChange stepApartSpec)) stepApartCard

/-- THE TIED CARD OF 'brackenlaw16.StepTables'. -/
def stepTablesCard : Claim7 := { stood := { row := stepTablesRow, standIns := [], harness := (true, "602bb83c011bf7de597e46e052cef735cde1f3e26dfdf74d82d9cb988f332382"), looks := false }, kinds := [], alts := [], laidByText := true, laidKinds := [.data], laidTests := true, laidLooks := .later }
def StepTablesCardSaid : Prop := Claim7.holds Tryd.pinned (.plain (OpenSpec.ofChange stepTablesSpec)) stepTablesCard

/-- THE TIED CARD OF 'brackenlaw16.StepTwist'. -/
def stepTwistCard : Claim7 := { stood := { row := stepTwistRow, standIns := [], harness := (true, "602bb83c011bf7de597e46e052cef735cde1f3e26dfdf74d82d9cb988f332382"), looks := false }, kinds := [], alts := [], laidByText := true, laidKinds := [.data], laidTests := true, laidLooks := .later }
def StepTwistCardSaid : Prop := Claim7.holds Tryd.pinned (.plain (OpenSpec.ofChange stepTwistSpec)) stepTwistCard

/-- THE SECOND FORM's CARD OF 'brackenlaw16.StepDoes'. -/
def stepDoesUptoCard : Claim7 := { stood := { row := stepDoesUptoRow, standIns := [], harness := (true, "602bb83c011bf7de597e46e052cef735cde1f3e26dfdf74d82d9cb988f332382"), looks := false }, kinds := [], alts := [], laidByText := true, laidKinds := [.data], laidTests := true, laidLooks := .later }
def StepDoesUptoCardSaid : Prop := Claim7.holds Tryd.pinned (.plain (OpenSpec.upto stepDoesSpec)) stepDoesUptoCard

/-- THE SECOND FORM's CARD OF 'brackenlaw16.StepTells'. -/
def stepTellsUptoCard : Claim7 := { stood := { row := stepTellsUptoRow, standIns := [], harness := (true, "602bb83c011bf7de597e46e052cef735cde1f3e26dfdf74d82d9cb988f332382"), looks := false }, kinds := [], alts := [], laidByText := true, laidKinds := [.data], laidTests := true, laidLooks := .later }
def StepTellsUptoCardSaid : Prop := Claim7.holds Tryd.pinned (.plain (OpenSpec.upto stepTellsSpec)) stepTellsUptoCard

/-- THE SECOND FORM's CARD OF 'brackenlaw16.StepWhole'. -/
def stepWholeUptoCard : Claim7 := { stood := { row := stepWholeUptoRow, standIns := [], harness := (true, "602bb83c011bf7de597e46e052cef735cde1f3e26dfdf74d82d9cb988f332382"), looks := false }, kinds := [], alts := [], laidByText := true, laidKinds := [.data], laidTests := true, laidLooks := .later }
def StepWholeUptoCardSaid : Prop := Claim7.holds Tryd.pinned (.plain (OpenSpec.upto stepWholeSpec)) stepWholeUptoCard

/-- THE SECOND FORM's CARD OF 'brackenlaw16.StepPredicts'. -/
def stepPredictsUptoCard : Claim7 := { stood := { row := stepPredictsUptoRow, standIns := [], harness := (true, "602bb83c011bf7de597e46e052cef735cde1f3e26dfdf74d82d9cb988f332382"), looks := false }, kinds := [], alts := [], laidByText := true, laidKinds := [.data], laidTests := true, laidLooks := .later }
def StepPredictsUptoCardSaid : Prop := Claim7.holds Tryd.pinned (.plain (OpenSpec.upto stepPredictsSpec)) stepPredictsUptoCard

/-- THE SECOND FORM's CARD OF 'brackenlaw16.StepSums'. -/
def stepSumsUptoCard : Claim7 := { stood := { row := stepSumsUptoRow, standIns := [], harness := (true, "602bb83c011bf7de597e46e052cef735cde1f3e26dfdf74d82d9cb988f332382"), looks := false }, kinds := [], alts := [], laidByText := true, laidKinds := [.data], laidTests := true, laidLooks := .later }
def StepSumsUptoCardSaid : Prop := Claim7.holds Tryd.pinned (.plain (OpenSpec.upto stepSumsSpec)) stepSumsUptoCard

/-- THE SECOND FORM's CARD OF 'brackenlaw16.StepPlaces'. -/
def stepPlacesUptoCard : Claim7 := { stood := { row := stepPlacesUptoRow, standIns := [], harness := (true, "602bb83c011bf7de597e46e052cef735cde1f3e26dfdf74d82d9cb988f332382"), looks := false }, kinds := [], alts := [], laidByText := true, laidKinds := [.data], laidTests := true, laidLooks := .later }
def StepPlacesUptoCardSaid : Prop := Claim7.holds Tryd.pinned (.plain (OpenSpec.upto stepPlacesSpec)) stepPlacesUptoCard

/-- THE SECOND FORM's CARD OF 'brackenlaw16.StepApart'. -/
def stepApartUptoCard : Claim7 := { stood := { row := stepApartUptoRow, standIns := [], harness := (true, "602bb83c011bf7de597e46e052cef735cde1f3e26dfdf74d82d9cb988f332382"), looks := false }, kinds := [], alts := [], laidByText := true, laidKinds := [.data], laidTests := true, laidLooks := .later }
def StepApartUptoCardSaid : Prop := Claim7.holds Tryd.pinned (.plain (OpenSpec.upto stepApartSpec)) stepApartUptoCard

/-- THE SECOND FORM's CARD OF 'brackenlaw16.StepTables'. -/
def stepTablesUptoCard : Claim7 := { stood := { row := stepTablesUptoRow, standIns := [], harness := (true, "602bb83c011bf7de597e46e052cef735cde1f3e26dfdf74d82d9cb988f332382"), looks := false }, kinds := [], alts := [], laidByText := true, laidKinds := [.data], laidTests := true, laidLooks := .later }
def StepTablesUptoCardSaid : Prop := Claim7.holds Tryd.pinned (.plain (OpenSpec.upto stepTablesSpec)) stepTablesUptoCard

/-- THE SECOND FORM's CARD OF 'brackenlaw16.StepTwist'. -/
def stepTwistUptoCard : Claim7 := { stood := { row := stepTwistUptoRow, standIns := [], harness := (true, "602bb83c011bf7de597e46e052cef735cde1f3e26dfdf74d82d9cb988f332382"), looks := false }, kinds := [], alts := [], laidByText := true, laidKinds := [.data], laidTests := true, laidLooks := .later }
def StepTwistUptoCardSaid : Prop := Claim7.holds Tryd.pinned (.plain (OpenSpec.upto stepTwistSpec)) stepTwistUptoCard
end Rows
end Go.Proofs.YtphghklhknadoaaDoor
