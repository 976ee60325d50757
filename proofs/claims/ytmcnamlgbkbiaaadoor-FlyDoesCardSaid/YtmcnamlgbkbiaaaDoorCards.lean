/-
  DERIVED. GIVEN WITH THE SEED: THE CARDS: each row of YtmcnamlgbkbiaaaDoorRows.lean that lists a variable, with what it lists TIED to the program's text (the seventh form; the later family's looks); each row that meets fmt, with fmt's text TOLD by the authors' own Lean function (tested against real Go, not proved from fmt's source: count such statements apart). THE CARD IS WHAT COUNTS. Prove the row's statement (the work); the ties are given (YtmcnamlgbkbiaaaDoorTie.lean); close each card by the builder's one call (the guide's Derived/Test/ToyasCard.lean, 'card_holds'). Laid BY PROGRAM, IN A SANDBOX (cutbox-door.mjs). By AI agents, Wed Nov 11 2026. No macro, syntax, notation, axiom, sorry.
-/
import Derived.Test.YtmcnamlgbkbiaaaDoorRows
import GoSem.ClaimSeven
namespace Go.Proofs.YtmcnamlgbkbiaaaDoor
namespace Rows

/-- THE TIED CARD OF 'brackenlaw15.FlyDoes'. -/
def flyDoesCard : Claim7 := { stood := { row := flyDoesRow, standIns := [], harness := (true, "443a23df233bf1e92b7f69e311c6e62f5f24e3061f85b68216510dff1dcea29b"), looks := false }, kinds := [], alts := [], laidByText := true, laidKinds := [.data], laidTests := true, laidLooks := .later }
def FlyDoesCardSaid : Prop := Claim7.holds Tryd.pinned (.plain (OpenSpec.ofChange flyDoesSpec)) flyDoesCard

/-- THE TIED CARD OF 'brackenlaw15.FlyBack'. -/
def flyBackCard : Claim7 := { stood := { row := flyBackRow, standIns := [], harness := (true, "443a23df233bf1e92b7f69e311c6e62f5f24e3061f85b68216510dff1dcea29b"), looks := false }, kinds := [], alts := [], laidByText := true, laidKinds := [.data], laidTests := true, laidLooks := .later }
def FlyBackCardSaid : Prop := Claim7.holds Tryd.pinned (.plain (OpenSpec.ofChange flyBackSpec)) flyBackCard

/-- THE TIED CARD OF 'brackenlaw15.FlySums'. -/
def flySumsCard : Claim7 := { stood := { row := flySumsRow, standIns := [], harness := (true, "443a23df233bf1e92b7f69e311c6e62f5f24e3061f85b68216510dff1dcea29b"), looks := false }, kinds := [], alts := [], laidByText := true, laidKinds := [.data], laidTests := true, laidLooks := .later }
def FlySumsCardSaid : Prop := Claim7.holds Tryd.pinned (.plain (OpenSpec.ofChange flySumsSpec)) flySumsCard

/-- THE TIED CARD OF 'brackenlaw15.FlyTurns'. -/
def flyTurnsCard : Claim7 := { stood := { row := flyTurnsRow, standIns := [], harness := (true, "443a23df233bf1e92b7f69e311c6e62f5f24e3061f85b68216510dff1dcea29b"), looks := false }, kinds := [], alts := [], laidByText := true, laidKinds := [.data], laidTests := true, laidLooks := .later }
def FlyTurnsCardSaid : Prop := Claim7.holds Tryd.pinned (.plain (OpenSpec.ofChange flyTurnsSpec)) flyTurnsCard

/-- THE TIED CARD OF 'brackenlaw15.FlyDft'. -/
def flyDftCard : Claim7 := { stood := { row := flyDftRow, standIns := [], harness := (true, "443a23df233bf1e92b7f69e311c6e62f5f24e3061f85b68216510dff1dcea29b"), looks := false }, kinds := [], alts := [], laidByText := true, laidKinds := [.data], laidTests := true, laidLooks := .later }
def FlyDftCardSaid : Prop := Claim7.holds Tryd.pinned (.plain (OpenSpec.ofChange flyDftSpec)) flyDftCard

/-- THE TIED CARD OF 'brackenlaw15.FlyPoints'. -/
def flyPointsCard : Claim7 := { stood := { row := flyPointsRow, standIns := [], harness := (true, "443a23df233bf1e92b7f69e311c6e62f5f24e3061f85b68216510dff1dcea29b"), looks := false }, kinds := [], alts := [], laidByText := true, laidKinds := [.data], laidTests := true, laidLooks := .later }
def FlyPointsCardSaid : Prop := Claim7.holds Tryd.pinned (.plain (OpenSpec.ofChange flyPointsSpec)) flyPointsCard

/-- THE TIED CARD OF 'brackenlaw15.FlyWeighs'. -/
def flyWeighsCard : Claim7 := { stood := { row := flyWeighsRow, standIns := [], harness := (true, "443a23df233bf1e92b7f69e311c6e62f5f24e3061f85b68216510dff1dcea29b"), looks := false }, kinds := [], alts := [], laidByText := true, laidKinds := [.data], laidTests := true, laidLooks := .later }
def FlyWeighsCardSaid : Prop := Claim7.holds Tryd.pinned (.plain (OpenSpec.ofChange flyWeighsSpec)) flyWeighsCard

/-- THE SECOND FORM's CARD OF 'brackenlaw15.FlyDoes'. -/
def flyDoesUptoCard : Claim7 := { stood := { row := flyDoesUptoRow, standIns := [], harness := (true, "443a23df233bf1e92b7f69e311c6e62f5f24e3061f85b68216510dff1dcea29b"), looks := false }, kinds := [], alts := [], laidByText := true, laidKinds := [.data], laidTests := true, laidLooks := .later }
def FlyDoesUptoCardSaid : Prop := Claim7.holds Tryd.pinned (.plain (OpenSpec.upto flyDoesSpec)) flyDoesUptoCard

/-- THE SECOND FORM's CARD OF 'brackenlaw15.FlyBack'. -/
def flyBackUptoCard : Claim7 := { stood := { row := flyBackUptoRow, standIns := [], harness := (true, "443a23df233bf1e92b7f69e311c6e62f5f24e3061f85b68216510dff1dcea29b"), looks := false }, kinds := [], alts := [], laidByText := true, laidKinds := [.data], laidTests := true, laidLooks := .later }
def FlyBackUptoCardSaid : Prop := Claim7.holds Tryd.pinned (.plain (OpenSpec.upto flyBackSpec)) flyBackUptoCard

/-- THE SECOND FORM's CARD OF 'brackenlaw15.FlySums'. -/
def flySumsUptoCard : Claim7 := { stood := { row := flySumsUptoRow, standIns := [], harness := (true, "443a23df233bf1e92b7f69e311c6e62f5f24e3061f85b68216510dff1dcea29b"), looks := false }, kinds := [], alts := [], laidByText := true, laidKinds := [.data], laidTests := true, laidLooks := .later }
def FlySumsUptoCardSaid : Prop := Claim7.holds Tryd.pinned (.plain (OpenSpec.upto flySumsSpec)) flySumsUptoCard

/-- THE SECOND FORM's CARD OF 'brackenlaw15.FlyTurns'. -/
def flyTurnsUptoCard : Claim7 := { stood := { row := flyTurnsUptoRow, standIns := [], harness := (true, "443a23df233bf1e92b7f69e311c6e62f5f24e3061f85b68216510dff1dcea29b"), looks := false }, kinds := [], alts := [], laidByText := true, laidKinds := [.data], laidTests := true, laidLooks := .later }
def FlyTurnsUptoCardSaid : Prop := Claim7.holds Tryd.pinned (.plain (OpenSpec.upto flyTurnsSpec)) flyTurnsUptoCard

/-- THE SECOND FORM's CARD OF 'brackenlaw15.FlyDft'. -/
def flyDftUptoCard : Claim7 := { stood := { row := flyDftUptoRow, standIns := [], harness := (true, "443a23df233bf1e92b7f69e311c6e62f5f24e3061f85b68216510dff1dcea29b"), looks := false }, kinds := [], alts := [], laidByText := true, laidKinds := [.data], laidTests := true, laidLooks := .later }
def FlyDftUptoCardSaid : Prop := Claim7.holds Tryd.pinned (.plain (OpenSpec.upto flyDftSpec)) flyDftUptoCard

/-- THE SECOND FORM's CARD OF 'brackenlaw15.FlyPoints'. -/
def flyPointsUptoCard : Claim7 := { stood := { row := flyPointsUptoRow, standIns := [], harness := (true, "443a23df233bf1e92b7f69e311c6e62f5f24e3061f85b68216510dff1dcea29b"), looks := false }, kinds := [], alts := [], laidByText := true, laidKinds := [.data], laidTests := true, laidLooks := .later }
def FlyPointsUptoCardSaid : Prop := Claim7.holds Tryd.pinned (.plain (OpenSpec.upto flyPointsSpec)) flyPointsUptoCard

/-- THE SECOND FORM's CARD OF 'brackenlaw15.FlyWeighs'. -/
def flyWeighsUptoCard : Claim7 := { stood := { row := flyWeighsUptoRow, standIns := [], harness := (true, "443a23df233bf1e92b7f69e311c6e62f5f24e3061f85b68216510dff1dcea29b"), looks := false }, kinds := [], alts := [], laidByText := true, laidKinds := [.data], laidTests := true, laidLooks := .later }
def FlyWeighsUptoCardSaid : Prop := Claim7.holds Tryd.pinned (.plain (OpenSpec.upto flyWeighsSpec)) flyWeighsUptoCard
end Rows
end Go.Proofs.YtmcnamlgbkbiaaaDoor
