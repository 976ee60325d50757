/-
  DERIVED. GIVEN WITH THE SEED: THE CARDS: each row of YtmkbgocmddjfbaaDoorRows.lean that lists a variable, with what it lists TIED to the program's text (the seventh form; the later family's looks); each row that meets fmt, with fmt's text TOLD by the authors' own Lean function (tested against real Go, not proved from fmt's source: count such statements apart). THE CARD IS WHAT COUNTS. Prove the row's statement (the work); the ties are given (YtmkbgocmddjfbaaDoorTie.lean); close each card by the builder's one call (the guide's Derived/Test/ToyasCard.lean, 'card_holds'). Laid BY PROGRAM, IN A SANDBOX (cutbox-door.mjs). By AI agents, Wed Nov 11 2026. No macro, syntax, notation, axiom, sorry.
-/
import Derived.Test.YtmkbgocmddjfbaaDoorRows
import GoSem.ClaimSeven
namespace Go.Proofs.YtmkbgocmddjfbaaDoor
namespace Rows

/-- THE TIED CARD OF 'brackenlaw06.DftDoes'. -/
def dftDoesCard : Claim7 := { stood := { row := dftDoesRow, standIns := [], harness := (true, "e8793ddc9f76ca498716a27231d6e673c901a3c0699d275b57ea0a7551ed728b"), looks := false }, kinds := [], alts := [], laidByText := true, laidKinds := [.data], laidTests := true, laidLooks := .later }
def DftDoesCardSaid : Prop := Claim7.holds Tryd.pinned (.plain (OpenSpec.ofChange dftDoesSpec)) dftDoesCard

/-- THE TIED CARD OF 'brackenlaw06.DftBack'. -/
def dftBackCard : Claim7 := { stood := { row := dftBackRow, standIns := [], harness := (true, "e8793ddc9f76ca498716a27231d6e673c901a3c0699d275b57ea0a7551ed728b"), looks := false }, kinds := [], alts := [], laidByText := true, laidKinds := [.data], laidTests := true, laidLooks := .later }
def DftBackCardSaid : Prop := Claim7.holds Tryd.pinned (.plain (OpenSpec.ofChange dftBackSpec)) dftBackCard

/-- THE TIED CARD OF 'brackenlaw06.DftSums'. -/
def dftSumsCard : Claim7 := { stood := { row := dftSumsRow, standIns := [], harness := (true, "e8793ddc9f76ca498716a27231d6e673c901a3c0699d275b57ea0a7551ed728b"), looks := false }, kinds := [], alts := [], laidByText := true, laidKinds := [.data], laidTests := true, laidLooks := .later }
def DftSumsCardSaid : Prop := Claim7.holds Tryd.pinned (.plain (OpenSpec.ofChange dftSumsSpec)) dftSumsCard

/-- THE TIED CARD OF 'brackenlaw06.DftWrap'. -/
def dftWrapCard : Claim7 := { stood := { row := dftWrapRow, standIns := [], harness := (true, "e8793ddc9f76ca498716a27231d6e673c901a3c0699d275b57ea0a7551ed728b"), looks := false }, kinds := [], alts := [], laidByText := true, laidKinds := [.data], laidTests := true, laidLooks := .later }
def DftWrapCardSaid : Prop := Claim7.holds Tryd.pinned (.plain (OpenSpec.ofChange dftWrapSpec)) dftWrapCard

/-- THE SECOND FORM's CARD OF 'brackenlaw06.DftDoes'. -/
def dftDoesUptoCard : Claim7 := { stood := { row := dftDoesUptoRow, standIns := [], harness := (true, "e8793ddc9f76ca498716a27231d6e673c901a3c0699d275b57ea0a7551ed728b"), looks := false }, kinds := [], alts := [], laidByText := true, laidKinds := [.data], laidTests := true, laidLooks := .later }
def DftDoesUptoCardSaid : Prop := Claim7.holds Tryd.pinned (.plain (OpenSpec.upto dftDoesSpec)) dftDoesUptoCard

/-- THE SECOND FORM's CARD OF 'brackenlaw06.DftBack'. -/
def dftBackUptoCard : Claim7 := { stood := { row := dftBackUptoRow, standIns := [], harness := (true, "e8793ddc9f76ca498716a27231d6e673c901a3c0699d275b57ea0a7551ed728b"), looks := false }, kinds := [], alts := [], laidByText := true, laidKinds := [.data], laidTests := true, laidLooks := .later }
def DftBackUptoCardSaid : Prop := Claim7.holds Tryd.pinned (.plain (OpenSpec.upto dftBackSpec)) dftBackUptoCard

/-- THE SECOND FORM's CARD OF 'brackenlaw06.DftSums'. -/
def dftSumsUptoCard : Claim7 := { stood := { row := dftSumsUptoRow, standIns := [], harness := (true, "e8793ddc9f76ca498716a27231d6e673c901a3c0699d275b57ea0a7551ed728b"), looks := false }, kinds := [], alts := [], laidByText := true, laidKinds := [.data], laidTests := true, laidLooks := .later }
def DftSumsUptoCardSaid : Prop := Claim7.holds Tryd.pinned (.plain (OpenSpec.upto dftSumsSpec)) dftSumsUptoCard

/-- THE SECOND FORM's CARD OF 'brackenlaw06.DftWrap'. -/
def dftWrapUptoCard : Claim7 := { stood := { row := dftWrapUptoRow, standIns := [], harness := (true, "e8793ddc9f76ca498716a27231d6e673c901a3c0699d275b57ea0a7551ed728b"), looks := false }, kinds := [], alts := [], laidByText := true, laidKinds := [.data], laidTests := true, laidLooks := .later }
def DftWrapUptoCardSaid : Prop := Claim7.holds Tryd.pinned (.plain (OpenSpec.upto dftWrapSpec)) dftWrapUptoCard
end Rows
end Go.Proofs.YtmkbgocmddjfbaaDoor
