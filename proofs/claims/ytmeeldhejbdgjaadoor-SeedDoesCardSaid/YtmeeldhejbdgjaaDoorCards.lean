/-
  DERIVED. GIVEN WITH THE SEED: THE CARDS: each row of YtmeeldhejbdgjaaDoorRows.lean that lists a variable, with what it lists TIED to the program's text (the seventh form; the later family's looks); each row that meets fmt, with fmt's text TOLD by the authors' own Lean function (tested against real Go, not proved from fmt's source: count such statements apart). THE CARD IS WHAT COUNTS. Prove the row's statement (the work); the ties are given (YtmeeldhejbdgjaaDoorTie.lean); close each card by the builder's one call (the guide's Derived/Test/ToyasCard.lean, 'card_holds'). Laid BY PROGRAM, IN A SANDBOX (cutbox-door.mjs). By AI agents, Wed Nov 11 2026. No macro, syntax, notation, axiom, sorry.
-/
import Derived.Test.YtmeeldhejbdgjaaDoorRows
import GoSem.ClaimSeven
namespace Go.Proofs.YtmeeldhejbdgjaaDoor
namespace Rows

/-- THE TIED CARD OF 'brackenlaw09.SeedDoes'. -/
def seedDoesCard : Claim7 := { stood := { row := seedDoesRow, standIns := [], harness := (true, "fdcfe2f45a08b47e448512a1353507be34785ccc8c125bce280f002478cc4bf4"), looks := false }, kinds := [], alts := [], laidByText := true, laidKinds := [.data], laidTests := true, laidLooks := .later }
def SeedDoesCardSaid : Prop := Claim7.holds Tryd.pinned (.plain (OpenSpec.ofChange seedDoesSpec)) seedDoesCard

/-- THE TIED CARD OF 'brackenlaw09.SeedTrue'. -/
def seedTrueCard : Claim7 := { stood := { row := seedTrueRow, standIns := [], harness := (true, "fdcfe2f45a08b47e448512a1353507be34785ccc8c125bce280f002478cc4bf4"), looks := false }, kinds := [], alts := [], laidByText := true, laidKinds := [.data], laidTests := true, laidLooks := .later }
def SeedTrueCardSaid : Prop := Claim7.holds Tryd.pinned (.plain (OpenSpec.ofChange seedTrueSpec)) seedTrueCard

/-- THE TIED CARD OF 'brackenlaw09.SeedFalse'. -/
def seedFalseCard : Claim7 := { stood := { row := seedFalseRow, standIns := [], harness := (true, "fdcfe2f45a08b47e448512a1353507be34785ccc8c125bce280f002478cc4bf4"), looks := false }, kinds := [], alts := [], laidByText := true, laidKinds := [.data], laidTests := true, laidLooks := .later }
def SeedFalseCardSaid : Prop := Claim7.holds Tryd.pinned (.plain (OpenSpec.ofChange seedFalseSpec)) seedFalseCard

/-- THE TIED CARD OF 'brackenlaw09.SeedSums'. -/
def seedSumsCard : Claim7 := { stood := { row := seedSumsRow, standIns := [], harness := (true, "fdcfe2f45a08b47e448512a1353507be34785ccc8c125bce280f002478cc4bf4"), looks := false }, kinds := [], alts := [], laidByText := true, laidKinds := [.data], laidTests := true, laidLooks := .later }
def SeedSumsCardSaid : Prop := Claim7.holds Tryd.pinned (.plain (OpenSpec.ofChange seedSumsSpec)) seedSumsCard

/-- THE SECOND FORM's CARD OF 'brackenlaw09.SeedDoes'. -/
def seedDoesUptoCard : Claim7 := { stood := { row := seedDoesUptoRow, standIns := [], harness := (true, "fdcfe2f45a08b47e448512a1353507be34785ccc8c125bce280f002478cc4bf4"), looks := false }, kinds := [], alts := [], laidByText := true, laidKinds := [.data], laidTests := true, laidLooks := .later }
def SeedDoesUptoCardSaid : Prop := Claim7.holds Tryd.pinned (.plain (OpenSpec.upto seedDoesSpec)) seedDoesUptoCard

/-- THE SECOND FORM's CARD OF 'brackenlaw09.SeedTrue'. -/
def seedTrueUptoCard : Claim7 := { stood := { row := seedTrueUptoRow, standIns := [], harness := (true, "fdcfe2f45a08b47e448512a1353507be34785ccc8c125bce280f002478cc4bf4"), looks := false }, kinds := [], alts := [], laidByText := true, laidKinds := [.data], laidTests := true, laidLooks := .later }
def SeedTrueUptoCardSaid : Prop := Claim7.holds Tryd.pinned (.plain (OpenSpec.upto seedTrueSpec)) seedTrueUptoCard

/-- THE SECOND FORM's CARD OF 'brackenlaw09.SeedFalse'. -/
def seedFalseUptoCard : Claim7 := { stood := { row := seedFalseUptoRow, standIns := [], harness := (true, "fdcfe2f45a08b47e448512a1353507be34785ccc8c125bce280f002478cc4bf4"), looks := false }, kinds := [], alts := [], laidByText := true, laidKinds := [.data], laidTests := true, laidLooks := .later }
def SeedFalseUptoCardSaid : Prop := Claim7.holds Tryd.pinned (.plain (OpenSpec.upto seedFalseSpec)) seedFalseUptoCard

/-- THE SECOND FORM's CARD OF 'brackenlaw09.SeedSums'. -/
def seedSumsUptoCard : Claim7 := { stood := { row := seedSumsUptoRow, standIns := [], harness := (true, "fdcfe2f45a08b47e448512a1353507be34785ccc8c125bce280f002478cc4bf4"), looks := false }, kinds := [], alts := [], laidByText := true, laidKinds := [.data], laidTests := true, laidLooks := .later }
def SeedSumsUptoCardSaid : Prop := Claim7.holds Tryd.pinned (.plain (OpenSpec.upto seedSumsSpec)) seedSumsUptoCard
end Rows
end Go.Proofs.YtmeeldhejbdgjaaDoor
