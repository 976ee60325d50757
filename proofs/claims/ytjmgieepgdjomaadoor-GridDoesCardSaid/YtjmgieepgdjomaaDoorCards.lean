/-
  DERIVED. GIVEN WITH THE SEED: THE CARDS: each row of YtjmgieepgdjomaaDoorRows.lean that lists a variable, with what it lists TIED to the program's text (the seventh form; the later family's looks); each row that meets fmt, with fmt's text TOLD by the authors' own Lean function (tested against real Go, not proved from fmt's source: count such statements apart). THE CARD IS WHAT COUNTS. Prove the row's statement (the work); the ties are given (YtjmgieepgdjomaaDoorTie.lean); close each card by the builder's one call (the guide's Derived/Test/ToyasCard.lean, 'card_holds'). Laid BY PROGRAM, IN A SANDBOX (cutbox-door.mjs). By AI agents, Wed Nov 11 2026. No macro, syntax, notation, axiom, sorry.
-/
import Derived.Test.YtjmgieepgdjomaaDoorRows
import GoSem.ClaimSeven
namespace Go.Proofs.YtjmgieepgdjomaaDoor
namespace Rows

/-- THE TIED CARD OF 'brackenlaw07.GridDoes'. -/
def gridDoesCard : Claim7 := { stood := { row := gridDoesRow, standIns := [], harness := (true, "5c06bc50604984868c0366120ac14d84d6fd3a35479c69259af911248a512438"), looks := false }, kinds := [], alts := [], laidByText := true, laidKinds := [.data], laidTests := true, laidLooks := .later }
def GridDoesCardSaid : Prop := Claim7.holds Tryd.pinned (.plain (OpenSpec.ofChange gridDoesSpec)) gridDoesCard

/-- THE TIED CARD OF 'brackenlaw07.GridBack'. -/
def gridBackCard : Claim7 := { stood := { row := gridBackRow, standIns := [], harness := (true, "5c06bc50604984868c0366120ac14d84d6fd3a35479c69259af911248a512438"), looks := false }, kinds := [], alts := [], laidByText := true, laidKinds := [.data], laidTests := true, laidLooks := .later }
def GridBackCardSaid : Prop := Claim7.holds Tryd.pinned (.plain (OpenSpec.ofChange gridBackSpec)) gridBackCard

/-- THE TIED CARD OF 'brackenlaw07.GridOrder'. -/
def gridOrderCard : Claim7 := { stood := { row := gridOrderRow, standIns := [], harness := (true, "5c06bc50604984868c0366120ac14d84d6fd3a35479c69259af911248a512438"), looks := false }, kinds := [], alts := [], laidByText := true, laidKinds := [.data], laidTests := true, laidLooks := .later }
def GridOrderCardSaid : Prop := Claim7.holds Tryd.pinned (.plain (OpenSpec.ofChange gridOrderSpec)) gridOrderCard

/-- THE TIED CARD OF 'brackenlaw07.GridOne'. -/
def gridOneCard : Claim7 := { stood := { row := gridOneRow, standIns := [], harness := (true, "5c06bc50604984868c0366120ac14d84d6fd3a35479c69259af911248a512438"), looks := false }, kinds := [], alts := [], laidByText := true, laidKinds := [.data], laidTests := true, laidLooks := .later }
def GridOneCardSaid : Prop := Claim7.holds Tryd.pinned (.plain (OpenSpec.ofChange gridOneSpec)) gridOneCard

/-- THE SECOND FORM's CARD OF 'brackenlaw07.GridDoes'. -/
def gridDoesUptoCard : Claim7 := { stood := { row := gridDoesUptoRow, standIns := [], harness := (true, "5c06bc50604984868c0366120ac14d84d6fd3a35479c69259af911248a512438"), looks := false }, kinds := [], alts := [], laidByText := true, laidKinds := [.data], laidTests := true, laidLooks := .later }
def GridDoesUptoCardSaid : Prop := Claim7.holds Tryd.pinned (.plain (OpenSpec.upto gridDoesSpec)) gridDoesUptoCard

/-- THE SECOND FORM's CARD OF 'brackenlaw07.GridBack'. -/
def gridBackUptoCard : Claim7 := { stood := { row := gridBackUptoRow, standIns := [], harness := (true, "5c06bc50604984868c0366120ac14d84d6fd3a35479c69259af911248a512438"), looks := false }, kinds := [], alts := [], laidByText := true, laidKinds := [.data], laidTests := true, laidLooks := .later }
def GridBackUptoCardSaid : Prop := Claim7.holds Tryd.pinned (.plain (OpenSpec.upto gridBackSpec)) gridBackUptoCard

/-- THE SECOND FORM's CARD OF 'brackenlaw07.GridOrder'. -/
def gridOrderUptoCard : Claim7 := { stood := { row := gridOrderUptoRow, standIns := [], harness := (true, "5c06bc50604984868c0366120ac14d84d6fd3a35479c69259af911248a512438"), looks := false }, kinds := [], alts := [], laidByText := true, laidKinds := [.data], laidTests := true, laidLooks := .later }
def GridOrderUptoCardSaid : Prop := Claim7.holds Tryd.pinned (.plain (OpenSpec.upto gridOrderSpec)) gridOrderUptoCard

/-- THE SECOND FORM's CARD OF 'brackenlaw07.GridOne'. -/
def gridOneUptoCard : Claim7 := { stood := { row := gridOneUptoRow, standIns := [], harness := (true, "5c06bc50604984868c0366120ac14d84d6fd3a35479c69259af911248a512438"), looks := false }, kinds := [], alts := [], laidByText := true, laidKinds := [.data], laidTests := true, laidLooks := .later }
def GridOneUptoCardSaid : Prop := Claim7.holds Tryd.pinned (.plain (OpenSpec.upto gridOneSpec)) gridOneUptoCard
end Rows
end Go.Proofs.YtjmgieepgdjomaaDoor
