/-
  NARROWER THAN 'FOR EVERY INPUT', by the rows' own cells (each row's printed sentence says how): StepDoes: laid · StepTells: laid · StepWhole: laid · StepPredicts: laid · StepSums: laid · StepPlaces: laid · StepApart: laid · StepTables: laid · StepTwist: laid.
  DERIVED. THE GIVEN ROWS OF THIS SEAT. 9 by the template 'for every input the law returns true; each argument reads behind the call as it read before'; 0 by the template 'total and deterministic' (their statements: YtphghklhknadoaaDoorTotals.lean).
  GIVEN WITH THE SEED: the statements are not yours to turn. If you find one false, say at which input.
  Laid BY PROGRAM, IN A SANDBOX (cutbox-rows.mjs): the forced cells as the released guide's own fill.sh prints them over the translation a3c9562a03c13749… (all of the seat's roots in one cut). By AI agents, Wed Nov 11 2026. No macro, syntax, notation, axiom, sorry.
-/
import Derived.Test.YtphghklhknadoaaDoorChecked
import GoSem.Claim
import GoSem.ClaimJoined
import GoSem.ClaimMapViews
import Derived.JoinedTies
import Derived.KernelRfl
namespace Go.Proofs.YtphghklhknadoaaDoor
/- THE CELL 'sum', in the pinned program and in every row, IS THE sha256 OF THE DUMP (.gsa) THAT YtphghklhknadoaaDoorProg.lean LOADS. Nothing in Lean hashes anything: it is a label: what it is worth is what the hold of that sum in a sandbox is worth. -/
noncomputable def Tryd.pinned : Pinned := { name := "ytphghklhknadoaadoor", sum := "a3c9562a03c13749da0df7203ec40deaee0edb159008ade95e10da8fd5ec8220", checked := Tryd.checked }
namespace Rows
def none {H : Type} : Left H := { results := [], args := [] }

/- WHAT THE LISTED PACKAGE-LEVEL VARIABLES READ AS WHEN THE CALL BEGINS. Each datum BY PROGRAM (the guide's laid-datum.mjs) off the statement by which the dump's own 'gosem.cut.vars' lays the variable. In a bare row this is a premise. The card (YtphghklhknadoaaDoorCards.lean) ties it to the program's text. -/
def laid_bracken_root_generators {H : Type} : DataW H := .agg [.agg [.lit (.int .u64 18446744069414584321), .lit (.int .u64 7)], .agg [.lit (.int .u64 998244353), .lit (.int .u64 3)], .agg [.lit (.int .u64 2013265921), .lit (.int .u64 31)]]

/-- 'brackenlaw16.StepDoes': WHATEVER THE INPUT: true; the input reads as it did. -/
def stepDoesSpec : ChangeSpec := { name := "stepDoes", fn := fun _ => fun
  | [d1, d2, d3, d4, d5] => { results := [.lit (.bool true)], args := [d1, d2, d3, d4, d5] }
  | _ => none }
def stepDoesRow : OpenClaim := { program := "ytphghklhknadoaadoor", sum := "a3c9562a03c13749da0df7203ec40deaee0edb159008ade95e10da8fd5ec8220", func := "bracken/brackenlaw16.StepDoes", spec := "stepDoes", unfollowed := true, recurses := true, named := ["bracken/root.generators", "math/bits.divideError", "math/bits.overflowError"], apart := false, laid := [("bracken/root.generators", laid_bracken_root_generators)] }
def StepDoesSaid : Prop := stepDoesRow.holds Tryd.pinned (OpenSpec.ofChange stepDoesSpec)

/-- ITS FALSE NEIGHBOUR: 'it returns false'. Refute it at one input. -/
def stepDoesWrong : ChangeSpec := { name := "stepDoes", fn := fun _ => fun
  | [d1, d2, d3, d4, d5] => { results := [.lit (.bool false)], args := [d1, d2, d3, d4, d5] }
  | _ => none }
def StepDoesWrongFalsely : Prop := stepDoesRow.holds Tryd.pinned (OpenSpec.ofChange stepDoesWrong)

/-- 'brackenlaw16.StepTells': WHATEVER THE INPUT: true; the input reads as it did. -/
def stepTellsSpec : ChangeSpec := { name := "stepTells", fn := fun _ => fun
  | [d1, d2, d3, d4] => { results := [.lit (.bool true)], args := [d1, d2, d3, d4] }
  | _ => none }
def stepTellsRow : OpenClaim := { program := "ytphghklhknadoaadoor", sum := "a3c9562a03c13749da0df7203ec40deaee0edb159008ade95e10da8fd5ec8220", func := "bracken/brackenlaw16.StepTells", spec := "stepTells", unfollowed := true, recurses := true, named := ["bracken/root.generators", "math/bits.divideError", "math/bits.overflowError"], apart := false, laid := [("bracken/root.generators", laid_bracken_root_generators)] }
def StepTellsSaid : Prop := stepTellsRow.holds Tryd.pinned (OpenSpec.ofChange stepTellsSpec)

/-- ITS FALSE NEIGHBOUR: 'it returns false'. Refute it at one input. -/
def stepTellsWrong : ChangeSpec := { name := "stepTells", fn := fun _ => fun
  | [d1, d2, d3, d4] => { results := [.lit (.bool false)], args := [d1, d2, d3, d4] }
  | _ => none }
def StepTellsWrongFalsely : Prop := stepTellsRow.holds Tryd.pinned (OpenSpec.ofChange stepTellsWrong)

/-- 'brackenlaw16.StepWhole': WHATEVER THE INPUT: true; the input reads as it did. -/
def stepWholeSpec : ChangeSpec := { name := "stepWhole", fn := fun _ => fun
  | [d1, d2, d3, d4, d5] => { results := [.lit (.bool true)], args := [d1, d2, d3, d4, d5] }
  | _ => none }
def stepWholeRow : OpenClaim := { program := "ytphghklhknadoaadoor", sum := "a3c9562a03c13749da0df7203ec40deaee0edb159008ade95e10da8fd5ec8220", func := "bracken/brackenlaw16.StepWhole", spec := "stepWhole", unfollowed := true, recurses := true, named := ["bracken/root.generators", "math/bits.divideError", "math/bits.overflowError"], apart := false, laid := [("bracken/root.generators", laid_bracken_root_generators)] }
def StepWholeSaid : Prop := stepWholeRow.holds Tryd.pinned (OpenSpec.ofChange stepWholeSpec)

/-- ITS FALSE NEIGHBOUR: 'it returns false'. Refute it at one input. -/
def stepWholeWrong : ChangeSpec := { name := "stepWhole", fn := fun _ => fun
  | [d1, d2, d3, d4, d5] => { results := [.lit (.bool false)], args := [d1, d2, d3, d4, d5] }
  | _ => none }
def StepWholeWrongFalsely : Prop := stepWholeRow.holds Tryd.pinned (OpenSpec.ofChange stepWholeWrong)

/-- 'brackenlaw16.StepPredicts': WHATEVER THE INPUT: true; the input reads as it did. -/
def stepPredictsSpec : ChangeSpec := { name := "stepPredicts", fn := fun _ => fun
  | [d1, d2, d3, d4, d5] => { results := [.lit (.bool true)], args := [d1, d2, d3, d4, d5] }
  | _ => none }
def stepPredictsRow : OpenClaim := { program := "ytphghklhknadoaadoor", sum := "a3c9562a03c13749da0df7203ec40deaee0edb159008ade95e10da8fd5ec8220", func := "bracken/brackenlaw16.StepPredicts", spec := "stepPredicts", unfollowed := true, recurses := true, named := ["bracken/root.generators", "math/bits.divideError", "math/bits.overflowError"], apart := false, laid := [("bracken/root.generators", laid_bracken_root_generators)] }
def StepPredictsSaid : Prop := stepPredictsRow.holds Tryd.pinned (OpenSpec.ofChange stepPredictsSpec)

/-- ITS FALSE NEIGHBOUR: 'it returns false'. Refute it at one input. -/
def stepPredictsWrong : ChangeSpec := { name := "stepPredicts", fn := fun _ => fun
  | [d1, d2, d3, d4, d5] => { results := [.lit (.bool false)], args := [d1, d2, d3, d4, d5] }
  | _ => none }
def StepPredictsWrongFalsely : Prop := stepPredictsRow.holds Tryd.pinned (OpenSpec.ofChange stepPredictsWrong)

/-- 'brackenlaw16.StepSums': WHATEVER THE INPUT: true; the input reads as it did. -/
def stepSumsSpec : ChangeSpec := { name := "stepSums", fn := fun _ => fun
  | [d1, d2, d3, d4, d5, d6, d7] => { results := [.lit (.bool true)], args := [d1, d2, d3, d4, d5, d6, d7] }
  | _ => none }
def stepSumsRow : OpenClaim := { program := "ytphghklhknadoaadoor", sum := "a3c9562a03c13749da0df7203ec40deaee0edb159008ade95e10da8fd5ec8220", func := "bracken/brackenlaw16.StepSums", spec := "stepSums", unfollowed := true, recurses := true, named := ["bracken/root.generators", "math/bits.divideError", "math/bits.overflowError"], apart := false, laid := [("bracken/root.generators", laid_bracken_root_generators)] }
def StepSumsSaid : Prop := stepSumsRow.holds Tryd.pinned (OpenSpec.ofChange stepSumsSpec)

/-- ITS FALSE NEIGHBOUR: 'it returns false'. Refute it at one input. -/
def stepSumsWrong : ChangeSpec := { name := "stepSums", fn := fun _ => fun
  | [d1, d2, d3, d4, d5, d6, d7] => { results := [.lit (.bool false)], args := [d1, d2, d3, d4, d5, d6, d7] }
  | _ => none }
def StepSumsWrongFalsely : Prop := stepSumsRow.holds Tryd.pinned (OpenSpec.ofChange stepSumsWrong)

/-- 'brackenlaw16.StepPlaces': WHATEVER THE INPUT: true; the input reads as it did. -/
def stepPlacesSpec : ChangeSpec := { name := "stepPlaces", fn := fun _ => fun
  | [d1, d2, d3, d4] => { results := [.lit (.bool true)], args := [d1, d2, d3, d4] }
  | _ => none }
def stepPlacesRow : OpenClaim := { program := "ytphghklhknadoaadoor", sum := "a3c9562a03c13749da0df7203ec40deaee0edb159008ade95e10da8fd5ec8220", func := "bracken/brackenlaw16.StepPlaces", spec := "stepPlaces", unfollowed := true, recurses := true, named := ["bracken/root.generators", "math/bits.divideError", "math/bits.overflowError"], apart := false, laid := [("bracken/root.generators", laid_bracken_root_generators)] }
def StepPlacesSaid : Prop := stepPlacesRow.holds Tryd.pinned (OpenSpec.ofChange stepPlacesSpec)

/-- ITS FALSE NEIGHBOUR: 'it returns false'. Refute it at one input. -/
def stepPlacesWrong : ChangeSpec := { name := "stepPlaces", fn := fun _ => fun
  | [d1, d2, d3, d4] => { results := [.lit (.bool false)], args := [d1, d2, d3, d4] }
  | _ => none }
def StepPlacesWrongFalsely : Prop := stepPlacesRow.holds Tryd.pinned (OpenSpec.ofChange stepPlacesWrong)

/-- 'brackenlaw16.StepApart': WHATEVER THE INPUT: true; the input reads as it did. -/
def stepApartSpec : ChangeSpec := { name := "stepApart", fn := fun _ => fun
  | [d1, d2, d3, d4, d5, d6, d7] => { results := [.lit (.bool true)], args := [d1, d2, d3, d4, d5, d6, d7] }
  | _ => none }
def stepApartRow : OpenClaim := { program := "ytphghklhknadoaadoor", sum := "a3c9562a03c13749da0df7203ec40deaee0edb159008ade95e10da8fd5ec8220", func := "bracken/brackenlaw16.StepApart", spec := "stepApart", unfollowed := true, recurses := true, named := ["bracken/root.generators", "math/bits.divideError", "math/bits.overflowError"], apart := false, laid := [("bracken/root.generators", laid_bracken_root_generators)] }
def StepApartSaid : Prop := stepApartRow.holds Tryd.pinned (OpenSpec.ofChange stepApartSpec)

/-- ITS FALSE NEIGHBOUR: 'it returns false'. Refute it at one input. -/
def stepApartWrong : ChangeSpec := { name := "stepApart", fn := fun _ => fun
  | [d1, d2, d3, d4, d5, d6, d7] => { results := [.lit (.bool false)], args := [d1, d2, d3, d4, d5, d6, d7] }
  | _ => none }
def StepApartWrongFalsely : Prop := stepApartRow.holds Tryd.pinned (OpenSpec.ofChange stepApartWrong)

/-- 'brackenlaw16.StepTables': WHATEVER THE INPUT: true; the input reads as it did. -/
def stepTablesSpec : ChangeSpec := { name := "stepTables", fn := fun _ => fun
  | [d1, d2, d3] => { results := [.lit (.bool true)], args := [d1, d2, d3] }
  | _ => none }
def stepTablesRow : OpenClaim := { program := "ytphghklhknadoaadoor", sum := "a3c9562a03c13749da0df7203ec40deaee0edb159008ade95e10da8fd5ec8220", func := "bracken/brackenlaw16.StepTables", spec := "stepTables", unfollowed := true, recurses := true, named := ["bracken/root.generators", "math/bits.divideError", "math/bits.overflowError"], apart := false, laid := [("bracken/root.generators", laid_bracken_root_generators)] }
def StepTablesSaid : Prop := stepTablesRow.holds Tryd.pinned (OpenSpec.ofChange stepTablesSpec)

/-- ITS FALSE NEIGHBOUR: 'it returns false'. Refute it at one input. -/
def stepTablesWrong : ChangeSpec := { name := "stepTables", fn := fun _ => fun
  | [d1, d2, d3] => { results := [.lit (.bool false)], args := [d1, d2, d3] }
  | _ => none }
def StepTablesWrongFalsely : Prop := stepTablesRow.holds Tryd.pinned (OpenSpec.ofChange stepTablesWrong)

/-- 'brackenlaw16.StepTwist': WHATEVER THE INPUT: true; the input reads as it did. -/
def stepTwistSpec : ChangeSpec := { name := "stepTwist", fn := fun _ => fun
  | [d1, d2, d3, d4] => { results := [.lit (.bool true)], args := [d1, d2, d3, d4] }
  | _ => none }
def stepTwistRow : OpenClaim := { program := "ytphghklhknadoaadoor", sum := "a3c9562a03c13749da0df7203ec40deaee0edb159008ade95e10da8fd5ec8220", func := "bracken/brackenlaw16.StepTwist", spec := "stepTwist", unfollowed := true, recurses := true, named := ["bracken/root.generators", "math/bits.divideError", "math/bits.overflowError"], apart := false, laid := [("bracken/root.generators", laid_bracken_root_generators)] }
def StepTwistSaid : Prop := stepTwistRow.holds Tryd.pinned (OpenSpec.ofChange stepTwistSpec)

/-- ITS FALSE NEIGHBOUR: 'it returns false'. Refute it at one input. -/
def stepTwistWrong : ChangeSpec := { name := "stepTwist", fn := fun _ => fun
  | [d1, d2, d3, d4] => { results := [.lit (.bool false)], args := [d1, d2, d3, d4] }
  | _ => none }
def StepTwistWrongFalsely : Prop := stepTwistRow.holds Tryd.pinned (OpenSpec.ofChange stepTwistWrong)

/- THE SECOND FORM. 'bulk': how many values and letters a reading holds, each counted each time it is reached (what is shared counts as often as it is met; a slice's spare places count too). A statement '..UptoSaid' is the law's where the arguments, and the package variables that the reading takes, are together of bulk at most 1048576: NARROWER than '..Said'. Prove '..Said' where nothing that the law and all that it calls make is longer than what came in: it says more and counts as full. Else prove '..UptoSaid'. A law counts once. -/
mutual
def uptoBulk {H : Type} : DataW H → Nat
  | .lit (.string bytes) => bytes.length + 1
  | .lit _ => 1
  | .nil => 1
  | .ptr d => uptoBulk d + 1
  | .slice elems spare => uptoBulkAll elems + uptoBulkAll spare + 1
  | .agg parts => uptoBulkAll parts + 1
  | .iface _ d => uptoBulk d + 1
  | .map entries => uptoBulkEntries entries + 1
  | .held _ => 1
def uptoBulkAll {H : Type} : List (DataW H) → Nat
  | [] => 0
  | d :: r => uptoBulk d + uptoBulkAll r
def uptoBulkEntries {H : Type} : List (Lit × DataW H) → Nat
  | [] => 0
  | x :: r => uptoBulkEntry x + uptoBulkEntries r
def uptoBulkEntry {H : Type} : Lit × DataW H → Nat
  | (.string bytes, d) => bytes.length + uptoBulk d + 1
  | (_, d) => uptoBulk d + 1
 end
def uptoSmall : (H : Type) → List (DataW H) → Bool := fun _ ds => decide (uptoBulkAll ds ≤ 1048576)
def OpenSpec.upto (s : _root_.Go.ChangeSpec) : _root_.Go.OpenSpec := { _root_.Go.OpenSpec.ofChange s with cond := some uptoSmall }

/-- 'brackenlaw16.StepDoes', WHERE WHAT IT READS IS OF BULK AT MOST 1048576: true; the input reads as it did. -/
def stepDoesUptoRow : OpenClaim := { program := "ytphghklhknadoaadoor", sum := "a3c9562a03c13749da0df7203ec40deaee0edb159008ade95e10da8fd5ec8220", func := "bracken/brackenlaw16.StepDoes", spec := "stepDoes", unfollowed := true, recurses := true, named := ["bracken/root.generators", "math/bits.divideError", "math/bits.overflowError"], apart := false, laid := [("bracken/root.generators", laid_bracken_root_generators)], narrowed := true }
def StepDoesUptoSaid : Prop := stepDoesUptoRow.holds Tryd.pinned (OpenSpec.upto stepDoesSpec)

/-- 'brackenlaw16.StepTells', WHERE WHAT IT READS IS OF BULK AT MOST 1048576: true; the input reads as it did. -/
def stepTellsUptoRow : OpenClaim := { program := "ytphghklhknadoaadoor", sum := "a3c9562a03c13749da0df7203ec40deaee0edb159008ade95e10da8fd5ec8220", func := "bracken/brackenlaw16.StepTells", spec := "stepTells", unfollowed := true, recurses := true, named := ["bracken/root.generators", "math/bits.divideError", "math/bits.overflowError"], apart := false, laid := [("bracken/root.generators", laid_bracken_root_generators)], narrowed := true }
def StepTellsUptoSaid : Prop := stepTellsUptoRow.holds Tryd.pinned (OpenSpec.upto stepTellsSpec)

/-- 'brackenlaw16.StepWhole', WHERE WHAT IT READS IS OF BULK AT MOST 1048576: true; the input reads as it did. -/
def stepWholeUptoRow : OpenClaim := { program := "ytphghklhknadoaadoor", sum := "a3c9562a03c13749da0df7203ec40deaee0edb159008ade95e10da8fd5ec8220", func := "bracken/brackenlaw16.StepWhole", spec := "stepWhole", unfollowed := true, recurses := true, named := ["bracken/root.generators", "math/bits.divideError", "math/bits.overflowError"], apart := false, laid := [("bracken/root.generators", laid_bracken_root_generators)], narrowed := true }
def StepWholeUptoSaid : Prop := stepWholeUptoRow.holds Tryd.pinned (OpenSpec.upto stepWholeSpec)

/-- 'brackenlaw16.StepPredicts', WHERE WHAT IT READS IS OF BULK AT MOST 1048576: true; the input reads as it did. -/
def stepPredictsUptoRow : OpenClaim := { program := "ytphghklhknadoaadoor", sum := "a3c9562a03c13749da0df7203ec40deaee0edb159008ade95e10da8fd5ec8220", func := "bracken/brackenlaw16.StepPredicts", spec := "stepPredicts", unfollowed := true, recurses := true, named := ["bracken/root.generators", "math/bits.divideError", "math/bits.overflowError"], apart := false, laid := [("bracken/root.generators", laid_bracken_root_generators)], narrowed := true }
def StepPredictsUptoSaid : Prop := stepPredictsUptoRow.holds Tryd.pinned (OpenSpec.upto stepPredictsSpec)

/-- 'brackenlaw16.StepSums', WHERE WHAT IT READS IS OF BULK AT MOST 1048576: true; the input reads as it did. -/
def stepSumsUptoRow : OpenClaim := { program := "ytphghklhknadoaadoor", sum := "a3c9562a03c13749da0df7203ec40deaee0edb159008ade95e10da8fd5ec8220", func := "bracken/brackenlaw16.StepSums", spec := "stepSums", unfollowed := true, recurses := true, named := ["bracken/root.generators", "math/bits.divideError", "math/bits.overflowError"], apart := false, laid := [("bracken/root.generators", laid_bracken_root_generators)], narrowed := true }
def StepSumsUptoSaid : Prop := stepSumsUptoRow.holds Tryd.pinned (OpenSpec.upto stepSumsSpec)

/-- 'brackenlaw16.StepPlaces', WHERE WHAT IT READS IS OF BULK AT MOST 1048576: true; the input reads as it did. -/
def stepPlacesUptoRow : OpenClaim := { program := "ytphghklhknadoaadoor", sum := "a3c9562a03c13749da0df7203ec40deaee0edb159008ade95e10da8fd5ec8220", func := "bracken/brackenlaw16.StepPlaces", spec := "stepPlaces", unfollowed := true, recurses := true, named := ["bracken/root.generators", "math/bits.divideError", "math/bits.overflowError"], apart := false, laid := [("bracken/root.generators", laid_bracken_root_generators)], narrowed := true }
def StepPlacesUptoSaid : Prop := stepPlacesUptoRow.holds Tryd.pinned (OpenSpec.upto stepPlacesSpec)

/-- 'brackenlaw16.StepApart', WHERE WHAT IT READS IS OF BULK AT MOST 1048576: true; the input reads as it did. -/
def stepApartUptoRow : OpenClaim := { program := "ytphghklhknadoaadoor", sum := "a3c9562a03c13749da0df7203ec40deaee0edb159008ade95e10da8fd5ec8220", func := "bracken/brackenlaw16.StepApart", spec := "stepApart", unfollowed := true, recurses := true, named := ["bracken/root.generators", "math/bits.divideError", "math/bits.overflowError"], apart := false, laid := [("bracken/root.generators", laid_bracken_root_generators)], narrowed := true }
def StepApartUptoSaid : Prop := stepApartUptoRow.holds Tryd.pinned (OpenSpec.upto stepApartSpec)

/-- 'brackenlaw16.StepTables', WHERE WHAT IT READS IS OF BULK AT MOST 1048576: true; the input reads as it did. -/
def stepTablesUptoRow : OpenClaim := { program := "ytphghklhknadoaadoor", sum := "a3c9562a03c13749da0df7203ec40deaee0edb159008ade95e10da8fd5ec8220", func := "bracken/brackenlaw16.StepTables", spec := "stepTables", unfollowed := true, recurses := true, named := ["bracken/root.generators", "math/bits.divideError", "math/bits.overflowError"], apart := false, laid := [("bracken/root.generators", laid_bracken_root_generators)], narrowed := true }
def StepTablesUptoSaid : Prop := stepTablesUptoRow.holds Tryd.pinned (OpenSpec.upto stepTablesSpec)

/-- 'brackenlaw16.StepTwist', WHERE WHAT IT READS IS OF BULK AT MOST 1048576: true; the input reads as it did. -/
def stepTwistUptoRow : OpenClaim := { program := "ytphghklhknadoaadoor", sum := "a3c9562a03c13749da0df7203ec40deaee0edb159008ade95e10da8fd5ec8220", func := "bracken/brackenlaw16.StepTwist", spec := "stepTwist", unfollowed := true, recurses := true, named := ["bracken/root.generators", "math/bits.divideError", "math/bits.overflowError"], apart := false, laid := [("bracken/root.generators", laid_bracken_root_generators)], narrowed := true }
def StepTwistUptoSaid : Prop := stepTwistUptoRow.holds Tryd.pinned (OpenSpec.upto stepTwistSpec)

end Rows
end Go.Proofs.YtphghklhknadoaaDoor
