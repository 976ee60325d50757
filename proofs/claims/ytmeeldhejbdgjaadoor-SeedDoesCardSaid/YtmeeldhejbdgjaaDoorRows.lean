/-
  NARROWER THAN 'FOR EVERY INPUT', by the rows' own cells (each row's printed sentence says how): SeedDoes: laid · SeedTrue: laid · SeedFalse: laid · SeedSums: laid.
  DERIVED. THE GIVEN ROWS OF THIS SEAT. 4 by the template 'for every input the law returns true; each argument reads behind the call as it read before'; 0 by the template 'total and deterministic' (their statements: YtmeeldhejbdgjaaDoorTotals.lean).
  GIVEN WITH THE SEED: the statements are not yours to turn. If you find one false, say at which input.
  Laid BY PROGRAM, IN A SANDBOX (cutbox-rows.mjs): the forced cells as the released guide's own fill.sh prints them over the translation 044d705558f019f1… (all of the seat's roots in one cut). By AI agents, Wed Nov 11 2026. No macro, syntax, notation, axiom, sorry.
-/
import Derived.Test.YtmeeldhejbdgjaaDoorChecked
import GoSem.Claim
import GoSem.ClaimJoined
import GoSem.ClaimMapViews
import Derived.JoinedTies
import Derived.KernelRfl
namespace Go.Proofs.YtmeeldhejbdgjaaDoor
/- THE CELL 'sum', in the pinned program and in every row, IS THE sha256 OF THE DUMP (.gsa) THAT YtmeeldhejbdgjaaDoorProg.lean LOADS. Nothing in Lean hashes anything: it is a label: what it is worth is what the hold of that sum in a sandbox is worth. -/
noncomputable def Tryd.pinned : Pinned := { name := "ytmeeldhejbdgjaadoor", sum := "044d705558f019f1721dd72be8a8119f75cdb08a12eb1dc69ea2175b55306f00", checked := Tryd.checked }
namespace Rows
def none {H : Type} : Left H := { results := [], args := [] }

/- WHAT THE LISTED PACKAGE-LEVEL VARIABLES READ AS WHEN THE CALL BEGINS. Each datum BY PROGRAM (the guide's laid-datum.mjs) off the statement by which the dump's own 'gosem.cut.vars' lays the variable. In a bare row this is a premise. The card (YtmeeldhejbdgjaaDoorCards.lean) ties it to the program's text. -/
def laid_bracken_root_generators {H : Type} : DataW H := .agg [.agg [.lit (.int .u64 18446744069414584321), .lit (.int .u64 7)], .agg [.lit (.int .u64 998244353), .lit (.int .u64 3)], .agg [.lit (.int .u64 2013265921), .lit (.int .u64 31)]]

/-- 'brackenlaw09.SeedDoes': WHATEVER THE INPUT: true; the input reads as it did. -/
def seedDoesSpec : ChangeSpec := { name := "seedDoes", fn := fun _ => fun
  | [d1, d2, d3, d4, d5, d6, d7, d8, d9] => { results := [.lit (.bool true)], args := [d1, d2, d3, d4, d5, d6, d7, d8, d9] }
  | _ => none }
def seedDoesRow : OpenClaim := { program := "ytmeeldhejbdgjaadoor", sum := "044d705558f019f1721dd72be8a8119f75cdb08a12eb1dc69ea2175b55306f00", func := "bracken/brackenlaw09.SeedDoes", spec := "seedDoes", unfollowed := true, recurses := true, named := ["bracken/root.generators", "math/bits.divideError", "math/bits.overflowError"], apart := false, laid := [("bracken/root.generators", laid_bracken_root_generators)] }
def SeedDoesSaid : Prop := seedDoesRow.holds Tryd.pinned (OpenSpec.ofChange seedDoesSpec)

/-- ITS FALSE NEIGHBOUR: 'it returns false'. Refute it at one input. -/
def seedDoesWrong : ChangeSpec := { name := "seedDoes", fn := fun _ => fun
  | [d1, d2, d3, d4, d5, d6, d7, d8, d9] => { results := [.lit (.bool false)], args := [d1, d2, d3, d4, d5, d6, d7, d8, d9] }
  | _ => none }
def SeedDoesWrongFalsely : Prop := seedDoesRow.holds Tryd.pinned (OpenSpec.ofChange seedDoesWrong)

/-- 'brackenlaw09.SeedTrue': WHATEVER THE INPUT: true; the input reads as it did. -/
def seedTrueSpec : ChangeSpec := { name := "seedTrue", fn := fun _ => fun
  | [d1, d2, d3, d4, d5] => { results := [.lit (.bool true)], args := [d1, d2, d3, d4, d5] }
  | _ => none }
def seedTrueRow : OpenClaim := { program := "ytmeeldhejbdgjaadoor", sum := "044d705558f019f1721dd72be8a8119f75cdb08a12eb1dc69ea2175b55306f00", func := "bracken/brackenlaw09.SeedTrue", spec := "seedTrue", unfollowed := true, recurses := true, named := ["bracken/root.generators", "math/bits.divideError", "math/bits.overflowError"], apart := false, laid := [("bracken/root.generators", laid_bracken_root_generators)] }
def SeedTrueSaid : Prop := seedTrueRow.holds Tryd.pinned (OpenSpec.ofChange seedTrueSpec)

/-- ITS FALSE NEIGHBOUR: 'it returns false'. Refute it at one input. -/
def seedTrueWrong : ChangeSpec := { name := "seedTrue", fn := fun _ => fun
  | [d1, d2, d3, d4, d5] => { results := [.lit (.bool false)], args := [d1, d2, d3, d4, d5] }
  | _ => none }
def SeedTrueWrongFalsely : Prop := seedTrueRow.holds Tryd.pinned (OpenSpec.ofChange seedTrueWrong)

/-- 'brackenlaw09.SeedFalse': WHATEVER THE INPUT: true; the input reads as it did. -/
def seedFalseSpec : ChangeSpec := { name := "seedFalse", fn := fun _ => fun
  | [d1, d2, d3, d4, d5, d6] => { results := [.lit (.bool true)], args := [d1, d2, d3, d4, d5, d6] }
  | _ => none }
def seedFalseRow : OpenClaim := { program := "ytmeeldhejbdgjaadoor", sum := "044d705558f019f1721dd72be8a8119f75cdb08a12eb1dc69ea2175b55306f00", func := "bracken/brackenlaw09.SeedFalse", spec := "seedFalse", unfollowed := true, recurses := true, named := ["bracken/root.generators", "math/bits.divideError", "math/bits.overflowError"], apart := false, laid := [("bracken/root.generators", laid_bracken_root_generators)] }
def SeedFalseSaid : Prop := seedFalseRow.holds Tryd.pinned (OpenSpec.ofChange seedFalseSpec)

/-- ITS FALSE NEIGHBOUR: 'it returns false'. Refute it at one input. -/
def seedFalseWrong : ChangeSpec := { name := "seedFalse", fn := fun _ => fun
  | [d1, d2, d3, d4, d5, d6] => { results := [.lit (.bool false)], args := [d1, d2, d3, d4, d5, d6] }
  | _ => none }
def SeedFalseWrongFalsely : Prop := seedFalseRow.holds Tryd.pinned (OpenSpec.ofChange seedFalseWrong)

/-- 'brackenlaw09.SeedSums': WHATEVER THE INPUT: true; the input reads as it did. -/
def seedSumsSpec : ChangeSpec := { name := "seedSums", fn := fun _ => fun
  | [d1, d2, d3, d4, d5] => { results := [.lit (.bool true)], args := [d1, d2, d3, d4, d5] }
  | _ => none }
def seedSumsRow : OpenClaim := { program := "ytmeeldhejbdgjaadoor", sum := "044d705558f019f1721dd72be8a8119f75cdb08a12eb1dc69ea2175b55306f00", func := "bracken/brackenlaw09.SeedSums", spec := "seedSums", unfollowed := true, recurses := true, named := ["bracken/root.generators", "math/bits.divideError", "math/bits.overflowError"], apart := false, laid := [("bracken/root.generators", laid_bracken_root_generators)] }
def SeedSumsSaid : Prop := seedSumsRow.holds Tryd.pinned (OpenSpec.ofChange seedSumsSpec)

/-- ITS FALSE NEIGHBOUR: 'it returns false'. Refute it at one input. -/
def seedSumsWrong : ChangeSpec := { name := "seedSums", fn := fun _ => fun
  | [d1, d2, d3, d4, d5] => { results := [.lit (.bool false)], args := [d1, d2, d3, d4, d5] }
  | _ => none }
def SeedSumsWrongFalsely : Prop := seedSumsRow.holds Tryd.pinned (OpenSpec.ofChange seedSumsWrong)

/- THE SECOND FORM. 'bulk': how many values and letters a reading holds, each counted each time it is reached (what is shared counts as often as it is met; a slice's spare places count too). A statement '..UptoSaid' is the law's where the arguments, and the package variables that the reading takes, are together of bulk at most 1048576: NARROWER than '..Said'. Prove '..Said' where nothing that the law and all that it calls make is longer than what came in: it says more and counts as full. Else prove '..UptoSaid'. A law counts once. -/
mutual
def uptoBulk {H : Type} : DataW H → Nat
  | .lit (.string bytes) => bytes.length + 1
  | .lit _ => 1
  | .nil => 1
  | .ptr d => uptoBulk d + 1
  | .slice elems spare => uptoBulkAll elems + uptoBulkAll spare + 1
  | .agg parts => uptoBulkAll parts + 1
  | .iface _ d => uptoBulk d + 1
  | .map entries => uptoBulkEntries entries + 1
  | .held _ => 1
def uptoBulkAll {H : Type} : List (DataW H) → Nat
  | [] => 0
  | d :: r => uptoBulk d + uptoBulkAll r
def uptoBulkEntries {H : Type} : List (Lit × DataW H) → Nat
  | [] => 0
  | x :: r => uptoBulkEntry x + uptoBulkEntries r
def uptoBulkEntry {H : Type} : Lit × DataW H → Nat
  | (.string bytes, d) => bytes.length + uptoBulk d + 1
  | (_, d) => uptoBulk d + 1
 end
def uptoSmall : (H : Type) → List (DataW H) → Bool := fun _ ds => decide (uptoBulkAll ds ≤ 1048576)
def OpenSpec.upto (s : _root_.Go.ChangeSpec) : _root_.Go.OpenSpec := { _root_.Go.OpenSpec.ofChange s with cond := some uptoSmall }

/-- 'brackenlaw09.SeedDoes', WHERE WHAT IT READS IS OF BULK AT MOST 1048576: true; the input reads as it did. -/
def seedDoesUptoRow : OpenClaim := { program := "ytmeeldhejbdgjaadoor", sum := "044d705558f019f1721dd72be8a8119f75cdb08a12eb1dc69ea2175b55306f00", func := "bracken/brackenlaw09.SeedDoes", spec := "seedDoes", unfollowed := true, recurses := true, named := ["bracken/root.generators", "math/bits.divideError", "math/bits.overflowError"], apart := false, laid := [("bracken/root.generators", laid_bracken_root_generators)], narrowed := true }
def SeedDoesUptoSaid : Prop := seedDoesUptoRow.holds Tryd.pinned (OpenSpec.upto seedDoesSpec)

/-- 'brackenlaw09.SeedTrue', WHERE WHAT IT READS IS OF BULK AT MOST 1048576: true; the input reads as it did. -/
def seedTrueUptoRow : OpenClaim := { program := "ytmeeldhejbdgjaadoor", sum := "044d705558f019f1721dd72be8a8119f75cdb08a12eb1dc69ea2175b55306f00", func := "bracken/brackenlaw09.SeedTrue", spec := "seedTrue", unfollowed := true, recurses := true, named := ["bracken/root.generators", "math/bits.divideError", "math/bits.overflowError"], apart := false, laid := [("bracken/root.generators", laid_bracken_root_generators)], narrowed := true }
def SeedTrueUptoSaid : Prop := seedTrueUptoRow.holds Tryd.pinned (OpenSpec.upto seedTrueSpec)

/-- 'brackenlaw09.SeedFalse', WHERE WHAT IT READS IS OF BULK AT MOST 1048576: true; the input reads as it did. -/
def seedFalseUptoRow : OpenClaim := { program := "ytmeeldhejbdgjaadoor", sum := "044d705558f019f1721dd72be8a8119f75cdb08a12eb1dc69ea2175b55306f00", func := "bracken/brackenlaw09.SeedFalse", spec := "seedFalse", unfollowed := true, recurses := true, named := ["bracken/root.generators", "math/bits.divideError", "math/bits.overflowError"], apart := false, laid := [("bracken/root.generators", laid_bracken_root_generators)], narrowed := true }
def SeedFalseUptoSaid : Prop := seedFalseUptoRow.holds Tryd.pinned (OpenSpec.upto seedFalseSpec)

/-- 'brackenlaw09.SeedSums', WHERE WHAT IT READS IS OF BULK AT MOST 1048576: true; the input reads as it did. -/
def seedSumsUptoRow : OpenClaim := { program := "ytmeeldhejbdgjaadoor", sum := "044d705558f019f1721dd72be8a8119f75cdb08a12eb1dc69ea2175b55306f00", func := "bracken/brackenlaw09.SeedSums", spec := "seedSums", unfollowed := true, recurses := true, named := ["bracken/root.generators", "math/bits.divideError", "math/bits.overflowError"], apart := false, laid := [("bracken/root.generators", laid_bracken_root_generators)], narrowed := true }
def SeedSumsUptoSaid : Prop := seedSumsUptoRow.holds Tryd.pinned (OpenSpec.upto seedSumsSpec)

end Rows
end Go.Proofs.YtmeeldhejbdgjaaDoor
