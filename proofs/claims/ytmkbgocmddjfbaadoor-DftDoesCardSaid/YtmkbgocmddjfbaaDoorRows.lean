/-
  NARROWER THAN 'FOR EVERY INPUT', by the rows' own cells (each row's printed sentence says how): DftDoes: laid · DftBack: laid · DftSums: laid · DftWrap: laid.
  DERIVED. THE GIVEN ROWS OF THIS SEAT. 4 by the template 'for every input the law returns true; each argument reads behind the call as it read before'; 0 by the template 'total and deterministic' (their statements: YtmkbgocmddjfbaaDoorTotals.lean).
  GIVEN WITH THE SEED: the statements are not yours to turn. If you find one false, say at which input.
  Laid BY PROGRAM, IN A SANDBOX (cutbox-rows.mjs): the forced cells as the released guide's own fill.sh prints them over the translation ba91c856baba6071… (all of the seat's roots in one cut). By AI agents, Wed Nov 11 2026. No macro, syntax, notation, axiom, sorry.
-/
import Derived.Test.YtmkbgocmddjfbaaDoorChecked
import GoSem.Claim
import GoSem.ClaimJoined
import GoSem.ClaimMapViews
import Derived.JoinedTies
import Derived.KernelRfl
namespace Go.Proofs.YtmkbgocmddjfbaaDoor
/- THE CELL 'sum', in the pinned program and in every row, IS THE sha256 OF THE DUMP (.gsa) THAT YtmkbgocmddjfbaaDoorProg.lean LOADS. Nothing in Lean hashes anything: it is a label: what it is worth is what the hold of that sum in a sandbox is worth. -/
noncomputable def Tryd.pinned : Pinned := { name := "ytmkbgocmddjfbaadoor", sum := "ba91c856baba6071466e56f5631b62485d89aef7cc06e0c6eb27e3e614296d08", checked := Tryd.checked }
namespace Rows
def none {H : Type} : Left H := { results := [], args := [] }

/- WHAT THE LISTED PACKAGE-LEVEL VARIABLES READ AS WHEN THE CALL BEGINS. Each datum BY PROGRAM (the guide's laid-datum.mjs) off the statement by which the dump's own 'gosem.cut.vars' lays the variable. In a bare row this is a premise. The card (YtmkbgocmddjfbaaDoorCards.lean) ties it to the program's text. -/
def laid_bracken_root_generators {H : Type} : DataW H := .agg [.agg [.lit (.int .u64 18446744069414584321), .lit (.int .u64 7)], .agg [.lit (.int .u64 998244353), .lit (.int .u64 3)], .agg [.lit (.int .u64 2013265921), .lit (.int .u64 31)]]

/-- 'brackenlaw06.DftDoes': WHATEVER THE INPUT: true; the input reads as it did. -/
def dftDoesSpec : ChangeSpec := { name := "dftDoes", fn := fun _ => fun
  | [d1, d2, d3, d4] => { results := [.lit (.bool true)], args := [d1, d2, d3, d4] }
  | _ => none }
def dftDoesRow : OpenClaim := { program := "ytmkbgocmddjfbaadoor", sum := "ba91c856baba6071466e56f5631b62485d89aef7cc06e0c6eb27e3e614296d08", func := "bracken/brackenlaw06.DftDoes", spec := "dftDoes", unfollowed := true, recurses := true, named := ["bracken/root.generators", "math/bits.divideError", "math/bits.overflowError"], apart := false, laid := [("bracken/root.generators", laid_bracken_root_generators)] }
def DftDoesSaid : Prop := dftDoesRow.holds Tryd.pinned (OpenSpec.ofChange dftDoesSpec)

/-- ITS FALSE NEIGHBOUR: 'it returns false'. Refute it at one input. -/
def dftDoesWrong : ChangeSpec := { name := "dftDoes", fn := fun _ => fun
  | [d1, d2, d3, d4] => { results := [.lit (.bool false)], args := [d1, d2, d3, d4] }
  | _ => none }
def DftDoesWrongFalsely : Prop := dftDoesRow.holds Tryd.pinned (OpenSpec.ofChange dftDoesWrong)

/-- 'brackenlaw06.DftBack': WHATEVER THE INPUT: true; the input reads as it did. -/
def dftBackSpec : ChangeSpec := { name := "dftBack", fn := fun _ => fun
  | [d1, d2, d3] => { results := [.lit (.bool true)], args := [d1, d2, d3] }
  | _ => none }
def dftBackRow : OpenClaim := { program := "ytmkbgocmddjfbaadoor", sum := "ba91c856baba6071466e56f5631b62485d89aef7cc06e0c6eb27e3e614296d08", func := "bracken/brackenlaw06.DftBack", spec := "dftBack", unfollowed := true, recurses := true, named := ["bracken/root.generators", "math/bits.divideError", "math/bits.overflowError"], apart := false, laid := [("bracken/root.generators", laid_bracken_root_generators)] }
def DftBackSaid : Prop := dftBackRow.holds Tryd.pinned (OpenSpec.ofChange dftBackSpec)

/-- ITS FALSE NEIGHBOUR: 'it returns false'. Refute it at one input. -/
def dftBackWrong : ChangeSpec := { name := "dftBack", fn := fun _ => fun
  | [d1, d2, d3] => { results := [.lit (.bool false)], args := [d1, d2, d3] }
  | _ => none }
def DftBackWrongFalsely : Prop := dftBackRow.holds Tryd.pinned (OpenSpec.ofChange dftBackWrong)

/-- 'brackenlaw06.DftSums': WHATEVER THE INPUT: true; the input reads as it did. -/
def dftSumsSpec : ChangeSpec := { name := "dftSums", fn := fun _ => fun
  | [d1, d2, d3, d4, d5] => { results := [.lit (.bool true)], args := [d1, d2, d3, d4, d5] }
  | _ => none }
def dftSumsRow : OpenClaim := { program := "ytmkbgocmddjfbaadoor", sum := "ba91c856baba6071466e56f5631b62485d89aef7cc06e0c6eb27e3e614296d08", func := "bracken/brackenlaw06.DftSums", spec := "dftSums", unfollowed := true, recurses := true, named := ["bracken/root.generators", "math/bits.divideError", "math/bits.overflowError"], apart := false, laid := [("bracken/root.generators", laid_bracken_root_generators)] }
def DftSumsSaid : Prop := dftSumsRow.holds Tryd.pinned (OpenSpec.ofChange dftSumsSpec)

/-- ITS FALSE NEIGHBOUR: 'it returns false'. Refute it at one input. -/
def dftSumsWrong : ChangeSpec := { name := "dftSums", fn := fun _ => fun
  | [d1, d2, d3, d4, d5] => { results := [.lit (.bool false)], args := [d1, d2, d3, d4, d5] }
  | _ => none }
def DftSumsWrongFalsely : Prop := dftSumsRow.holds Tryd.pinned (OpenSpec.ofChange dftSumsWrong)

/-- 'brackenlaw06.DftWrap': WHATEVER THE INPUT: true; the input reads as it did. -/
def dftWrapSpec : ChangeSpec := { name := "dftWrap", fn := fun _ => fun
  | [d1, d2, d3, d4] => { results := [.lit (.bool true)], args := [d1, d2, d3, d4] }
  | _ => none }
def dftWrapRow : OpenClaim := { program := "ytmkbgocmddjfbaadoor", sum := "ba91c856baba6071466e56f5631b62485d89aef7cc06e0c6eb27e3e614296d08", func := "bracken/brackenlaw06.DftWrap", spec := "dftWrap", unfollowed := true, recurses := true, named := ["bracken/root.generators", "math/bits.divideError", "math/bits.overflowError"], apart := false, laid := [("bracken/root.generators", laid_bracken_root_generators)] }
def DftWrapSaid : Prop := dftWrapRow.holds Tryd.pinned (OpenSpec.ofChange dftWrapSpec)

/-- ITS FALSE NEIGHBOUR: 'it returns false'. Refute it at one input. -/
def dftWrapWrong : ChangeSpec := { name := "dftWrap", fn := fun _ => fun
  | [d1, d2, d3, d4] => { results := [.lit (.bool false)], args := [d1, d2, d3, d4] }
  | _ => none }
def DftWrapWrongFalsely : Prop := dftWrapRow.holds Tryd.pinned (OpenSpec.ofChange dftWrapWrong)

/- THE SECOND FORM. 'bulk': how many values and letters a reading holds, each counted each time it is reached (what is shared counts as often as it is met; a slice's spare places count too). A statement '..UptoSaid' is the law's where the arguments, and the package variables that the reading takes, are together of bulk at most 1048576: NARROWER than '..Said'. Prove '..Said' where nothing that the law and all that it calls make is longer than what came in: it says more and counts as full. Else prove '..UptoSaid'. A law counts once. -/
mutual
def uptoBulk {H : Type} : DataW H → Nat
  | .lit (.string bytes) => bytes.length + 1
  | .lit _ => 1
  | .nil => 1
  | .ptr d => uptoBulk d + 1
  | .slice elems spare => uptoBulkAll elems + uptoBulkAll spare + 1
  | .agg parts => uptoBulkAll parts + 1
  | .iface _ d => uptoBulk d + 1
  | .map entries => uptoBulkEntries entries + 1
  | .held _ => 1
def uptoBulkAll {H : Type} : List (DataW H) → Nat
  | [] => 0
  | d :: r => uptoBulk d + uptoBulkAll r
def uptoBulkEntries {H : Type} : List (Lit × DataW H) → Nat
  | [] => 0
  | x :: r => uptoBulkEntry x + uptoBulkEntries r
def uptoBulkEntry {H : Type} : Lit × DataW H → Nat
  | (.string bytes, d) => bytes.length + uptoBulk d + 1
  | (_, d) => uptoBulk d + 1
 end
def uptoSmall : (H : Type) → List (DataW H) → Bool := fun _ ds => decide (uptoBulkAll ds ≤ 1048576)
def OpenSpec.upto (s : _root_.Go.ChangeSpec) : _root_.Go.OpenSpec := { _root_.Go.OpenSpec.ofChange s with cond := some uptoSmall }

/-- 'brackenlaw06.DftDoes', WHERE WHAT IT READS IS OF BULK AT MOST 1048576: true; the input reads as it did. -/
def dftDoesUptoRow : OpenClaim := { program := "ytmkbgocmddjfbaadoor", sum := "ba91c856baba6071466e56f5631b62485d89aef7cc06e0c6eb27e3e614296d08", func := "bracken/brackenlaw06.DftDoes", spec := "dftDoes", unfollowed := true, recurses := true, named := ["bracken/root.generators", "math/bits.divideError", "math/bits.overflowError"], apart := false, laid := [("bracken/root.generators", laid_bracken_root_generators)], narrowed := true }
def DftDoesUptoSaid : Prop := dftDoesUptoRow.holds Tryd.pinned (OpenSpec.upto dftDoesSpec)

/-- 'brackenlaw06.DftBack', WHERE WHAT IT READS IS OF BULK AT MOST 1048576: true; the input reads as it did. -/
def dftBackUptoRow : OpenClaim := { program := "ytmkbgocmddjfbaadoor", sum := "ba91c856baba6071466e56f5631b62485d89aef7cc06e0c6eb27e3e614296d08", func := "bracken/brackenlaw06.DftBack", spec := "dftBack", unfollowed := true, recurses := true, named := ["bracken/root.generators", "math/bits.divideError", "math/bits.overflowError"], apart := false, laid := [("bracken/root.generators", laid_bracken_root_generators)], narrowed := true }
def DftBackUptoSaid : Prop := dftBackUptoRow.holds Tryd.pinned (OpenSpec.upto dftBackSpec)

/-- 'brackenlaw06.DftSums', WHERE WHAT IT READS IS OF BULK AT MOST 1048576: true; the input reads as it did. -/
def dftSumsUptoRow : OpenClaim := { program := "ytmkbgocmddjfbaadoor", sum := "ba91c856baba6071466e56f5631b62485d89aef7cc06e0c6eb27e3e614296d08", func := "bracken/brackenlaw06.DftSums", spec := "dftSums", unfollowed := true, recurses := true, named := ["bracken/root.generators", "math/bits.divideError", "math/bits.overflowError"], apart := false, laid := [("bracken/root.generators", laid_bracken_root_generators)], narrowed := true }
def DftSumsUptoSaid : Prop := dftSumsUptoRow.holds Tryd.pinned (OpenSpec.upto dftSumsSpec)

/-- 'brackenlaw06.DftWrap', WHERE WHAT IT READS IS OF BULK AT MOST 1048576: true; the input reads as it did. -/
def dftWrapUptoRow : OpenClaim := { program := "ytmkbgocmddjfbaadoor", sum := "ba91c856baba6071466e56f5631b62485d89aef7cc06e0c6eb27e3e614296d08", func := "bracken/brackenlaw06.DftWrap", spec := "dftWrap", unfollowed := true, recurses := true, named := ["bracken/root.generators", "math/bits.divideError", "math/bits.overflowError"], apart := false, laid := [("bracken/root.generators", laid_bracken_root_generators)], narrowed := true }
def DftWrapUptoSaid : Prop := dftWrapUptoRow.holds Tryd.pinned (OpenSpec.upto dftWrapSpec)

end Rows
end Go.Proofs.YtmkbgocmddjfbaaDoor
