/-
  No cell of these rows narrows 'for every input' (looked for: loops, veiled, ifaces, maps, wideKeys, modest, calm, conditions, laid).
  DERIVED. THE GIVEN ROWS OF THIS SEAT. 6 by the template 'for every input the law returns true; each argument reads behind the call as it read before'; 0 by the template 'total and deterministic' (their statements: YtnonoemhefjliaaTotals.lean).
  GIVEN WITH THE SEED: the statements are not yours to turn. If you find one false, say at which input.
  Laid BY PROGRAM, IN A SANDBOX (cutbox-rows.mjs): the forced cells as the released guide's own fill.sh prints them over the translation a49a19c217715e93… (all of the seat's roots in one cut). By AI agents, Wed Nov 11 2026. No macro, syntax, notation, axiom, sorry.
-/
import Derived.Test.YtnonoemhefjliaaChecked
import GoSem.Claim
import GoSem.ClaimJoined
import GoSem.ClaimMapViews
import Derived.JoinedTies
import Derived.KernelRfl
namespace Go.Proofs.Ytnonoemhefjliaa
/- THE CELL 'sum', in the pinned program and in every row, IS THE sha256 OF THE DUMP (.gsa) THAT YtnonoemhefjliaaProg.lean LOADS. Nothing in Lean hashes anything: it is a label: what it is worth is what the hold of that sum in a sandbox is worth. -/
noncomputable def Try.pinned : Pinned := { name := "ytnonoemhefjliaa", sum := "a49a19c217715e936e8922fdad948278a4d9fe0207e4e465a4fe91dcfde82b9f", checked := Try.checked }
namespace Rows
def none {H : Type} : Left H := { results := [], args := [] }

/-- 'brackenlaw13.VoteDoes': WHATEVER THE INPUT: true; the input reads as it did. -/
def voteDoesSpec : ChangeSpec := { name := "voteDoes", fn := fun _ => fun
  | [d] => { results := [.lit (.bool true)], args := [d] }
  | _ => none }
def voteDoesRow : OpenClaim := { program := "ytnonoemhefjliaa", sum := "a49a19c217715e936e8922fdad948278a4d9fe0207e4e465a4fe91dcfde82b9f", func := "bracken/brackenlaw13.VoteDoes", spec := "voteDoes", apart := false }
def VoteDoesSaid : Prop := voteDoesRow.holds Try.pinned (OpenSpec.ofChange voteDoesSpec)

/-- ITS FALSE NEIGHBOUR: 'it returns false'. Refute it at one input. -/
def voteDoesWrong : ChangeSpec := { name := "voteDoes", fn := fun _ => fun
  | [d] => { results := [.lit (.bool false)], args := [d] }
  | _ => none }
def VoteDoesWrongFalsely : Prop := voteDoesRow.holds Try.pinned (OpenSpec.ofChange voteDoesWrong)

/-- 'brackenlaw13.VoteBack': WHATEVER THE INPUT: true; the input reads as it did. -/
def voteBackSpec : ChangeSpec := { name := "voteBack", fn := fun _ => fun
  | [d1, d2, d3] => { results := [.lit (.bool true)], args := [d1, d2, d3] }
  | _ => none }
def voteBackRow : OpenClaim := { program := "ytnonoemhefjliaa", sum := "a49a19c217715e936e8922fdad948278a4d9fe0207e4e465a4fe91dcfde82b9f", func := "bracken/brackenlaw13.VoteBack", spec := "voteBack", apart := false }
def VoteBackSaid : Prop := voteBackRow.holds Try.pinned (OpenSpec.ofChange voteBackSpec)

/-- ITS FALSE NEIGHBOUR: 'it returns false'. Refute it at one input. -/
def voteBackWrong : ChangeSpec := { name := "voteBack", fn := fun _ => fun
  | [d1, d2, d3] => { results := [.lit (.bool false)], args := [d1, d2, d3] }
  | _ => none }
def VoteBackWrongFalsely : Prop := voteBackRow.holds Try.pinned (OpenSpec.ofChange voteBackWrong)

/-- 'brackenlaw13.VoteOrder': WHATEVER THE INPUT: true; the input reads as it did. -/
def voteOrderSpec : ChangeSpec := { name := "voteOrder", fn := fun _ => fun
  | [d1, d2, d3] => { results := [.lit (.bool true)], args := [d1, d2, d3] }
  | _ => none }
def voteOrderRow : OpenClaim := { program := "ytnonoemhefjliaa", sum := "a49a19c217715e936e8922fdad948278a4d9fe0207e4e465a4fe91dcfde82b9f", func := "bracken/brackenlaw13.VoteOrder", spec := "voteOrder", apart := false }
def VoteOrderSaid : Prop := voteOrderRow.holds Try.pinned (OpenSpec.ofChange voteOrderSpec)

/-- ITS FALSE NEIGHBOUR: 'it returns false'. Refute it at one input. -/
def voteOrderWrong : ChangeSpec := { name := "voteOrder", fn := fun _ => fun
  | [d1, d2, d3] => { results := [.lit (.bool false)], args := [d1, d2, d3] }
  | _ => none }
def VoteOrderWrongFalsely : Prop := voteOrderRow.holds Try.pinned (OpenSpec.ofChange voteOrderWrong)

/-- 'brackenlaw13.VoteTwo': WHATEVER THE INPUT: true; the input reads as it did. -/
def voteTwoSpec : ChangeSpec := { name := "voteTwo", fn := fun _ => fun
  | [d1, d2, d3] => { results := [.lit (.bool true)], args := [d1, d2, d3] }
  | _ => none }
def voteTwoRow : OpenClaim := { program := "ytnonoemhefjliaa", sum := "a49a19c217715e936e8922fdad948278a4d9fe0207e4e465a4fe91dcfde82b9f", func := "bracken/brackenlaw13.VoteTwo", spec := "voteTwo", apart := false }
def VoteTwoSaid : Prop := voteTwoRow.holds Try.pinned (OpenSpec.ofChange voteTwoSpec)

/-- ITS FALSE NEIGHBOUR: 'it returns false'. Refute it at one input. -/
def voteTwoWrong : ChangeSpec := { name := "voteTwo", fn := fun _ => fun
  | [d1, d2, d3] => { results := [.lit (.bool false)], args := [d1, d2, d3] }
  | _ => none }
def VoteTwoWrongFalsely : Prop := voteTwoRow.holds Try.pinned (OpenSpec.ofChange voteTwoWrong)

/-- 'brackenlaw13.VoteAgain': WHATEVER THE INPUT: true; the input reads as it did. -/
def voteAgainSpec : ChangeSpec := { name := "voteAgain", fn := fun _ => fun
  | [d] => { results := [.lit (.bool true)], args := [d] }
  | _ => none }
def voteAgainRow : OpenClaim := { program := "ytnonoemhefjliaa", sum := "a49a19c217715e936e8922fdad948278a4d9fe0207e4e465a4fe91dcfde82b9f", func := "bracken/brackenlaw13.VoteAgain", spec := "voteAgain", apart := false }
def VoteAgainSaid : Prop := voteAgainRow.holds Try.pinned (OpenSpec.ofChange voteAgainSpec)

/-- ITS FALSE NEIGHBOUR: 'it returns false'. Refute it at one input. -/
def voteAgainWrong : ChangeSpec := { name := "voteAgain", fn := fun _ => fun
  | [d] => { results := [.lit (.bool false)], args := [d] }
  | _ => none }
def VoteAgainWrongFalsely : Prop := voteAgainRow.holds Try.pinned (OpenSpec.ofChange voteAgainWrong)

/-- 'brackenlaw13.VoteParts': WHATEVER THE INPUT: true; the input reads as it did. -/
def votePartsSpec : ChangeSpec := { name := "voteParts", fn := fun _ => fun
  | [d1, d2] => { results := [.lit (.bool true)], args := [d1, d2] }
  | _ => none }
def votePartsRow : OpenClaim := { program := "ytnonoemhefjliaa", sum := "a49a19c217715e936e8922fdad948278a4d9fe0207e4e465a4fe91dcfde82b9f", func := "bracken/brackenlaw13.VoteParts", spec := "voteParts", apart := false }
def VotePartsSaid : Prop := votePartsRow.holds Try.pinned (OpenSpec.ofChange votePartsSpec)

/-- ITS FALSE NEIGHBOUR: 'it returns false'. Refute it at one input. -/
def votePartsWrong : ChangeSpec := { name := "voteParts", fn := fun _ => fun
  | [d1, d2] => { results := [.lit (.bool false)], args := [d1, d2] }
  | _ => none }
def VotePartsWrongFalsely : Prop := votePartsRow.holds Try.pinned (OpenSpec.ofChange votePartsWrong)

/- THE SECOND FORM. 'bulk': how many values and letters a reading holds, each counted each time it is reached (what is shared counts as often as it is met; a slice's spare places count too). A statement '..UptoSaid' is the law's where the arguments, and the package variables that the reading takes, are together of bulk at most 1048576: NARROWER than '..Said'. Prove '..Said' where nothing that the law and all that it calls make is longer than what came in: it says more and counts as full. Else prove '..UptoSaid'. A law counts once. -/
mutual
def uptoBulk {H : Type} : DataW H → Nat
  | .lit (.string bytes) => bytes.length + 1
  | .lit _ => 1
  | .nil => 1
  | .ptr d => uptoBulk d + 1
  | .slice elems spare => uptoBulkAll elems + uptoBulkAll spare + 1
  | .agg parts => uptoBulkAll parts + 1
  | .iface _ d => uptoBulk d + 1
  | .map entries => uptoBulkEntries entries + 1
  | .held _ => 1
def uptoBulkAll {H : Type} : List (DataW H) → Nat
  | [] => 0
  | d :: r => uptoBulk d + uptoBulkAll r
def uptoBulkEntries {H : Type} : List (Lit × DataW H) → Nat
  | [] => 0
  | x :: r => uptoBulkEntry x + uptoBulkEntries r
def uptoBulkEntry {H : Type} : Lit × DataW H → Nat
  | (.string bytes, d) => bytes.length + uptoBulk d + 1
  | (_, d) => uptoBulk d + 1
 end
def uptoSmall : (H : Type) → List (DataW H) → Bool := fun _ ds => decide (uptoBulkAll ds ≤ 1048576)
def OpenSpec.upto (s : _root_.Go.ChangeSpec) : _root_.Go.OpenSpec := { _root_.Go.OpenSpec.ofChange s with cond := some uptoSmall }

/-- 'brackenlaw13.VoteDoes', WHERE WHAT IT READS IS OF BULK AT MOST 1048576: true; the input reads as it did. -/
def voteDoesUptoRow : OpenClaim := { program := "ytnonoemhefjliaa", sum := "a49a19c217715e936e8922fdad948278a4d9fe0207e4e465a4fe91dcfde82b9f", func := "bracken/brackenlaw13.VoteDoes", spec := "voteDoes", apart := false, narrowed := true }
def VoteDoesUptoSaid : Prop := voteDoesUptoRow.holds Try.pinned (OpenSpec.upto voteDoesSpec)

/-- 'brackenlaw13.VoteBack', WHERE WHAT IT READS IS OF BULK AT MOST 1048576: true; the input reads as it did. -/
def voteBackUptoRow : OpenClaim := { program := "ytnonoemhefjliaa", sum := "a49a19c217715e936e8922fdad948278a4d9fe0207e4e465a4fe91dcfde82b9f", func := "bracken/brackenlaw13.VoteBack", spec := "voteBack", apart := false, narrowed := true }
def VoteBackUptoSaid : Prop := voteBackUptoRow.holds Try.pinned (OpenSpec.upto voteBackSpec)

/-- 'brackenlaw13.VoteOrder', WHERE WHAT IT READS IS OF BULK AT MOST 1048576: true; the input reads as it did. -/
def voteOrderUptoRow : OpenClaim := { program := "ytnonoemhefjliaa", sum := "a49a19c217715e936e8922fdad948278a4d9fe0207e4e465a4fe91dcfde82b9f", func := "bracken/brackenlaw13.VoteOrder", spec := "voteOrder", apart := false, narrowed := true }
def VoteOrderUptoSaid : Prop := voteOrderUptoRow.holds Try.pinned (OpenSpec.upto voteOrderSpec)

/-- 'brackenlaw13.VoteTwo', WHERE WHAT IT READS IS OF BULK AT MOST 1048576: true; the input reads as it did. -/
def voteTwoUptoRow : OpenClaim := { program := "ytnonoemhefjliaa", sum := "a49a19c217715e936e8922fdad948278a4d9fe0207e4e465a4fe91dcfde82b9f", func := "bracken/brackenlaw13.VoteTwo", spec := "voteTwo", apart := false, narrowed := true }
def VoteTwoUptoSaid : Prop := voteTwoUptoRow.holds Try.pinned (OpenSpec.upto voteTwoSpec)

/-- 'brackenlaw13.VoteAgain', WHERE WHAT IT READS IS OF BULK AT MOST 1048576: true; the input reads as it did. -/
def voteAgainUptoRow : OpenClaim := { program := "ytnonoemhefjliaa", sum := "a49a19c217715e936e8922fdad948278a4d9fe0207e4e465a4fe91dcfde82b9f", func := "bracken/brackenlaw13.VoteAgain", spec := "voteAgain", apart := false, narrowed := true }
def VoteAgainUptoSaid : Prop := voteAgainUptoRow.holds Try.pinned (OpenSpec.upto voteAgainSpec)

/-- 'brackenlaw13.VoteParts', WHERE WHAT IT READS IS OF BULK AT MOST 1048576: true; the input reads as it did. -/
def votePartsUptoRow : OpenClaim := { program := "ytnonoemhefjliaa", sum := "a49a19c217715e936e8922fdad948278a4d9fe0207e4e465a4fe91dcfde82b9f", func := "bracken/brackenlaw13.VoteParts", spec := "voteParts", apart := false, narrowed := true }
def VotePartsUptoSaid : Prop := votePartsUptoRow.holds Try.pinned (OpenSpec.upto votePartsSpec)

end Rows
end Go.Proofs.Ytnonoemhefjliaa
