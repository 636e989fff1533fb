/-
  No cell of these rows narrows 'for every input' (looked for: loops, veiled, ifaces, maps, wideKeys, modest, calm, conditions, laid).
  DERIVED. THE GIVEN ROWS OF THIS SEAT. 4 by the template 'for every input the law returns true; each argument reads behind the call as it read before'; 0 by the template 'total and deterministic' (their statements: YtaiebhkjkeadoaaTotals.lean).
  GIVEN WITH THE SEED: the statements are not yours to turn. If you find one false, say at which input.
  Laid BY PROGRAM, IN A SANDBOX (cutbox-rows.mjs): the forced cells as the released guide's own fill.sh prints them over the translation e470dd7fe73cf9e5… (all of the seat's roots in one cut). By AI agents, Wed Nov 11 2026. No macro, syntax, notation, axiom, sorry.
-/
import Derived.Test.YtaiebhkjkeadoaaChecked
import GoSem.Claim
import GoSem.ClaimJoined
import GoSem.ClaimMapViews
import Derived.JoinedTies
import Derived.KernelRfl
namespace Go.Proofs.Ytaiebhkjkeadoaa
/- THE CELL 'sum', in the pinned program and in every row, IS THE sha256 OF THE DUMP (.gsa) THAT YtaiebhkjkeadoaaProg.lean LOADS. Nothing in Lean hashes anything: it is a label: what it is worth is what the hold of that sum in a sandbox is worth. -/
noncomputable def Try.pinned : Pinned := { name := "ytaiebhkjkeadoaa", sum := "e470dd7fe73cf9e52fde1d7edbcf238257db02ae6b19864e2a87a84746bfed1c", checked := Try.checked }
namespace Rows
def none {H : Type} : Left H := { results := [], args := [] }

/-- 'beguinagelaw15.RollOthers': WHATEVER THE INPUT: true; the input reads as it did. -/
def rollOthersSpec : ChangeSpec := { name := "rollOthers", fn := fun _ => fun
  | [d1, d2] => { results := [.lit (.bool true)], args := [d1, d2] }
  | _ => none }
def rollOthersRow : OpenClaim := { program := "ytaiebhkjkeadoaa", sum := "e470dd7fe73cf9e52fde1d7edbcf238257db02ae6b19864e2a87a84746bfed1c", func := "beguinage/beguinagelaw15.RollOthers", spec := "rollOthers", inPlace := ["internal/abi.NoEscape", "internal/bytealg.MakeNoZero"], unfollowed := true, recurses := true, apart := false }
def RollOthersSaid : Prop := rollOthersRow.holds Try.pinned (OpenSpec.ofChange rollOthersSpec)

/-- ITS FALSE NEIGHBOUR: 'it returns false'. Refute it at one input. -/
def rollOthersWrong : ChangeSpec := { name := "rollOthers", fn := fun _ => fun
  | [d1, d2] => { results := [.lit (.bool false)], args := [d1, d2] }
  | _ => none }
def RollOthersWrongFalsely : Prop := rollOthersRow.holds Try.pinned (OpenSpec.ofChange rollOthersWrong)

/-- 'beguinagelaw15.RollAgain': WHATEVER THE INPUT: true; the input reads as it did. -/
def rollAgainSpec : ChangeSpec := { name := "rollAgain", fn := fun _ => fun
  | [d1, d2] => { results := [.lit (.bool true)], args := [d1, d2] }
  | _ => none }
def rollAgainRow : OpenClaim := { program := "ytaiebhkjkeadoaa", sum := "e470dd7fe73cf9e52fde1d7edbcf238257db02ae6b19864e2a87a84746bfed1c", func := "beguinage/beguinagelaw15.RollAgain", spec := "rollAgain", inPlace := ["internal/abi.NoEscape", "internal/bytealg.MakeNoZero"], unfollowed := true, recurses := true, apart := false }
def RollAgainSaid : Prop := rollAgainRow.holds Try.pinned (OpenSpec.ofChange rollAgainSpec)

/-- ITS FALSE NEIGHBOUR: 'it returns false'. Refute it at one input. -/
def rollAgainWrong : ChangeSpec := { name := "rollAgain", fn := fun _ => fun
  | [d1, d2] => { results := [.lit (.bool false)], args := [d1, d2] }
  | _ => none }
def RollAgainWrongFalsely : Prop := rollAgainRow.holds Try.pinned (OpenSpec.ofChange rollAgainWrong)

/-- 'beguinagelaw15.RollTorn': WHATEVER THE INPUT: true; the input reads as it did. -/
def rollTornSpec : ChangeSpec := { name := "rollTorn", fn := fun _ => fun
  | [d1, d2, d3] => { results := [.lit (.bool true)], args := [d1, d2, d3] }
  | _ => none }
def rollTornRow : OpenClaim := { program := "ytaiebhkjkeadoaa", sum := "e470dd7fe73cf9e52fde1d7edbcf238257db02ae6b19864e2a87a84746bfed1c", func := "beguinage/beguinagelaw15.RollTorn", spec := "rollTorn", inPlace := ["internal/abi.NoEscape", "internal/bytealg.MakeNoZero"], unfollowed := true, recurses := true, apart := false }
def RollTornSaid : Prop := rollTornRow.holds Try.pinned (OpenSpec.ofChange rollTornSpec)

/-- ITS FALSE NEIGHBOUR: 'it returns false'. Refute it at one input. -/
def rollTornWrong : ChangeSpec := { name := "rollTorn", fn := fun _ => fun
  | [d1, d2, d3] => { results := [.lit (.bool false)], args := [d1, d2, d3] }
  | _ => none }
def RollTornWrongFalsely : Prop := rollTornRow.holds Try.pinned (OpenSpec.ofChange rollTornWrong)

/-- 'beguinagelaw15.RollEmpty': WHATEVER THE INPUT: true; the input reads as it did. -/
def rollEmptySpec : ChangeSpec := { name := "rollEmpty", fn := fun _ => fun
  | [d1, d2, d3] => { results := [.lit (.bool true)], args := [d1, d2, d3] }
  | _ => none }
def rollEmptyRow : OpenClaim := { program := "ytaiebhkjkeadoaa", sum := "e470dd7fe73cf9e52fde1d7edbcf238257db02ae6b19864e2a87a84746bfed1c", func := "beguinage/beguinagelaw15.RollEmpty", spec := "rollEmpty", inPlace := ["internal/abi.NoEscape", "internal/bytealg.MakeNoZero"], unfollowed := true, recurses := true, apart := false }
def RollEmptySaid : Prop := rollEmptyRow.holds Try.pinned (OpenSpec.ofChange rollEmptySpec)

/-- ITS FALSE NEIGHBOUR: 'it returns false'. Refute it at one input. -/
def rollEmptyWrong : ChangeSpec := { name := "rollEmpty", fn := fun _ => fun
  | [d1, d2, d3] => { results := [.lit (.bool false)], args := [d1, d2, d3] }
  | _ => none }
def RollEmptyWrongFalsely : Prop := rollEmptyRow.holds Try.pinned (OpenSpec.ofChange rollEmptyWrong)

/- THE SECOND FORM. 'bulk': how many values and letters a reading holds, each counted each time it is reached (what is shared counts as often as it is met; a slice's spare places count too). A statement '..UptoSaid' is the law's where the arguments, and the package variables that the reading takes, are together of bulk at most 1048576: NARROWER than '..Said'. Prove '..Said' where nothing that the law and all that it calls make is longer than what came in: it says more and counts as full. Else prove '..UptoSaid'. A law counts once. -/
mutual
def uptoBulk {H : Type} : DataW H → Nat
  | .lit (.string bytes) => bytes.length + 1
  | .lit _ => 1
  | .nil => 1
  | .ptr d => uptoBulk d + 1
  | .slice elems spare => uptoBulkAll elems + uptoBulkAll spare + 1
  | .agg parts => uptoBulkAll parts + 1
  | .iface _ d => uptoBulk d + 1
  | .map entries => uptoBulkEntries entries + 1
  | .held _ => 1
def uptoBulkAll {H : Type} : List (DataW H) → Nat
  | [] => 0
  | d :: r => uptoBulk d + uptoBulkAll r
def uptoBulkEntries {H : Type} : List (Lit × DataW H) → Nat
  | [] => 0
  | x :: r => uptoBulkEntry x + uptoBulkEntries r
def uptoBulkEntry {H : Type} : Lit × DataW H → Nat
  | (.string bytes, d) => bytes.length + uptoBulk d + 1
  | (_, d) => uptoBulk d + 1
 end
def uptoSmall : (H : Type) → List (DataW H) → Bool := fun _ ds => decide (uptoBulkAll ds ≤ 1048576)
def OpenSpec.upto (s : _root_.Go.ChangeSpec) : _root_.Go.OpenSpec := { _root_.Go.OpenSpec.ofChange s with cond := some uptoSmall }

/-- 'beguinagelaw15.RollOthers', WHERE WHAT IT READS IS OF BULK AT MOST 1048576: true; the input reads as it did. -/
def rollOthersUptoRow : OpenClaim := { program := "ytaiebhkjkeadoaa", sum := "e470dd7fe73cf9e52fde1d7edbcf238257db02ae6b19864e2a87a84746bfed1c", func := "beguinage/beguinagelaw15.RollOthers", spec := "rollOthers", inPlace := ["internal/abi.NoEscape", "internal/bytealg.MakeNoZero"], unfollowed := true, recurses := true, apart := false, narrowed := true }
def RollOthersUptoSaid : Prop := rollOthersUptoRow.holds Try.pinned (OpenSpec.upto rollOthersSpec)

/-- 'beguinagelaw15.RollAgain', WHERE WHAT IT READS IS OF BULK AT MOST 1048576: true; the input reads as it did. -/
def rollAgainUptoRow : OpenClaim := { program := "ytaiebhkjkeadoaa", sum := "e470dd7fe73cf9e52fde1d7edbcf238257db02ae6b19864e2a87a84746bfed1c", func := "beguinage/beguinagelaw15.RollAgain", spec := "rollAgain", inPlace := ["internal/abi.NoEscape", "internal/bytealg.MakeNoZero"], unfollowed := true, recurses := true, apart := false, narrowed := true }
def RollAgainUptoSaid : Prop := rollAgainUptoRow.holds Try.pinned (OpenSpec.upto rollAgainSpec)

/-- 'beguinagelaw15.RollTorn', WHERE WHAT IT READS IS OF BULK AT MOST 1048576: true; the input reads as it did. -/
def rollTornUptoRow : OpenClaim := { program := "ytaiebhkjkeadoaa", sum := "e470dd7fe73cf9e52fde1d7edbcf238257db02ae6b19864e2a87a84746bfed1c", func := "beguinage/beguinagelaw15.RollTorn", spec := "rollTorn", inPlace := ["internal/abi.NoEscape", "internal/bytealg.MakeNoZero"], unfollowed := true, recurses := true, apart := false, narrowed := true }
def RollTornUptoSaid : Prop := rollTornUptoRow.holds Try.pinned (OpenSpec.upto rollTornSpec)

/-- 'beguinagelaw15.RollEmpty', WHERE WHAT IT READS IS OF BULK AT MOST 1048576: true; the input reads as it did. -/
def rollEmptyUptoRow : OpenClaim := { program := "ytaiebhkjkeadoaa", sum := "e470dd7fe73cf9e52fde1d7edbcf238257db02ae6b19864e2a87a84746bfed1c", func := "beguinage/beguinagelaw15.RollEmpty", spec := "rollEmpty", inPlace := ["internal/abi.NoEscape", "internal/bytealg.MakeNoZero"], unfollowed := true, recurses := true, apart := false, narrowed := true }
def RollEmptyUptoSaid : Prop := rollEmptyUptoRow.holds Try.pinned (OpenSpec.upto rollEmptySpec)

end Rows
end Go.Proofs.Ytaiebhkjkeadoaa
