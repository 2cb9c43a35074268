/-
  No cell of these rows narrows 'for every input' (looked for: loops, veiled, ifaces, maps, wideKeys, modest, calm, conditions, laid).
  DERIVED. THE GIVEN ROWS OF THIS SEAT. 5 by the template 'for every input the law returns true; each argument reads behind the call as it read before'; 0 by the template 'total and deterministic' (their statements: YtpkajgabanjglaaTotals.lean).
  GIVEN WITH THE SEED: the statements are not yours to turn. If you find one false, say at which input.
  Laid BY PROGRAM, IN A SANDBOX (cutbox-rows.mjs): the forced cells as the released guide's own fill.sh prints them over the translation ddc00096fee1e369… (all of the seat's roots in one cut). By AI agents, Wed Nov 11 2026. No macro, syntax, notation, axiom, sorry.
-/
import Derived.Test.YtpkajgabanjglaaChecked
import GoSem.Claim
import GoSem.ClaimJoined
import GoSem.ClaimMapViews
import Derived.JoinedTies
import Derived.KernelRfl
namespace Go.Proofs.Ytpkajgabanjglaa
/- THE CELL 'sum', in the pinned program and in every row, IS THE sha256 OF THE DUMP (.gsa) THAT YtpkajgabanjglaaProg.lean LOADS. Nothing in Lean hashes anything: it is a label: what it is worth is what the hold of that sum in a sandbox is worth. -/
noncomputable def Try.pinned : Pinned := { name := "ytpkajgabanjglaa", sum := "ddc00096fee1e36975a0ad867a8d29682ed7e2042ec022ed7505fbf8134f2578", checked := Try.checked }
namespace Rows
def none {H : Type} : Left H := { results := [], args := [] }

/-- 'flintlaw15.NodePuts': WHATEVER THE INPUT: true; the input reads as it did. -/
def nodePutsSpec : ChangeSpec := { name := "nodePuts", fn := fun _ => fun
  | [d] => { results := [.lit (.bool true)], args := [d] }
  | _ => none }
def nodePutsRow : OpenClaim := { program := "ytpkajgabanjglaa", sum := "ddc00096fee1e36975a0ad867a8d29682ed7e2042ec022ed7505fbf8134f2578", func := "flint/flintlaw15.NodePuts", spec := "nodePuts", apart := false }
def NodePutsSaid : Prop := nodePutsRow.holds Try.pinned (OpenSpec.ofChange nodePutsSpec)

/-- ITS FALSE NEIGHBOUR: 'it returns false'. Refute it at one input. -/
def nodePutsWrong : ChangeSpec := { name := "nodePuts", fn := fun _ => fun
  | [d] => { results := [.lit (.bool false)], args := [d] }
  | _ => none }
def NodePutsWrongFalsely : Prop := nodePutsRow.holds Try.pinned (OpenSpec.ofChange nodePutsWrong)

/-- 'flintlaw15.NodeGets': WHATEVER THE INPUT: true; the input reads as it did. -/
def nodeGetsSpec : ChangeSpec := { name := "nodeGets", fn := fun _ => fun
  | [d] => { results := [.lit (.bool true)], args := [d] }
  | _ => none }
def nodeGetsRow : OpenClaim := { program := "ytpkajgabanjglaa", sum := "ddc00096fee1e36975a0ad867a8d29682ed7e2042ec022ed7505fbf8134f2578", func := "flint/flintlaw15.NodeGets", spec := "nodeGets", apart := false }
def NodeGetsSaid : Prop := nodeGetsRow.holds Try.pinned (OpenSpec.ofChange nodeGetsSpec)

/-- ITS FALSE NEIGHBOUR: 'it returns false'. Refute it at one input. -/
def nodeGetsWrong : ChangeSpec := { name := "nodeGets", fn := fun _ => fun
  | [d] => { results := [.lit (.bool false)], args := [d] }
  | _ => none }
def NodeGetsWrongFalsely : Prop := nodeGetsRow.holds Try.pinned (OpenSpec.ofChange nodeGetsWrong)

/-- 'flintlaw15.NodeNew': WHATEVER THE INPUT: true; the input reads as it did. -/
def nodeNewSpec : ChangeSpec := { name := "nodeNew", fn := fun _ => fun
  | [d1, d2] => { results := [.lit (.bool true)], args := [d1, d2] }
  | _ => none }
def nodeNewRow : OpenClaim := { program := "ytpkajgabanjglaa", sum := "ddc00096fee1e36975a0ad867a8d29682ed7e2042ec022ed7505fbf8134f2578", func := "flint/flintlaw15.NodeNew", spec := "nodeNew", apart := false }
def NodeNewSaid : Prop := nodeNewRow.holds Try.pinned (OpenSpec.ofChange nodeNewSpec)

/-- ITS FALSE NEIGHBOUR: 'it returns false'. Refute it at one input. -/
def nodeNewWrong : ChangeSpec := { name := "nodeNew", fn := fun _ => fun
  | [d1, d2] => { results := [.lit (.bool false)], args := [d1, d2] }
  | _ => none }
def NodeNewWrongFalsely : Prop := nodeNewRow.holds Try.pinned (OpenSpec.ofChange nodeNewWrong)

/-- 'flintlaw15.NodeCuts': WHATEVER THE INPUT: true; the input reads as it did. -/
def nodeCutsSpec : ChangeSpec := { name := "nodeCuts", fn := fun _ => fun
  | [d1, d2] => { results := [.lit (.bool true)], args := [d1, d2] }
  | _ => none }
def nodeCutsRow : OpenClaim := { program := "ytpkajgabanjglaa", sum := "ddc00096fee1e36975a0ad867a8d29682ed7e2042ec022ed7505fbf8134f2578", func := "flint/flintlaw15.NodeCuts", spec := "nodeCuts", apart := false }
def NodeCutsSaid : Prop := nodeCutsRow.holds Try.pinned (OpenSpec.ofChange nodeCutsSpec)

/-- ITS FALSE NEIGHBOUR: 'it returns false'. Refute it at one input. -/
def nodeCutsWrong : ChangeSpec := { name := "nodeCuts", fn := fun _ => fun
  | [d1, d2] => { results := [.lit (.bool false)], args := [d1, d2] }
  | _ => none }
def NodeCutsWrongFalsely : Prop := nodeCutsRow.holds Try.pinned (OpenSpec.ofChange nodeCutsWrong)

/-- 'flintlaw15.NodeBlocks': WHATEVER THE INPUT: true; the input reads as it did. -/
def nodeBlocksSpec : ChangeSpec := { name := "nodeBlocks", fn := fun _ => fun
  | [d] => { results := [.lit (.bool true)], args := [d] }
  | _ => none }
def nodeBlocksRow : OpenClaim := { program := "ytpkajgabanjglaa", sum := "ddc00096fee1e36975a0ad867a8d29682ed7e2042ec022ed7505fbf8134f2578", func := "flint/flintlaw15.NodeBlocks", spec := "nodeBlocks", apart := false }
def NodeBlocksSaid : Prop := nodeBlocksRow.holds Try.pinned (OpenSpec.ofChange nodeBlocksSpec)

/-- ITS FALSE NEIGHBOUR: 'it returns false'. Refute it at one input. -/
def nodeBlocksWrong : ChangeSpec := { name := "nodeBlocks", fn := fun _ => fun
  | [d] => { results := [.lit (.bool false)], args := [d] }
  | _ => none }
def NodeBlocksWrongFalsely : Prop := nodeBlocksRow.holds Try.pinned (OpenSpec.ofChange nodeBlocksWrong)

/- THE SECOND FORM. 'bulk': how many values and letters a reading holds, each counted each time it is reached (what is shared counts as often as it is met; a slice's spare places count too). A statement '..UptoSaid' is the law's where the arguments, and the package variables that the reading takes, are together of bulk at most 1048576: NARROWER than '..Said'. Prove '..Said' where nothing that the law and all that it calls make is longer than what came in: it says more and counts as full. Else prove '..UptoSaid'. A law counts once. -/
mutual
def uptoBulk {H : Type} : DataW H → Nat
  | .lit (.string bytes) => bytes.length + 1
  | .lit _ => 1
  | .nil => 1
  | .ptr d => uptoBulk d + 1
  | .slice elems spare => uptoBulkAll elems + uptoBulkAll spare + 1
  | .agg parts => uptoBulkAll parts + 1
  | .iface _ d => uptoBulk d + 1
  | .map entries => uptoBulkEntries entries + 1
  | .held _ => 1
def uptoBulkAll {H : Type} : List (DataW H) → Nat
  | [] => 0
  | d :: r => uptoBulk d + uptoBulkAll r
def uptoBulkEntries {H : Type} : List (Lit × DataW H) → Nat
  | [] => 0
  | x :: r => uptoBulkEntry x + uptoBulkEntries r
def uptoBulkEntry {H : Type} : Lit × DataW H → Nat
  | (.string bytes, d) => bytes.length + uptoBulk d + 1
  | (_, d) => uptoBulk d + 1
 end
def uptoSmall : (H : Type) → List (DataW H) → Bool := fun _ ds => decide (uptoBulkAll ds ≤ 1048576)
def OpenSpec.upto (s : _root_.Go.ChangeSpec) : _root_.Go.OpenSpec := { _root_.Go.OpenSpec.ofChange s with cond := some uptoSmall }

/-- 'flintlaw15.NodePuts', WHERE WHAT IT READS IS OF BULK AT MOST 1048576: true; the input reads as it did. -/
def nodePutsUptoRow : OpenClaim := { program := "ytpkajgabanjglaa", sum := "ddc00096fee1e36975a0ad867a8d29682ed7e2042ec022ed7505fbf8134f2578", func := "flint/flintlaw15.NodePuts", spec := "nodePuts", apart := false, narrowed := true }
def NodePutsUptoSaid : Prop := nodePutsUptoRow.holds Try.pinned (OpenSpec.upto nodePutsSpec)

/-- 'flintlaw15.NodeGets', WHERE WHAT IT READS IS OF BULK AT MOST 1048576: true; the input reads as it did. -/
def nodeGetsUptoRow : OpenClaim := { program := "ytpkajgabanjglaa", sum := "ddc00096fee1e36975a0ad867a8d29682ed7e2042ec022ed7505fbf8134f2578", func := "flint/flintlaw15.NodeGets", spec := "nodeGets", apart := false, narrowed := true }
def NodeGetsUptoSaid : Prop := nodeGetsUptoRow.holds Try.pinned (OpenSpec.upto nodeGetsSpec)

/-- 'flintlaw15.NodeNew', WHERE WHAT IT READS IS OF BULK AT MOST 1048576: true; the input reads as it did. -/
def nodeNewUptoRow : OpenClaim := { program := "ytpkajgabanjglaa", sum := "ddc00096fee1e36975a0ad867a8d29682ed7e2042ec022ed7505fbf8134f2578", func := "flint/flintlaw15.NodeNew", spec := "nodeNew", apart := false, narrowed := true }
def NodeNewUptoSaid : Prop := nodeNewUptoRow.holds Try.pinned (OpenSpec.upto nodeNewSpec)

/-- 'flintlaw15.NodeCuts', WHERE WHAT IT READS IS OF BULK AT MOST 1048576: true; the input reads as it did. -/
def nodeCutsUptoRow : OpenClaim := { program := "ytpkajgabanjglaa", sum := "ddc00096fee1e36975a0ad867a8d29682ed7e2042ec022ed7505fbf8134f2578", func := "flint/flintlaw15.NodeCuts", spec := "nodeCuts", apart := false, narrowed := true }
def NodeCutsUptoSaid : Prop := nodeCutsUptoRow.holds Try.pinned (OpenSpec.upto nodeCutsSpec)

/-- 'flintlaw15.NodeBlocks', WHERE WHAT IT READS IS OF BULK AT MOST 1048576: true; the input reads as it did. -/
def nodeBlocksUptoRow : OpenClaim := { program := "ytpkajgabanjglaa", sum := "ddc00096fee1e36975a0ad867a8d29682ed7e2042ec022ed7505fbf8134f2578", func := "flint/flintlaw15.NodeBlocks", spec := "nodeBlocks", apart := false, narrowed := true }
def NodeBlocksUptoSaid : Prop := nodeBlocksUptoRow.holds Try.pinned (OpenSpec.upto nodeBlocksSpec)

end Rows
end Go.Proofs.Ytpkajgabanjglaa
