/-
  No cell of these rows narrows 'for every input' (looked for: loops, veiled, ifaces, maps, wideKeys, modest, calm, conditions, laid).
  DERIVED. THE GIVEN ROWS OF THIS SEAT. 3 by the template 'for every input the law returns true; each argument reads behind the call as it read before'; 0 by the template 'total and deterministic' (their statements: YtipiibjghmafjaaTotals.lean).
  GIVEN WITH THE SEED: the statements are not yours to turn. If you find one false, say at which input.
  Laid BY PROGRAM, IN A SANDBOX (cutbox-rows.mjs): the forced cells as the released guide's own fill.sh prints them over the translation dd8b82adb7d4b8bd… (all of the seat's roots in one cut). By AI agents, Wed Nov 11 2026. No macro, syntax, notation, axiom, sorry.
-/
import Derived.Test.YtipiibjghmafjaaChecked
import GoSem.Claim
import GoSem.ClaimJoined
import GoSem.ClaimMapViews
import Derived.JoinedTies
import Derived.KernelRfl
namespace Go.Proofs.Ytipiibjghmafjaa
/- THE CELL 'sum', in the pinned program and in every row, IS THE sha256 OF THE DUMP (.gsa) THAT YtipiibjghmafjaaProg.lean LOADS. Nothing in Lean hashes anything: it is a label: what it is worth is what the hold of that sum in a sandbox is worth. -/
noncomputable def Try.pinned : Pinned := { name := "ytipiibjghmafjaa", sum := "dd8b82adb7d4b8bdb7e9e9589a99bb68766fb18c4afc7f94aa320ae15b395ed6", checked := Try.checked }
namespace Rows
def none {H : Type} : Left H := { results := [], args := [] }

/-- 'flintlaw09.KeysMade': WHATEVER THE INPUT: true; the input reads as it did. -/
def keysMadeSpec : ChangeSpec := { name := "keysMade", fn := fun _ => fun
  | [d1, d2, d3] => { results := [.lit (.bool true)], args := [d1, d2, d3] }
  | _ => none }
def keysMadeRow : OpenClaim := { program := "ytipiibjghmafjaa", sum := "dd8b82adb7d4b8bdb7e9e9589a99bb68766fb18c4afc7f94aa320ae15b395ed6", func := "flint/flintlaw09.KeysMade", spec := "keysMade", apart := false }
def KeysMadeSaid : Prop := keysMadeRow.holds Try.pinned (OpenSpec.ofChange keysMadeSpec)

/-- ITS FALSE NEIGHBOUR: 'it returns false'. Refute it at one input. -/
def keysMadeWrong : ChangeSpec := { name := "keysMade", fn := fun _ => fun
  | [d1, d2, d3] => { results := [.lit (.bool false)], args := [d1, d2, d3] }
  | _ => none }
def KeysMadeWrongFalsely : Prop := keysMadeRow.holds Try.pinned (OpenSpec.ofChange keysMadeWrong)

/-- 'flintlaw09.KeysSplit': WHATEVER THE INPUT: true; the input reads as it did. -/
def keysSplitSpec : ChangeSpec := { name := "keysSplit", fn := fun _ => fun
  | [d] => { results := [.lit (.bool true)], args := [d] }
  | _ => none }
def keysSplitRow : OpenClaim := { program := "ytipiibjghmafjaa", sum := "dd8b82adb7d4b8bdb7e9e9589a99bb68766fb18c4afc7f94aa320ae15b395ed6", func := "flint/flintlaw09.KeysSplit", spec := "keysSplit", apart := false }
def KeysSplitSaid : Prop := keysSplitRow.holds Try.pinned (OpenSpec.ofChange keysSplitSpec)

/-- ITS FALSE NEIGHBOUR: 'it returns false'. Refute it at one input. -/
def keysSplitWrong : ChangeSpec := { name := "keysSplit", fn := fun _ => fun
  | [d] => { results := [.lit (.bool false)], args := [d] }
  | _ => none }
def KeysSplitWrongFalsely : Prop := keysSplitRow.holds Try.pinned (OpenSpec.ofChange keysSplitWrong)

/-- 'flintlaw09.KeysRanges': WHATEVER THE INPUT: true; the input reads as it did. -/
def keysRangesSpec : ChangeSpec := { name := "keysRanges", fn := fun _ => fun
  | [d1, d2, d3] => { results := [.lit (.bool true)], args := [d1, d2, d3] }
  | _ => none }
def keysRangesRow : OpenClaim := { program := "ytipiibjghmafjaa", sum := "dd8b82adb7d4b8bdb7e9e9589a99bb68766fb18c4afc7f94aa320ae15b395ed6", func := "flint/flintlaw09.KeysRanges", spec := "keysRanges", apart := false }
def KeysRangesSaid : Prop := keysRangesRow.holds Try.pinned (OpenSpec.ofChange keysRangesSpec)

/-- ITS FALSE NEIGHBOUR: 'it returns false'. Refute it at one input. -/
def keysRangesWrong : ChangeSpec := { name := "keysRanges", fn := fun _ => fun
  | [d1, d2, d3] => { results := [.lit (.bool false)], args := [d1, d2, d3] }
  | _ => none }
def KeysRangesWrongFalsely : Prop := keysRangesRow.holds Try.pinned (OpenSpec.ofChange keysRangesWrong)

/- THE SECOND FORM. 'bulk': how many values and letters a reading holds, each counted each time it is reached (what is shared counts as often as it is met; a slice's spare places count too). A statement '..UptoSaid' is the law's where the arguments, and the package variables that the reading takes, are together of bulk at most 1048576: NARROWER than '..Said'. Prove '..Said' where nothing that the law and all that it calls make is longer than what came in: it says more and counts as full. Else prove '..UptoSaid'. A law counts once. -/
mutual
def uptoBulk {H : Type} : DataW H → Nat
  | .lit (.string bytes) => bytes.length + 1
  | .lit _ => 1
  | .nil => 1
  | .ptr d => uptoBulk d + 1
  | .slice elems spare => uptoBulkAll elems + uptoBulkAll spare + 1
  | .agg parts => uptoBulkAll parts + 1
  | .iface _ d => uptoBulk d + 1
  | .map entries => uptoBulkEntries entries + 1
  | .held _ => 1
def uptoBulkAll {H : Type} : List (DataW H) → Nat
  | [] => 0
  | d :: r => uptoBulk d + uptoBulkAll r
def uptoBulkEntries {H : Type} : List (Lit × DataW H) → Nat
  | [] => 0
  | x :: r => uptoBulkEntry x + uptoBulkEntries r
def uptoBulkEntry {H : Type} : Lit × DataW H → Nat
  | (.string bytes, d) => bytes.length + uptoBulk d + 1
  | (_, d) => uptoBulk d + 1
 end
def uptoSmall : (H : Type) → List (DataW H) → Bool := fun _ ds => decide (uptoBulkAll ds ≤ 1048576)
def OpenSpec.upto (s : _root_.Go.ChangeSpec) : _root_.Go.OpenSpec := { _root_.Go.OpenSpec.ofChange s with cond := some uptoSmall }

/-- 'flintlaw09.KeysMade', WHERE WHAT IT READS IS OF BULK AT MOST 1048576: true; the input reads as it did. -/
def keysMadeUptoRow : OpenClaim := { program := "ytipiibjghmafjaa", sum := "dd8b82adb7d4b8bdb7e9e9589a99bb68766fb18c4afc7f94aa320ae15b395ed6", func := "flint/flintlaw09.KeysMade", spec := "keysMade", apart := false, narrowed := true }
def KeysMadeUptoSaid : Prop := keysMadeUptoRow.holds Try.pinned (OpenSpec.upto keysMadeSpec)

/-- 'flintlaw09.KeysSplit', WHERE WHAT IT READS IS OF BULK AT MOST 1048576: true; the input reads as it did. -/
def keysSplitUptoRow : OpenClaim := { program := "ytipiibjghmafjaa", sum := "dd8b82adb7d4b8bdb7e9e9589a99bb68766fb18c4afc7f94aa320ae15b395ed6", func := "flint/flintlaw09.KeysSplit", spec := "keysSplit", apart := false, narrowed := true }
def KeysSplitUptoSaid : Prop := keysSplitUptoRow.holds Try.pinned (OpenSpec.upto keysSplitSpec)

/-- 'flintlaw09.KeysRanges', WHERE WHAT IT READS IS OF BULK AT MOST 1048576: true; the input reads as it did. -/
def keysRangesUptoRow : OpenClaim := { program := "ytipiibjghmafjaa", sum := "dd8b82adb7d4b8bdb7e9e9589a99bb68766fb18c4afc7f94aa320ae15b395ed6", func := "flint/flintlaw09.KeysRanges", spec := "keysRanges", apart := false, narrowed := true }
def KeysRangesUptoSaid : Prop := keysRangesUptoRow.holds Try.pinned (OpenSpec.upto keysRangesSpec)

end Rows
end Go.Proofs.Ytipiibjghmafjaa
