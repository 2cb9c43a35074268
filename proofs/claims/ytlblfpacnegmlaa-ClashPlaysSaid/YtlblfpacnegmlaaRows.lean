/-
  No cell of these rows narrows 'for every input' (looked for: loops, veiled, ifaces, maps, wideKeys, modest, calm, conditions, laid).
  DERIVED. THE GIVEN ROWS OF THIS SEAT. 3 by the template 'for every input the law returns true; each argument reads behind the call as it read before'; 0 by the template 'total and deterministic' (their statements: YtlblfpacnegmlaaTotals.lean).
  GIVEN WITH THE SEED: the statements are not yours to turn. If you find one false, say at which input.
  Laid BY PROGRAM, IN A SANDBOX (cutbox-rows.mjs): the forced cells as the released guide's own fill.sh prints them over the translation d26372ddf90c4b17… (all of the seat's roots in one cut). By AI agents, Wed Nov 11 2026. No macro, syntax, notation, axiom, sorry.
-/
import Derived.Test.YtlblfpacnegmlaaChecked
import GoSem.Claim
import GoSem.ClaimJoined
import GoSem.ClaimMapViews
import Derived.JoinedTies
import Derived.KernelRfl
namespace Go.Proofs.Ytlblfpacnegmlaa
/- THE CELL 'sum', in the pinned program and in every row, IS THE sha256 OF THE DUMP (.gsa) THAT YtlblfpacnegmlaaProg.lean LOADS. Nothing in Lean hashes anything: it is a label: what it is worth is what the hold of that sum in a sandbox is worth. -/
noncomputable def Try.pinned : Pinned := { name := "ytlblfpacnegmlaa", sum := "d26372ddf90c4b1709f3c3a6fce3c5fa9473fd0e6982a830481eab28e834c7ef", checked := Try.checked }
namespace Rows
def none {H : Type} : Left H := { results := [], args := [] }

/-- 'flintlaw21.ClashIs': WHATEVER THE INPUT: true; the input reads as it did. -/
def clashIsSpec : ChangeSpec := { name := "clashIs", fn := fun _ => fun
  | [d1, d2, d3] => { results := [.lit (.bool true)], args := [d1, d2, d3] }
  | _ => none }
def clashIsRow : OpenClaim := { program := "ytlblfpacnegmlaa", sum := "d26372ddf90c4b1709f3c3a6fce3c5fa9473fd0e6982a830481eab28e834c7ef", func := "flint/flintlaw21.ClashIs", spec := "clashIs", unfollowed := true, recurses := true, apart := false }
def ClashIsSaid : Prop := clashIsRow.holds Try.pinned (OpenSpec.ofChange clashIsSpec)

/-- ITS FALSE NEIGHBOUR: 'it returns false'. Refute it at one input. -/
def clashIsWrong : ChangeSpec := { name := "clashIs", fn := fun _ => fun
  | [d1, d2, d3] => { results := [.lit (.bool false)], args := [d1, d2, d3] }
  | _ => none }
def ClashIsWrongFalsely : Prop := clashIsRow.holds Try.pinned (OpenSpec.ofChange clashIsWrong)

/-- 'flintlaw21.ClashMore': WHATEVER THE INPUT: true; the input reads as it did. -/
def clashMoreSpec : ChangeSpec := { name := "clashMore", fn := fun _ => fun
  | [d1, d2, d3, d4, d5] => { results := [.lit (.bool true)], args := [d1, d2, d3, d4, d5] }
  | _ => none }
def clashMoreRow : OpenClaim := { program := "ytlblfpacnegmlaa", sum := "d26372ddf90c4b1709f3c3a6fce3c5fa9473fd0e6982a830481eab28e834c7ef", func := "flint/flintlaw21.ClashMore", spec := "clashMore", unfollowed := true, recurses := true, apart := false }
def ClashMoreSaid : Prop := clashMoreRow.holds Try.pinned (OpenSpec.ofChange clashMoreSpec)

/-- ITS FALSE NEIGHBOUR: 'it returns false'. Refute it at one input. -/
def clashMoreWrong : ChangeSpec := { name := "clashMore", fn := fun _ => fun
  | [d1, d2, d3, d4, d5] => { results := [.lit (.bool false)], args := [d1, d2, d3, d4, d5] }
  | _ => none }
def ClashMoreWrongFalsely : Prop := clashMoreRow.holds Try.pinned (OpenSpec.ofChange clashMoreWrong)

/-- 'flintlaw21.ClashPlays': WHATEVER THE INPUT: true; the input reads as it did. -/
def clashPlaysSpec : ChangeSpec := { name := "clashPlays", fn := fun _ => fun
  | [d1, d2, d3] => { results := [.lit (.bool true)], args := [d1, d2, d3] }
  | _ => none }
def clashPlaysRow : OpenClaim := { program := "ytlblfpacnegmlaa", sum := "d26372ddf90c4b1709f3c3a6fce3c5fa9473fd0e6982a830481eab28e834c7ef", func := "flint/flintlaw21.ClashPlays", spec := "clashPlays", unfollowed := true, recurses := true, apart := false }
def ClashPlaysSaid : Prop := clashPlaysRow.holds Try.pinned (OpenSpec.ofChange clashPlaysSpec)

/-- ITS FALSE NEIGHBOUR: 'it returns false'. Refute it at one input. -/
def clashPlaysWrong : ChangeSpec := { name := "clashPlays", fn := fun _ => fun
  | [d1, d2, d3] => { results := [.lit (.bool false)], args := [d1, d2, d3] }
  | _ => none }
def ClashPlaysWrongFalsely : Prop := clashPlaysRow.holds Try.pinned (OpenSpec.ofChange clashPlaysWrong)

/- THE SECOND FORM. 'bulk': how many values and letters a reading holds, each counted each time it is reached (what is shared counts as often as it is met; a slice's spare places count too). A statement '..UptoSaid' is the law's where the arguments, and the package variables that the reading takes, are together of bulk at most 1048576: NARROWER than '..Said'. Prove '..Said' where nothing that the law and all that it calls make is longer than what came in: it says more and counts as full. Else prove '..UptoSaid'. A law counts once. -/
mutual
def uptoBulk {H : Type} : DataW H → Nat
  | .lit (.string bytes) => bytes.length + 1
  | .lit _ => 1
  | .nil => 1
  | .ptr d => uptoBulk d + 1
  | .slice elems spare => uptoBulkAll elems + uptoBulkAll spare + 1
  | .agg parts => uptoBulkAll parts + 1
  | .iface _ d => uptoBulk d + 1
  | .map entries => uptoBulkEntries entries + 1
  | .held _ => 1
def uptoBulkAll {H : Type} : List (DataW H) → Nat
  | [] => 0
  | d :: r => uptoBulk d + uptoBulkAll r
def uptoBulkEntries {H : Type} : List (Lit × DataW H) → Nat
  | [] => 0
  | x :: r => uptoBulkEntry x + uptoBulkEntries r
def uptoBulkEntry {H : Type} : Lit × DataW H → Nat
  | (.string bytes, d) => bytes.length + uptoBulk d + 1
  | (_, d) => uptoBulk d + 1
 end
def uptoSmall : (H : Type) → List (DataW H) → Bool := fun _ ds => decide (uptoBulkAll ds ≤ 1048576)
def OpenSpec.upto (s : _root_.Go.ChangeSpec) : _root_.Go.OpenSpec := { _root_.Go.OpenSpec.ofChange s with cond := some uptoSmall }

/-- 'flintlaw21.ClashIs', WHERE WHAT IT READS IS OF BULK AT MOST 1048576: true; the input reads as it did. -/
def clashIsUptoRow : OpenClaim := { program := "ytlblfpacnegmlaa", sum := "d26372ddf90c4b1709f3c3a6fce3c5fa9473fd0e6982a830481eab28e834c7ef", func := "flint/flintlaw21.ClashIs", spec := "clashIs", unfollowed := true, recurses := true, apart := false, narrowed := true }
def ClashIsUptoSaid : Prop := clashIsUptoRow.holds Try.pinned (OpenSpec.upto clashIsSpec)

/-- 'flintlaw21.ClashMore', WHERE WHAT IT READS IS OF BULK AT MOST 1048576: true; the input reads as it did. -/
def clashMoreUptoRow : OpenClaim := { program := "ytlblfpacnegmlaa", sum := "d26372ddf90c4b1709f3c3a6fce3c5fa9473fd0e6982a830481eab28e834c7ef", func := "flint/flintlaw21.ClashMore", spec := "clashMore", unfollowed := true, recurses := true, apart := false, narrowed := true }
def ClashMoreUptoSaid : Prop := clashMoreUptoRow.holds Try.pinned (OpenSpec.upto clashMoreSpec)

/-- 'flintlaw21.ClashPlays', WHERE WHAT IT READS IS OF BULK AT MOST 1048576: true; the input reads as it did. -/
def clashPlaysUptoRow : OpenClaim := { program := "ytlblfpacnegmlaa", sum := "d26372ddf90c4b1709f3c3a6fce3c5fa9473fd0e6982a830481eab28e834c7ef", func := "flint/flintlaw21.ClashPlays", spec := "clashPlays", unfollowed := true, recurses := true, apart := false, narrowed := true }
def ClashPlaysUptoSaid : Prop := clashPlaysUptoRow.holds Try.pinned (OpenSpec.upto clashPlaysSpec)

end Rows
end Go.Proofs.Ytlblfpacnegmlaa
