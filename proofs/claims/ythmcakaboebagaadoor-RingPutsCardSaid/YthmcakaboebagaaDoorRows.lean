/-
  NARROWER THAN 'FOR EVERY INPUT', by the rows' own cells (each row's printed sentence says how): RingPuts: laid · RingGets: laid.
  DERIVED. THE GIVEN ROWS OF THIS SEAT. 2 by the template 'for every input the law returns true; each argument reads behind the call as it read before'; 0 by the template 'total and deterministic' (their statements: YthmcakaboebagaaDoorTotals.lean).
  GIVEN WITH THE SEED: the statements are not yours to turn. If you find one false, say at which input.
  Laid BY PROGRAM, IN A SANDBOX (cutbox-rows.mjs): the forced cells as the released guide's own fill.sh prints them over the translation 500df275d4910fd6… (all of the seat's roots in one cut). By AI agents, Wed Nov 11 2026. No macro, syntax, notation, axiom, sorry.
-/
import Derived.Test.YthmcakaboebagaaDoorChecked
import GoSem.Claim
import GoSem.ClaimJoined
import GoSem.ClaimMapViews
import Derived.JoinedTies
import Derived.KernelRfl
namespace Go.Proofs.YthmcakaboebagaaDoor
/- THE CELL 'sum', in the pinned program and in every row, IS THE sha256 OF THE DUMP (.gsa) THAT YthmcakaboebagaaDoorProg.lean LOADS. Nothing in Lean hashes anything: it is a label: what it is worth is what the hold of that sum in a sandbox is worth. -/
noncomputable def Tryd.pinned : Pinned := { name := "ythmcakaboebagaadoor", sum := "500df275d4910fd68abd7eaa088f3be473273ef9399cb043059c78145a6c9b65", checked := Tryd.checked }
namespace Rows
def none {H : Type} : Left H := { results := [], args := [] }

/- WHAT THE LISTED PACKAGE-LEVEL VARIABLES READ AS WHEN THE CALL BEGINS. Each datum BY PROGRAM (the guide's laid-datum.mjs) off the statement by which the dump's own 'gosem.cut.vars' lays the variable. In a bare row this is a premise. The card (YthmcakaboebagaaDoorCards.lean) ties it to the program's text. -/
def laid_flint_place_nowhere {H : Type} : DataW H := .agg [.lit (.int .u8 255), .lit (.int .u8 255), .lit (.int .u8 255)]

/-- 'flintlaw07.RingPuts': WHATEVER THE INPUT: true; the input reads as it did. -/
def ringPutsSpec : ChangeSpec := { name := "ringPuts", fn := fun _ => fun
  | [d] => { results := [.lit (.bool true)], args := [d] }
  | _ => none }
def ringPutsRow : OpenClaim := { program := "ythmcakaboebagaadoor", sum := "500df275d4910fd68abd7eaa088f3be473273ef9399cb043059c78145a6c9b65", func := "flint/flintlaw07.RingPuts", spec := "ringPuts", inPlace := ["math.Float64frombits", "math.archFloor", "math.Float64bits", "math.archTrunc"], named := ["flint/place.nowhere"], apart := false, laid := [("flint/place.nowhere", laid_flint_place_nowhere)] }
def RingPutsSaid : Prop := ringPutsRow.holds Tryd.pinned (OpenSpec.ofChange ringPutsSpec)

/-- ITS FALSE NEIGHBOUR: 'it returns false'. Refute it at one input. -/
def ringPutsWrong : ChangeSpec := { name := "ringPuts", fn := fun _ => fun
  | [d] => { results := [.lit (.bool false)], args := [d] }
  | _ => none }
def RingPutsWrongFalsely : Prop := ringPutsRow.holds Tryd.pinned (OpenSpec.ofChange ringPutsWrong)

/-- 'flintlaw07.RingGets': WHATEVER THE INPUT: true; the input reads as it did. -/
def ringGetsSpec : ChangeSpec := { name := "ringGets", fn := fun _ => fun
  | [d] => { results := [.lit (.bool true)], args := [d] }
  | _ => none }
def ringGetsRow : OpenClaim := { program := "ythmcakaboebagaadoor", sum := "500df275d4910fd68abd7eaa088f3be473273ef9399cb043059c78145a6c9b65", func := "flint/flintlaw07.RingGets", spec := "ringGets", inPlace := ["math.archFloor", "math.Float64bits", "math.Float64frombits", "math.archTrunc"], named := ["flint/place.nowhere"], apart := false, laid := [("flint/place.nowhere", laid_flint_place_nowhere)] }
def RingGetsSaid : Prop := ringGetsRow.holds Tryd.pinned (OpenSpec.ofChange ringGetsSpec)

/-- ITS FALSE NEIGHBOUR: 'it returns false'. Refute it at one input. -/
def ringGetsWrong : ChangeSpec := { name := "ringGets", fn := fun _ => fun
  | [d] => { results := [.lit (.bool false)], args := [d] }
  | _ => none }
def RingGetsWrongFalsely : Prop := ringGetsRow.holds Tryd.pinned (OpenSpec.ofChange ringGetsWrong)

/- THE SECOND FORM. 'bulk': how many values and letters a reading holds, each counted each time it is reached (what is shared counts as often as it is met; a slice's spare places count too). A statement '..UptoSaid' is the law's where the arguments, and the package variables that the reading takes, are together of bulk at most 1048576: NARROWER than '..Said'. Prove '..Said' where nothing that the law and all that it calls make is longer than what came in: it says more and counts as full. Else prove '..UptoSaid'. A law counts once. -/
mutual
def uptoBulk {H : Type} : DataW H → Nat
  | .lit (.string bytes) => bytes.length + 1
  | .lit _ => 1
  | .nil => 1
  | .ptr d => uptoBulk d + 1
  | .slice elems spare => uptoBulkAll elems + uptoBulkAll spare + 1
  | .agg parts => uptoBulkAll parts + 1
  | .iface _ d => uptoBulk d + 1
  | .map entries => uptoBulkEntries entries + 1
  | .held _ => 1
def uptoBulkAll {H : Type} : List (DataW H) → Nat
  | [] => 0
  | d :: r => uptoBulk d + uptoBulkAll r
def uptoBulkEntries {H : Type} : List (Lit × DataW H) → Nat
  | [] => 0
  | x :: r => uptoBulkEntry x + uptoBulkEntries r
def uptoBulkEntry {H : Type} : Lit × DataW H → Nat
  | (.string bytes, d) => bytes.length + uptoBulk d + 1
  | (_, d) => uptoBulk d + 1
 end
def uptoSmall : (H : Type) → List (DataW H) → Bool := fun _ ds => decide (uptoBulkAll ds ≤ 1048576)
def OpenSpec.upto (s : _root_.Go.ChangeSpec) : _root_.Go.OpenSpec := { _root_.Go.OpenSpec.ofChange s with cond := some uptoSmall }

/-- 'flintlaw07.RingPuts', WHERE WHAT IT READS IS OF BULK AT MOST 1048576: true; the input reads as it did. -/
def ringPutsUptoRow : OpenClaim := { program := "ythmcakaboebagaadoor", sum := "500df275d4910fd68abd7eaa088f3be473273ef9399cb043059c78145a6c9b65", func := "flint/flintlaw07.RingPuts", spec := "ringPuts", inPlace := ["math.Float64frombits", "math.archFloor", "math.Float64bits", "math.archTrunc"], named := ["flint/place.nowhere"], apart := false, laid := [("flint/place.nowhere", laid_flint_place_nowhere)], narrowed := true }
def RingPutsUptoSaid : Prop := ringPutsUptoRow.holds Tryd.pinned (OpenSpec.upto ringPutsSpec)

/-- 'flintlaw07.RingGets', WHERE WHAT IT READS IS OF BULK AT MOST 1048576: true; the input reads as it did. -/
def ringGetsUptoRow : OpenClaim := { program := "ythmcakaboebagaadoor", sum := "500df275d4910fd68abd7eaa088f3be473273ef9399cb043059c78145a6c9b65", func := "flint/flintlaw07.RingGets", spec := "ringGets", inPlace := ["math.archFloor", "math.Float64bits", "math.Float64frombits", "math.archTrunc"], named := ["flint/place.nowhere"], apart := false, laid := [("flint/place.nowhere", laid_flint_place_nowhere)], narrowed := true }
def RingGetsUptoSaid : Prop := ringGetsUptoRow.holds Tryd.pinned (OpenSpec.upto ringGetsSpec)

end Rows
end Go.Proofs.YthmcakaboebagaaDoor
