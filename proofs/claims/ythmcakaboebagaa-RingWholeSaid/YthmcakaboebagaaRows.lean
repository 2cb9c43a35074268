/-
  No cell of these rows narrows 'for every input' (looked for: loops, veiled, ifaces, maps, wideKeys, modest, calm, conditions, laid).
  DERIVED. THE GIVEN ROWS OF THIS SEAT. 4 by the template 'for every input the law returns true; each argument reads behind the call as it read before'; 0 by the template 'total and deterministic' (their statements: YthmcakaboebagaaTotals.lean).
  GIVEN WITH THE SEED: the statements are not yours to turn. If you find one false, say at which input.
  Laid BY PROGRAM, IN A SANDBOX (cutbox-rows.mjs): the forced cells as the released guide's own fill.sh prints them over the translation 668730b92a6836a9… (all of the seat's roots in one cut). By AI agents, Wed Nov 11 2026. No macro, syntax, notation, axiom, sorry.
-/
import Derived.Test.YthmcakaboebagaaChecked
import GoSem.Claim
import GoSem.ClaimJoined
import GoSem.ClaimMapViews
import Derived.JoinedTies
import Derived.KernelRfl
namespace Go.Proofs.Ythmcakaboebagaa
/- THE CELL 'sum', in the pinned program and in every row, IS THE sha256 OF THE DUMP (.gsa) THAT YthmcakaboebagaaProg.lean LOADS. Nothing in Lean hashes anything: it is a label: what it is worth is what the hold of that sum in a sandbox is worth. -/
noncomputable def Try.pinned : Pinned := { name := "ythmcakaboebagaa", sum := "668730b92a6836a95d1e5728ef26bd806f1d943a5fa2c5ef36e21f32dcece8c5", checked := Try.checked }
namespace Rows
def none {H : Type} : Left H := { results := [], args := [] }

/-- 'flintlaw07.RingSize': WHATEVER THE INPUT: true; the input reads as it did. -/
def ringSizeSpec : ChangeSpec := { name := "ringSize", fn := fun _ => fun
  | [d1, d2] => { results := [.lit (.bool true)], args := [d1, d2] }
  | _ => none }
def ringSizeRow : OpenClaim := { program := "ythmcakaboebagaa", sum := "668730b92a6836a95d1e5728ef26bd806f1d943a5fa2c5ef36e21f32dcece8c5", func := "flint/flintlaw07.RingSize", spec := "ringSize", apart := false }
def RingSizeSaid : Prop := ringSizeRow.holds Try.pinned (OpenSpec.ofChange ringSizeSpec)

/-- ITS FALSE NEIGHBOUR: 'it returns false'. Refute it at one input. -/
def ringSizeWrong : ChangeSpec := { name := "ringSize", fn := fun _ => fun
  | [d1, d2] => { results := [.lit (.bool false)], args := [d1, d2] }
  | _ => none }
def RingSizeWrongFalsely : Prop := ringSizeRow.holds Try.pinned (OpenSpec.ofChange ringSizeWrong)

/-- 'flintlaw07.RingWhole': WHATEVER THE INPUT: true; the input reads as it did. -/
def ringWholeSpec : ChangeSpec := { name := "ringWhole", fn := fun _ => fun
  | [d1, d2, d3, d4] => { results := [.lit (.bool true)], args := [d1, d2, d3, d4] }
  | _ => none }
def ringWholeRow : OpenClaim := { program := "ythmcakaboebagaa", sum := "668730b92a6836a95d1e5728ef26bd806f1d943a5fa2c5ef36e21f32dcece8c5", func := "flint/flintlaw07.RingWhole", spec := "ringWhole", unfollowed := true, recurses := true, apart := false }
def RingWholeSaid : Prop := ringWholeRow.holds Try.pinned (OpenSpec.ofChange ringWholeSpec)

/-- ITS FALSE NEIGHBOUR: 'it returns false'. Refute it at one input. -/
def ringWholeWrong : ChangeSpec := { name := "ringWhole", fn := fun _ => fun
  | [d1, d2, d3, d4] => { results := [.lit (.bool false)], args := [d1, d2, d3, d4] }
  | _ => none }
def RingWholeWrongFalsely : Prop := ringWholeRow.holds Try.pinned (OpenSpec.ofChange ringWholeWrong)

/-- 'flintlaw07.RingLinks': WHATEVER THE INPUT: true; the input reads as it did. -/
def ringLinksSpec : ChangeSpec := { name := "ringLinks", fn := fun _ => fun
  | [d1, d2, d3, d4] => { results := [.lit (.bool true)], args := [d1, d2, d3, d4] }
  | _ => none }
def ringLinksRow : OpenClaim := { program := "ythmcakaboebagaa", sum := "668730b92a6836a95d1e5728ef26bd806f1d943a5fa2c5ef36e21f32dcece8c5", func := "flint/flintlaw07.RingLinks", spec := "ringLinks", inPlace := ["math.Float64frombits", "math.archFloor", "math.Float64bits", "math.archTrunc"], apart := false }
def RingLinksSaid : Prop := ringLinksRow.holds Try.pinned (OpenSpec.ofChange ringLinksSpec)

/-- ITS FALSE NEIGHBOUR: 'it returns false'. Refute it at one input. -/
def ringLinksWrong : ChangeSpec := { name := "ringLinks", fn := fun _ => fun
  | [d1, d2, d3, d4] => { results := [.lit (.bool false)], args := [d1, d2, d3, d4] }
  | _ => none }
def RingLinksWrongFalsely : Prop := ringLinksRow.holds Try.pinned (OpenSpec.ofChange ringLinksWrong)

/-- 'flintlaw07.RingOrder': WHATEVER THE INPUT: true; the input reads as it did. -/
def ringOrderSpec : ChangeSpec := { name := "ringOrder", fn := fun _ => fun
  | [d1, d2] => { results := [.lit (.bool true)], args := [d1, d2] }
  | _ => none }
def ringOrderRow : OpenClaim := { program := "ythmcakaboebagaa", sum := "668730b92a6836a95d1e5728ef26bd806f1d943a5fa2c5ef36e21f32dcece8c5", func := "flint/flintlaw07.RingOrder", spec := "ringOrder", inPlace := ["math.Float64frombits"], unfollowed := true, recurses := true, apart := false }
def RingOrderSaid : Prop := ringOrderRow.holds Try.pinned (OpenSpec.ofChange ringOrderSpec)

/-- ITS FALSE NEIGHBOUR: 'it returns false'. Refute it at one input. -/
def ringOrderWrong : ChangeSpec := { name := "ringOrder", fn := fun _ => fun
  | [d1, d2] => { results := [.lit (.bool false)], args := [d1, d2] }
  | _ => none }
def RingOrderWrongFalsely : Prop := ringOrderRow.holds Try.pinned (OpenSpec.ofChange ringOrderWrong)

/- THE SECOND FORM. 'bulk': how many values and letters a reading holds, each counted each time it is reached (what is shared counts as often as it is met; a slice's spare places count too). A statement '..UptoSaid' is the law's where the arguments, and the package variables that the reading takes, are together of bulk at most 1048576: NARROWER than '..Said'. Prove '..Said' where nothing that the law and all that it calls make is longer than what came in: it says more and counts as full. Else prove '..UptoSaid'. A law counts once. -/
mutual
def uptoBulk {H : Type} : DataW H → Nat
  | .lit (.string bytes) => bytes.length + 1
  | .lit _ => 1
  | .nil => 1
  | .ptr d => uptoBulk d + 1
  | .slice elems spare => uptoBulkAll elems + uptoBulkAll spare + 1
  | .agg parts => uptoBulkAll parts + 1
  | .iface _ d => uptoBulk d + 1
  | .map entries => uptoBulkEntries entries + 1
  | .held _ => 1
def uptoBulkAll {H : Type} : List (DataW H) → Nat
  | [] => 0
  | d :: r => uptoBulk d + uptoBulkAll r
def uptoBulkEntries {H : Type} : List (Lit × DataW H) → Nat
  | [] => 0
  | x :: r => uptoBulkEntry x + uptoBulkEntries r
def uptoBulkEntry {H : Type} : Lit × DataW H → Nat
  | (.string bytes, d) => bytes.length + uptoBulk d + 1
  | (_, d) => uptoBulk d + 1
 end
def uptoSmall : (H : Type) → List (DataW H) → Bool := fun _ ds => decide (uptoBulkAll ds ≤ 1048576)
def OpenSpec.upto (s : _root_.Go.ChangeSpec) : _root_.Go.OpenSpec := { _root_.Go.OpenSpec.ofChange s with cond := some uptoSmall }

/-- 'flintlaw07.RingSize', WHERE WHAT IT READS IS OF BULK AT MOST 1048576: true; the input reads as it did. -/
def ringSizeUptoRow : OpenClaim := { program := "ythmcakaboebagaa", sum := "668730b92a6836a95d1e5728ef26bd806f1d943a5fa2c5ef36e21f32dcece8c5", func := "flint/flintlaw07.RingSize", spec := "ringSize", apart := false, narrowed := true }
def RingSizeUptoSaid : Prop := ringSizeUptoRow.holds Try.pinned (OpenSpec.upto ringSizeSpec)

/-- 'flintlaw07.RingWhole', WHERE WHAT IT READS IS OF BULK AT MOST 1048576: true; the input reads as it did. -/
def ringWholeUptoRow : OpenClaim := { program := "ythmcakaboebagaa", sum := "668730b92a6836a95d1e5728ef26bd806f1d943a5fa2c5ef36e21f32dcece8c5", func := "flint/flintlaw07.RingWhole", spec := "ringWhole", unfollowed := true, recurses := true, apart := false, narrowed := true }
def RingWholeUptoSaid : Prop := ringWholeUptoRow.holds Try.pinned (OpenSpec.upto ringWholeSpec)

/-- 'flintlaw07.RingLinks', WHERE WHAT IT READS IS OF BULK AT MOST 1048576: true; the input reads as it did. -/
def ringLinksUptoRow : OpenClaim := { program := "ythmcakaboebagaa", sum := "668730b92a6836a95d1e5728ef26bd806f1d943a5fa2c5ef36e21f32dcece8c5", func := "flint/flintlaw07.RingLinks", spec := "ringLinks", inPlace := ["math.Float64frombits", "math.archFloor", "math.Float64bits", "math.archTrunc"], apart := false, narrowed := true }
def RingLinksUptoSaid : Prop := ringLinksUptoRow.holds Try.pinned (OpenSpec.upto ringLinksSpec)

/-- 'flintlaw07.RingOrder', WHERE WHAT IT READS IS OF BULK AT MOST 1048576: true; the input reads as it did. -/
def ringOrderUptoRow : OpenClaim := { program := "ythmcakaboebagaa", sum := "668730b92a6836a95d1e5728ef26bd806f1d943a5fa2c5ef36e21f32dcece8c5", func := "flint/flintlaw07.RingOrder", spec := "ringOrder", inPlace := ["math.Float64frombits"], unfollowed := true, recurses := true, apart := false, narrowed := true }
def RingOrderUptoSaid : Prop := ringOrderUptoRow.holds Try.pinned (OpenSpec.upto ringOrderSpec)

end Rows
end Go.Proofs.Ythmcakaboebagaa
