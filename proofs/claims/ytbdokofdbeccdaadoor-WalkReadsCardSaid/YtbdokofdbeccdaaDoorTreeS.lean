/- Layer 10: the document's Same and Low; the law's cut. -/
import Derived.Test.YtbdokofdbeccdaaDoorTreeR
import Derived.Deep.MidRow
import Derived.Deep.QuietTactic
import Derived.BigQuiet
namespace Go.Proofs.YtbdokofdbeccdaaDoor.TreeS
set_option linter.unusedVariables false
set_option linter.unusedSimpArgs false
open Go.RowKit
open Go.Proofs.YtbdokofdbeccdaaDoor.Byte Go.Proofs.YtbdokofdbeccdaaDoor.KeysM Go.Proofs.YtbdokofdbeccdaaDoor.TreeM Go.Proofs.YtbdokofdbeccdaaDoor.Own Go.Proofs.YtbdokofdbeccdaaDoor.Rw Go.Proofs.YtbdokofdbeccdaaDoor.Lst Go.Proofs.YtbdokofdbeccdaaDoor.TreeR

/-- The greatest number of twos whose product is at most this. -/
def lowB (n h : Nat) : Bool := decide (h ≤ Nat.log2 ((n + 1) * (n + 1)) + 2)
end Go.Proofs.YtbdokofdbeccdaaDoor.TreeS
