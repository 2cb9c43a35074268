/- The walks of layer 15's laws, over what the project's functions are asked. -/
import Derived.Test.YtbdokofdbeccdaaDoorNodeG
import Derived.Test.YtbdokofdbeccdaaDoorLst
import Derived.Test.YtbdokofdbeccdaaDoorHo
import Derived.Deep.MidRow
import Derived.Lib.MinMax
namespace Go.Proofs.YtbdokofdbeccdaaDoor.NodeL
set_option linter.unusedVariables false
set_option linter.unusedSimpArgs false
open Go.RowKit
open Go.Proofs.YtbdokofdbeccdaaDoor.Byte Go.Proofs.YtbdokofdbeccdaaDoor.PackM Go.Proofs.YtbdokofdbeccdaaDoor.KeysR Go.Proofs.YtbdokofdbeccdaaDoor.NodeM Go.Proofs.YtbdokofdbeccdaaDoor.NodeR Go.Proofs.YtbdokofdbeccdaaDoor.NodeG Go.Proofs.YtbdokofdbeccdaaDoor.Lst Go.Proofs.YtbdokofdbeccdaaDoor.Ho
open Go.Proofs.YtbdokofdbeccdaaDoor.Own hiding keeps

def cutL (a n : Int) : List (Int × Int × Int) := if a < 0 ∨ n ≤ 0 ∨ 4096 < a ∨ 4096 - a < n then [] else cuts n.toNat a n
def blk (size : Int) : Int := if size ≤ 0 then 0 else (size - 1) / 64 + 1
def newV (k p : Int) : Value := if k = 1 then .agg #[.int .u8 1, .int .u32 1, .int .u32 0, .int .u32 0] else .agg #[.int .u8 2, .int .u32 2, .int .u32 0, .int .u32 p]
def MayOk : Prop := ∀ (k l s p : Int) (w : World), 0 ≤ k → k ≤ 255 → 0 ≤ l → l ≤ 4294967295 → 0 ≤ s → s ≤ 4294967295 → 0 ≤ p → p ≤ 4294967295 → Calls Tryd.prog 85 #[.agg #[.int .u8 k, .int .u32 l, .int .u32 s, .int .u32 p]] w fun e w' => e = .returned (.bool (may k l s p)) ∧ Below w.heap.size w w'
def PutOk : Prop := ∀ (k l s p : Int) (w : World), 0 ≤ k → k ≤ 255 → 0 ≤ l → l ≤ 4294967295 → 0 ≤ s → s ≤ 4294967295 → 0 ≤ p → p ≤ 4294967295 → Calls Tryd.prog 41 #[.agg #[.int .u8 k, .int .u32 l, .int .u32 s, .int .u32 p]] w fun e w' => e = .returned (.string (nput k l s p)) ∧ Below w.heap.size w w'
def GetOk : Prop := ∀ (t : ByteArray) (w : World), t.size ≤ maxLen → Calls Tryd.prog 75 #[.string t] w (GetE t w)
def NewOk : Prop := ∀ (k p : Int) (w : World), 0 ≤ k → k ≤ 255 → 0 ≤ p → p ≤ 4294967295 → Calls Tryd.prog 83 #[.int .u8 k, .int .u32 p] w fun e w' => e = .returned (newV k p) ∧ Below w.heap.size w w'
def RootOk : Prop := ∀ (w : World), Calls Tryd.prog 74 #[] w fun e w' => e = .returned (.agg #[.int .u8 2, .int .u32 2, .int .u32 0, .int .u32 1]) ∧ Below w.heap.size w w'
end Go.Proofs.YtbdokofdbeccdaaDoor.NodeL
