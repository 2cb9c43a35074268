import Derived.WalkKit
import Derived.Below
import Derived.Deep.Draws
import Derived.WalkSmall
import Derived.OpenShut
import Derived.Lib.Hide
import Derived.Laws.OwnMore
import Derived.Laws.Rows
import Derived.Laws.AppendOwnNone
import Derived.Maps.AppendAt
import Derived.Laws.IdiomStrings
namespace Go.Proofs.Ytlblfpacnegmlaa.Byte
open Go.RowKit
theorem ret_bool {a b : Bool} (h : a = b) : Ending.returned (.bool a) = .returned (.bool b) := by rw [h]
theorem ret_int {k : IntKind} {a b : Int} (h : a = b) : Ending.returned (.int k a) = .returned (.int k b) := by rw [h]
section
variable {w w' : World} {A : Option Addr} {n : Nat} {xs : List Int}
end
section
variable {w w' : World} {base : Nat} {e : TypeId} {g n cap : Nat} {xs : List Int}
end
section
variable {P : Program} {w : World}
end
def str (xs : List Int) : ByteArray := ⟨(xs.map (fun x => UInt8.ofNat x.toNat)).toArray⟩
end Go.Proofs.Ytlblfpacnegmlaa.Byte