import Derived.Test.YtfalhnomhidkcaaGreatDoorLst
import Derived.Maps.Views
import Derived.Test.YtfalhnomhidkcaaGreatDoorProg
import Derived.OpenShut
import Derived.Deep.Slices
import Derived.ChangeSlices
import Derived.ChangeArms
import Derived.WideShapes
set_option linter.unusedVariables false
namespace Go.Proofs.YtfalhnomhidkcaaGreatDoor.Nest
open Go.RowKit Go.ChangeShapes Go.WideShapes Go.Deep Go.Maps
open Lst
section
variable {H : Type} {enc : TypeId × Value → H} {P : Program} {w : World} {base fuel : Nat} {held : Bool}
end
structure Hd where
 a : Option Addr
 n : Nat
 c : Nat
instance : Inhabited Hd := ⟨⟨none,0,0⟩⟩
end Go.Proofs.YtfalhnomhidkcaaGreatDoor.Nest