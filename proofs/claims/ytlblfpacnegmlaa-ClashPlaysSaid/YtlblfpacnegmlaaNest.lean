import Derived.Test.YtlblfpacnegmlaaArgs
set_option linter.unusedVariables false
namespace Go.Proofs.Ytlblfpacnegmlaa.Nest
open Go.RowKit Go.ChangeShapes Go.WideShapes Go.Deep Go.Maps
open Go.Proofs.Ytlblfpacnegmlaa.Form Lst
section
variable {H : Type} {enc : TypeId × Value → H} {P : Program} {w : World} {base fuel : Nat} {held : Bool}
end
structure Hd where
 a : Option Addr
 n : Nat
 c : Nat
instance : Inhabited Hd := ⟨⟨none,0,0⟩⟩
def hdE : Enc Hd := ⟨fun h => [.slice h.a h.n h.c],1,fun _ => rfl,fun h u hu => by
 rw [List.mem_singleton.1 hu]; rfl,by decide⟩
end Go.Proofs.Ytlblfpacnegmlaa.Nest