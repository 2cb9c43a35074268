import Derived.Test.YtlblfpacnegmlaaViewM
set_option linter.unusedVariables false
set_option linter.unusedSimpArgs false
namespace Go.Proofs.Ytlblfpacnegmlaa.ViewKm
open Byte KeysM TreeM ViewM
def kp (p : Pr) : Pr := ⟨p.key,⟨#[]⟩,false⟩
def kys (W : List Pr) : List Pr := W.map kp
theorem kys_len (W : List Pr) : (kys W).length = W.length := by simp [kys]
def Bare (W : List Pr) : Prop := ∀ p ∈ W,p.gone = true → p.value = ⟨#[]⟩
theorem Bare.nil : Bare [] := fun p hp => by cases hp
end Go.Proofs.Ytlblfpacnegmlaa.ViewKm