/- The walks of layer 9's laws, over what the project's functions are asked. -/
import Derived.Test.YtieegdbjmjpopaaDoorKeysN
namespace Go.Proofs.YtieegdbjmjpopaaDoor.KeysL
set_option linter.unusedVariables false
set_option linter.unusedSimpArgs false
open Go.RowKit
open Go.Proofs.YtieegdbjmjpopaaDoor.Byte Go.Proofs.YtieegdbjmjpopaaDoor.KeysM Go.Proofs.YtieegdbjmjpopaaDoor.KeysR Go.Proofs.YtieegdbjmjpopaaDoor.KeysS Go.Proofs.YtieegdbjmjpopaaDoor.KeysN

/-- The call answers with this text; nothing that was there has changed. -/
def Txt (s : ByteArray) (w : World) (e : Ending) (w' : World) : Prop := e = .returned (.string s) ∧ Below w.heap.size w w'
def NameOk : Prop := ∀ (s : ByteArray) (w : World), s.size ≤ 100000 → Calls Tryd.prog 23 #[.string s] w fun e w' => e = .returned (.bool (nameOk s)) ∧ Below w.heap.size w w'
theorem ex_entry : kE 1 ⟨#[97]⟩ = ⟨#[69, 0, 0, 0, 1, 97]⟩ := by decide +kernel
theorem ex_name : nameOk ⟨#[97]⟩ = true := by decide +kernel
theorem ex_dots : nameOk ⟨#[46, 46]⟩ = false := by decide +kernel
end Go.Proofs.YtieegdbjmjpopaaDoor.KeysL
