import Derived.Test.YtfalhnomhidkcaaGreatDoorTreeR
import Derived.Test.YtfalhnomhidkcaaGreatDoorViewM
import Derived.Test.YtfalhnomhidkcaaGreatDoorHo
import Derived.Deep.MidRow
import Derived.Deep.QuietTactic
import Derived.BigQuiet
set_option linter.unusedVariables false
set_option linter.unusedSimpArgs false
namespace Go.Proofs.YtfalhnomhidkcaaGreatDoor.ViewR
open Go.RowKit
open Byte KeysM TreeM ViewM Own Lst TreeR Ho
def rgE : Enc (ByteArray × ByteArray) := ⟨fun p => [.string p.1,.string p.2],2,fun _ => rfl,fun x u hu => by
 simp only [List.mem_cons,List.mem_nil_iff,or_false] at hu
 rcases hu with rfl | rfl <;> rfl,by decide⟩
theorem info_rg : (Tryz.prog.info? 117).map (fun i => (i.zero,i.size,i.bytes)) = some (some (.agg #[.string ⟨#[]⟩,.string ⟨#[]⟩]),rgE.size,32) := by kernel_rfl
section
variable {P : Program} {w : World}
end
structure Sh where
 a : Option Addr
 n : Nat
 c : Nat
def NewA (w : World) (h : Sh) : Prop := ∀ bb oo,h.a = some ⟨bb,oo,none⟩ → w.heap.size ≤ bb
end Go.Proofs.YtfalhnomhidkcaaGreatDoor.ViewR