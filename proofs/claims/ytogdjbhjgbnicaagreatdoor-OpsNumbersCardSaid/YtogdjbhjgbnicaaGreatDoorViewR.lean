import Derived.Test.YtogdjbhjgbnicaaGreatDoorTreeR
import Derived.Test.YtogdjbhjgbnicaaGreatDoorViewM
import Derived.Test.YtogdjbhjgbnicaaGreatDoorHo
import Derived.Deep.MidRow
import Derived.Deep.QuietTactic
import Derived.BigQuiet
set_option linter.unusedVariables false
set_option linter.unusedSimpArgs false
namespace Go.Proofs.YtogdjbhjgbnicaaGreatDoor.ViewR
open Go.RowKit
open Byte KeysM TreeM ViewM Own Lst TreeR Ho
def rgE : Enc (ByteArray × ByteArray) := ⟨fun p => [.string p.1,.string p.2],2,fun _ => rfl,fun x u hu => by
 simp only [List.mem_cons,List.mem_nil_iff,or_false] at hu
 rcases hu with rfl | rfl <;> rfl,by decide⟩
theorem info_rg : (Tryz.prog.info? 97).map (fun i => (i.zero,i.size,i.bytes)) = some (some (.agg #[.string ⟨#[]⟩,.string ⟨#[]⟩]),rgE.size,32) := by kernel_rfl
structure Sh where
 a : Option Addr
 n : Nat
 c : Nat
def NewA (w : World) (h : Sh) : Prop := ∀ bb oo,h.a = some ⟨bb,oo,none⟩ → w.heap.size ≤ bb
end Go.Proofs.YtogdjbhjgbnicaaGreatDoor.ViewR