import Derived.Test.YtlblfpacnegmlaaTreeR
import Derived.Test.YtlblfpacnegmlaaViewM
import Derived.Test.YtlblfpacnegmlaaHo
import Derived.Deep.MidRow
import Derived.Deep.QuietTactic
import Derived.BigQuiet
set_option linter.unusedVariables false
set_option linter.unusedSimpArgs false
namespace Go.Proofs.Ytlblfpacnegmlaa.ViewR
open Go.RowKit
open Byte KeysM TreeM ViewM Own Lst TreeR Ho
def rdE : Enc Pr := ⟨fun p => [.string p.key],1,fun _ => rfl,fun x u hu => by
 simp only [List.mem_cons,List.mem_nil_iff,or_false] at hu
 rcases hu with rfl <;> rfl,by decide⟩
def rgE : Enc (ByteArray × ByteArray) := ⟨fun p => [.string p.1,.string p.2],2,fun _ => rfl,fun x u hu => by
 simp only [List.mem_cons,List.mem_nil_iff,or_false] at hu
 rcases hu with rfl | rfl <;> rfl,by decide⟩
theorem info_rd : (Try.prog.info? 9).map (fun i => (i.zero,i.size,i.bytes)) = some (some (.string ⟨#[]⟩),rdE.size,16) := by kernel_rfl
theorem info_rg : (Try.prog.info? 47).map (fun i => (i.zero,i.size,i.bytes)) = some (some (.agg #[.string ⟨#[]⟩,.string ⟨#[]⟩]),rgE.size,32) := by kernel_rfl
section
variable {P : Program} {w : World}
end
structure Sh where
 a : Option Addr
 n : Nat
 c : Nat
def NewA (w : World) (h : Sh) : Prop := ∀ bb oo,h.a = some ⟨bb,oo,none⟩ → w.heap.size ≤ bb
end Go.Proofs.Ytlblfpacnegmlaa.ViewR