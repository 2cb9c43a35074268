/- Layer 10: the law's cut: as many operations as are gone through. -/
import Derived.Test.YtbdokofdbeccdaaDoorTreeS
namespace Go.Proofs.YtbdokofdbeccdaaDoor.TreeC
set_option linter.unusedVariables false
set_option linter.unusedSimpArgs false
open Go.RowKit
open Go.Proofs.YtbdokofdbeccdaaDoor.Byte Go.Proofs.YtbdokofdbeccdaaDoor.KeysM Go.Proofs.YtbdokofdbeccdaaDoor.TreeM Go.Proofs.YtbdokofdbeccdaaDoor.Own Go.Proofs.YtbdokofdbeccdaaDoor.Rw Go.Proofs.YtbdokofdbeccdaaDoor.Lst Go.Proofs.YtbdokofdbeccdaaDoor.TreeR Go.Proofs.YtbdokofdbeccdaaDoor.TreeS

structure Op10 where
  kind : Int
  from_ : Int
  key : ByteArray
  value : ByteArray
deriving Inhabited
def opE : Enc Op10 := ⟨fun p => [.int .i64 p.kind, .int .u16 p.from_, .string p.key, .string p.value], 4, fun _ => rfl, fun x u hu => by
  simp only [List.mem_cons, List.mem_nil_iff, or_false] at hu
  rcases hu with rfl | rfl | rfl | rfl <;> rfl, by decide⟩
end Go.Proofs.YtbdokofdbeccdaaDoor.TreeC
