import Derived.Test.YtlblfpacnegmlaaProg
import Derived.Shelf.SlicesE.Delete
import Derived.KernelRfl
set_option maxRecDepth 100000
namespace Go.Proofs.Ytlblfpacnegmlaa.ClashYd
open Go.Proofs
def delLay_ren : Go.Shelf.Ren := ⟨fun | 45 => 27 | n => n,fun | 22 => 54 | 23 => 22 | 3 => 3 | 4 => 4 | 0 => 0 | n => n,fun | n => n⟩
theorem delLay : Go.Proofs.SlLaysE.n45 Try.prog delLay_ren := {
 mixed := by kernel_rfl,
 f45 := ⟨Try.f27.name,by decide,Try.func27.trans (congrArg some (by kernel_rfl))⟩,
 t0 := Try.underlying0,
 a0 := Try.isAgg0,
 z0 := Try.sizeOf0,
 v0 := Try.zeroValue0,
 t3 := Try.underlying3,
 a3 := Try.isAgg3,
 z3 := Try.sizeOf3,
 v3 := Try.zeroValue3,
 t4 := Try.underlying4,
 a4 := Try.isAgg4,
 z4 := Try.sizeOf4,
 v4 := Try.zeroValue4,
 t22 := Try.underlying54,
 a22 := Try.isAgg54,
 z22 := Try.sizeOf54,
 v22 := Try.zeroValue54,
 a23 := Try.isAgg22,
 z23 := Try.sizeOf22 }
end Go.Proofs.Ytlblfpacnegmlaa.ClashYd