import Derived.Test.YtlblfpacnegmlaaProg
import Derived.Shelf.Spec.SearchS
import Derived.KernelRfl
set_option maxRecDepth 100000
namespace Go.Proofs.Ytlblfpacnegmlaa.ClashY
open Go.Proofs
def searchLay_ren : Go.Shelf.Ren := ⟨fun | 26 => 37 | 33 => 48 | 34 => 49 | 38 => 58 | n => n,fun | 24 => 22 | 9 => 9 | 3 => 3 | 4 => 4 | 40 => 88 | 0 => 0 | n => n,fun | n => n⟩
theorem searchLay : Go.Proofs.Lays2.n26 Try.prog searchLay_ren := {
 mixed := by kernel_rfl,
 f26 := Try.func37.trans (congrArg some (by kernel_rfl)),
 f33 := Try.func48.trans (congrArg some (by kernel_rfl)),
 f34 := Try.func49.trans (congrArg some (by kernel_rfl)),
 f38 := Try.func58.trans (congrArg some (by kernel_rfl)),
 t0 := Try.underlying0,
 a0 := Try.isAgg0,
 z0 := Try.sizeOf0,
 v0 := Try.zeroValue0,
 t3 := Try.underlying3,
 a3 := Try.isAgg3,
 z3 := Try.sizeOf3,
 v3 := Try.zeroValue3,
 t4 := Try.underlying4,
 a4 := Try.isAgg4,
 z4 := Try.sizeOf4,
 v4 := Try.zeroValue4,
 t9 := Try.underlying9,
 a9 := Try.isAgg9,
 z9 := Try.sizeOf9,
 v9 := Try.zeroValue9,
 t24 := Try.underlying22,
 a24 := Try.isAgg22,
 z24 := Try.sizeOf22,
 v24 := Try.zeroValue22,
 t40 := Try.underlying88,
 a40 := Try.isAgg88,
 z40 := Try.sizeOf88,
 v40 := Try.zeroValue88 }
end Go.Proofs.Ytlblfpacnegmlaa.ClashY