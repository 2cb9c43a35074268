import Derived.Test.YtogdjbhjgbnicaaGreatDoorNodeM
import Derived.Test.YtogdjbhjgbnicaaGreatDoorKeysS
import Derived.Test.YtogdjbhjgbnicaaGreatDoorOwn
set_option linter.unusedVariables false
set_option linter.unusedSimpArgs false
namespace Go.Proofs.YtogdjbhjgbnicaaGreatDoor.NodeG
open Go.RowKit
open Byte PackM PackV ConvS KeysM KeysR KeysS NodeM
open Own hiding keeps
theorem results_row_tmp {P : Program} {fn : Func} {p u : Tmp} {ty : TypeId} (h : fn.results = #[.cell p ty,.tmp u]) (tmps : Array Value) (w : World) (g : Nat) (t : TypeId) (cs : Array Value) (fr : Nat × Nat) (d : TypeDesc)
 (hp : tmps.getD p undef = .pointer (some ⟨g,0,none⟩)) (x : Value) (hx : tmps.getD u undef = x) (hg : w.heap[g]? = some (.cells cs t fr))
 (hu : P.underlying ty = some d) (hd : (match d with | .struct _ | .array _ _ => true | _ => false) = true) (hi : (P.info? ty).map (·.size) = some cs.size) :
 (results fn tmps).run P w = .ok (.tuple #[.agg cs,x]) w := by
 subst hx
 rw [results_cell_tmp h]
 have hp' : tmps[p]?.getD undef = .pointer (some ⟨g,0,none⟩) := by simpa using hp
 simp [hp',asAddr,run_loadVar_row w g t ty cs fr d hg hu hd hi,Result.andThen]
theorem info_ino : (Tryz.prog.info? 46).map (·.size) = some 4 := by kernel_rfl
def GetV (t : ByteArray) : Value := if gok t then .tuple #[.agg #[.int .u8 (gk t),.int .u32 (gl t),.int .u32 (gs t),.int .u32 (gp t)],.bool true] else .tuple #[.agg #[.int .u8 0,.int .u32 0,.int .u32 0,.int .u32 0],.bool false]
theorem getv_no {t : ByteArray} (h : gok t = false) : GetV t = .tuple #[.agg #[.int .u8 0,.int .u32 0,.int .u32 0,.int .u32 0],.bool false] := by
 unfold GetV
 rw [h]
 rfl
theorem getv_yes {t : ByteArray} (h : gok t = true) : GetV t = .tuple #[.agg #[.int .u8 (gk t),.int .u32 (gl t),.int .u32 (gs t),.int .u32 (gp t)],.bool true] := by
 unfold GetV
 rw [h]
 rfl
def GetE (t : ByteArray) (w : World) (e : Ending) (w' : World) : Prop := e = .returned (GetV t) ∧ Below w.heap.size w w'
theorem below_store {w w4 w5 : World} (h : Below w.heap.size w w4) (hg : w4.grownBy w5 (some w.heap.size)) (hs : w.heap.size ≤ w4.heap.size) : Below w.heap.size w w5 :=
 h.grown hg hs (fun g hv => by injection hv with hv; omega)
end Go.Proofs.YtogdjbhjgbnicaaGreatDoor.NodeG