import Derived.Test.YtfalhnomhidkcaaGreatDoorSq
import Derived.Test.YtfalhnomhidkcaaGreatDoorNodeM
import Derived.Test.YtfalhnomhidkcaaGreatDoorKeysS
import Derived.Test.YtfalhnomhidkcaaGreatDoorOwn
set_option maxHeartbeats 16000000
set_option linter.unusedVariables false
set_option linter.unusedSimpArgs false
set_option maxRecDepth 100000
namespace Go.Proofs.YtfalhnomhidkcaaGreatDoor.NodeR
open Go.RowKit
open Byte PackM PackV PackS PackH ConvS KeysM KeysR KeysS NodeM
open Own hiding keeps
theorem refmay_calls (k l s p : Int) (w : World) (k0 : 0 ≤ k) (k1 : k ≤ 255) (l0 : 0 ≤ l) (l1 : l ≤ 4294967295) (s0 : 0 ≤ s) (s1 : s ≤ 4294967295) (p0 : 0 ≤ p) (p1 : p ≤ 4294967295) :
 Calls Tryz.prog 27 #[.agg #[.int .u8 k,.int .u32 l,.int .u32 s,.int .u32 p]] w fun e w' => e = .returned (.bool (may k l s p)) ∧ Below w.heap.size w w' := by
 obtain ⟨B,hB⟩ : ∃ b,may k l s p = b := ⟨_,rfl⟩
 have HBB := hQ_ hB
 rw [hB]
 clear hB
 go_enter Tryz.func27,Tryz.ntmps27
 go_wp2
 all_goals
  go_ret
  rw [← HBB.out]
  refine ⟨ret_bool ?_,bW_⟩
  rw [Bool.eq_iff_iff]
  unfold may
  split <;> simp_all <;> omega
end Go.Proofs.YtfalhnomhidkcaaGreatDoor.NodeR