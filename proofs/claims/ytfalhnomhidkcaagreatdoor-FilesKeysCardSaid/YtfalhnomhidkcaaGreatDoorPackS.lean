import Derived.Test.YtfalhnomhidkcaaGreatDoorPackV
set_option maxHeartbeats 16000000
set_option maxRecDepth 100000
namespace Go.Proofs.YtfalhnomhidkcaaGreatDoor.PackS
open Go.RowKit
open Byte PackM PackV
theorem wide_calls (n : Int) (w : World) (h0 : -9223372036854775808 ≤ n) (h1 : n ≤ 9223372036854775807) :
 Calls Tryz.prog 111 #[.int .i64 n] w fun e w' => e = .returned (.int .i64 (width n : Int)) ∧ w = w' := by
 rw [width_int]
 go_enter Tryz.func111,Tryz.ntmps111
 go_wp2
 all_goals (go_ret; exact ⟨ret_int (by (repeat' split) <;> omega),rfl⟩)
end Go.Proofs.YtfalhnomhidkcaaGreatDoor.PackS