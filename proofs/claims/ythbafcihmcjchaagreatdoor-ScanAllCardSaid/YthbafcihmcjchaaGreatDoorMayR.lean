/- Whether a geometry may be: the document's answer. -/
import Derived.Test.YthbafcihmcjchaaGreatDoorByte
import Derived.Test.YthbafcihmcjchaaGreatDoorMayM
import Derived.Test.YthbafcihmcjchaaGreatDoorProg
import Derived.WalkSpells
import Derived.BigGuardPart
namespace Go.Proofs.YthbafcihmcjchaaGreatDoor.MayR
set_option linter.unusedVariables false
set_option linter.unusedSimpArgs false
open Go.RowKit
open Go.Proofs.YthbafcihmcjchaaGreatDoor.Byte Go.Proofs.YthbafcihmcjchaaGreatDoor.MayM

set_option maxHeartbeats 400000 in
theorem refMay_calls (n z : Int) (w : World) : Calls Tryz.prog 25 #[.agg #[.int .i64 n, .int .i64 z]] w fun e w' => e = .returned (.bool (may n z)) ∧ w.alloc (.cells #[.int .i64 n, .int .i64 z] 28) = w' := by
  cases h : may n z
  · rcases may_ways h with h1 | ⟨h1, h2⟩ | ⟨h1, h2, h3⟩ | ⟨h1, h2, h3, h4⟩
    all_goals
      clear h
      go_enter Tryz.func25, Tryz.ntmps25
      go_wp2
      go_ret
      first | exact ⟨rfl, rfl⟩ | exact ⟨Byte.ret_bool (by rw [decide_eq_false_iff_not]; omega), rfl⟩
  · obtain ⟨h1, h2, h3, h4⟩ := may_yes h
    clear h
    go_enter Tryz.func25, Tryz.ntmps25
    go_wp2
    go_ret
    first | exact ⟨rfl, rfl⟩ | exact ⟨Byte.ret_bool (by rw [decide_eq_true_eq]; omega), rfl⟩
theorem refMay_any (n z : Int) (w : World) : Calls Tryz.prog 25 #[.agg #[.int .i64 n, .int .i64 z]] w fun e w' => e = .returned (.bool (may n z)) ∧ Below w.heap.size w w' :=
  (refMay_calls n z w).mono fun e w' ⟨h1, h2⟩ => ⟨h1, by subst h2; exact (Below.refl _ _).alloc (Nat.le_refl _) _⟩
end Go.Proofs.YthbafcihmcjchaaGreatDoor.MayR
