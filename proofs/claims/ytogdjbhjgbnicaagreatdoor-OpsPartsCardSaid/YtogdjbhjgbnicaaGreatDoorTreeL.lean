import Derived.Test.YtogdjbhjgbnicaaGreatDoorTreeR
import Derived.Deep.MidRow
import Derived.Deep.QuietTactic
import Derived.BigQuiet
set_option linter.unusedVariables false
set_option linter.unusedSimpArgs false
namespace Go.Proofs.YtogdjbhjgbnicaaGreatDoor.TreeL
open Go.RowKit
open Byte KeysM TreeM Own Lst TreeR
def Kept (w w' : World) : Prop := ∀ (b : Nat) (cs : Array Value) (U : TypeId) (fr : Nat × Nat),(U = 76 ∨ U = 125) → w.heap[b]? = some (.cells cs U fr) → w'.heap[b]? = some (.cells cs U fr)
theorem Kept.of_below {w w' : World} (h : Below w.heap.size w w') : Kept w w' := fun b cs U fr _ hb => by
 rcases Nat.lt_or_ge b w.heap.size with h1 | h1
 ·rw [h.block b h1,hb]
 ·rw [Array.getElem?_eq_none h1] at hb
  cases hb
theorem Kept.of_grown {α : Type} {e : Enc α} {T : TypeId} {w w' : World} {base : Nat} {v : Value} {n : Nat} {L : List α} (h : So e T w base v n L) (hg : w.grownBy w' v.ownBlock) (hne : 76 ≠ T ∧ 125 ≠ T) : Kept w w' := fun b cs U fr hU hb => h.stays hg hb (by rcases hU with rfl | rfl; exact hne.1; exact hne.2)
variable {Rep : World → Value → List Pr → Nat → Prop}
end Go.Proofs.YtogdjbhjgbnicaaGreatDoor.TreeL