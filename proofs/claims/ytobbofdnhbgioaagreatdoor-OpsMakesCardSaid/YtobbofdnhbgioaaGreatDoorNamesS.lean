import Derived.Test.YtobbofdnhbgioaaGreatDoorNamesR
import Derived.Laws.Concat
import Derived.WalkLawsBesides
import Derived.WalkSpells
set_option linter.unusedVariables false
set_option linter.unusedSimpArgs false
namespace Go.Proofs.YtobbofdnhbgioaaGreatDoor.NamesS
open Go.RowKit
open Byte KeysM KeysN NamesM Lst Tx NamesR
open Own (keeps)
theorem take_at {α : Type} {L : List α} {k : Nat} {x : α} (h : L[k]? = some x) : L.take (k + 1) = L.take k ++ [x] := by
 obtain ⟨hk,he⟩ := List.getElem?_eq_some_iff.1 h
 rw [List.take_succ_eq_append_getElem hk,he]
end Go.Proofs.YtobbofdnhbgioaaGreatDoor.NamesS