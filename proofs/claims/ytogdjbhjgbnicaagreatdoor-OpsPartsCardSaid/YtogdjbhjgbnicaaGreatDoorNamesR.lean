import Derived.Test.YtogdjbhjgbnicaaGreatDoorNamesM
import Derived.Test.YtogdjbhjgbnicaaGreatDoorTx
import Derived.Test.YtogdjbhjgbnicaaGreatDoorKeysN
import Derived.Deep.QuietTactic
import Derived.BigQuiet
set_option linter.unusedVariables false
set_option linter.unusedSimpArgs false
namespace Go.Proofs.YtogdjbhjgbnicaaGreatDoor.NamesR
open Go.RowKit
open Byte KeysM KeysN NamesM Lst Tx
open KeysS (key_at)
open Own (keeps)
def SplE (s : ByteArray) (w : World) (e : Ending) (w' : World) : Prop := ∃ A m c,e = .returned (.tuple #[.slice A m c,.int .i64 (spl s).2]) ∧ So txE 9 w' w.heap.size (.slice A m c) m (spl s).1 ∧ Below w.heap.size w w'
theorem SplE.of {s : ByteArray} {w w' : World} {A : Option Addr} {m c : Nat} {L : List ByteArray} {x : Int} (h : spl s = (L,x)) (ho : So txE 9 w' w.heap.size (.slice A m c) m L) (hb : Below w.heap.size w w') : SplE s w (.returned (.tuple #[.slice A m c,.int .i64 x])) w' := by
 refine ⟨A,m,c,?_,?_,hb⟩ <;> rw [h]
 exact ho
theorem So.none_ {w : World} : So txE 9 w w.heap.size (.slice none 0 0) 0 [] := So.nil_ _ _ _ _
end Go.Proofs.YtogdjbhjgbnicaaGreatDoor.NamesR