/- Merged: ViewG ViewS. -/
import Derived.Laws.ResultCell
import Derived.Deep.Cut
import Derived.Deep.RegionLaw
import Derived.Test.YtbdokofdbeccdaaDoorViewR
/- The contract of the document's Get of layer 14. -/
namespace Go.Proofs.YtbdokofdbeccdaaDoor.ViewG
set_option linter.unusedVariables false
set_option linter.unusedSimpArgs false
open Go.RowKit
open Go.Proofs.YtbdokofdbeccdaaDoor.Byte Go.Proofs.YtbdokofdbeccdaaDoor.KeysM Go.Proofs.YtbdokofdbeccdaaDoor.TreeM Go.Proofs.YtbdokofdbeccdaaDoor.ViewM Go.Proofs.YtbdokofdbeccdaaDoor.Own Go.Proofs.YtbdokofdbeccdaaDoor.Rw Go.Proofs.YtbdokofdbeccdaaDoor.Lst Go.Proofs.YtbdokofdbeccdaaDoor.TreeR Go.Proofs.YtbdokofdbeccdaaDoor.TreeS Go.Proofs.YtbdokofdbeccdaaDoor.Ho Go.Proofs.YtbdokofdbeccdaaDoor.ViewR

/-- The key as it is laid down. -/
abbrev kp (k : ByteArray) : Pr := ⟨k, ⟨#[]⟩, false⟩
end Go.Proofs.YtbdokofdbeccdaaDoor.ViewG

/- The contract of the document's Range of layer 14. -/
namespace Go.Proofs.YtbdokofdbeccdaaDoor.ViewS
set_option linter.unusedVariables false
set_option linter.unusedSimpArgs false
open Go.RowKit
open Go.Proofs.YtbdokofdbeccdaaDoor.Byte Go.Proofs.YtbdokofdbeccdaaDoor.KeysM Go.Proofs.YtbdokofdbeccdaaDoor.TreeM Go.Proofs.YtbdokofdbeccdaaDoor.ViewM Go.Proofs.YtbdokofdbeccdaaDoor.Own Go.Proofs.YtbdokofdbeccdaaDoor.Rw Go.Proofs.YtbdokofdbeccdaaDoor.Lst Go.Proofs.YtbdokofdbeccdaaDoor.TreeR Go.Proofs.YtbdokofdbeccdaaDoor.TreeS Go.Proofs.YtbdokofdbeccdaaDoor.Ho Go.Proofs.YtbdokofdbeccdaaDoor.ViewR Go.Proofs.YtbdokofdbeccdaaDoor.ViewG

theorem has_yes {G : List (ByteArray × ByteArray)} {a b : ByteArray} {j : Nat} {x : ByteArray × ByteArray} (h : G[j]? = some x) (h1 : x.1 = a) (h2 : x.2 = b) : hasR a b G = true := by
  unfold hasR
  rw [List.any_eq_true]
  exact ⟨x, List.mem_of_getElem? h, by simp [h1, h2]⟩
theorem has_no {G : List (ByteArray × ByteArray)} {a b : ByteArray} (h : ∀ j x, j < G.length → G[j]? = some x → ¬ (x.1 = a ∧ x.2 = b)) : hasR a b G = false := by
  unfold hasR
  rw [List.any_eq_false]
  intro x hx
  obtain ⟨j, hj, rfl⟩ := List.mem_iff_getElem.1 hx
  have := h j _ hj (List.getElem?_eq_getElem hj)
  simpa using this
end Go.Proofs.YtbdokofdbeccdaaDoor.ViewS
