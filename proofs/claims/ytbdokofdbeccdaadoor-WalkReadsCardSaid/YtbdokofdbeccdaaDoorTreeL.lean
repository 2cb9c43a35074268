/- Layer 10's laws, over what the project's functions are asked: what a tree is good for (Tr); fixed; TreeStays. -/
import Derived.Test.YtbdokofdbeccdaaDoorTreeC
namespace Go.Proofs.YtbdokofdbeccdaaDoor.TreeL
set_option linter.unusedVariables false
set_option linter.unusedSimpArgs false
open Go.RowKit
open Go.Proofs.YtbdokofdbeccdaaDoor.Byte Go.Proofs.YtbdokofdbeccdaaDoor.KeysM Go.Proofs.YtbdokofdbeccdaaDoor.TreeM Go.Proofs.YtbdokofdbeccdaaDoor.Own Go.Proofs.YtbdokofdbeccdaaDoor.Rw Go.Proofs.YtbdokofdbeccdaaDoor.Lst Go.Proofs.YtbdokofdbeccdaaDoor.TreeR Go.Proofs.YtbdokofdbeccdaaDoor.TreeS Go.Proofs.YtbdokofdbeccdaaDoor.TreeC

/-- The call answers with a row that reads as these pairs; nothing that was there has changed. -/
def RowIs (M : List Pr) (w : World) (e : Ending) (w' : World) : Prop := ∃ A c, e = .returned (.slice A M.length c) ∧ Sl prE w' A M.length M ∧ Below w.heap.size w w'
theorem RowIs.of {M : List Pr} {w w' : World} {e : Ending} (h : Made M w e w') : RowIs M w e w' := by
  obtain ⟨v, rfl, ho, hb⟩ := h
  rcases ho.form with ⟨rfl, h0⟩ | ⟨g, cap, rfl, _⟩
  · refine ⟨none, 0, by rw [h0], ?_, hb⟩
    have := List.eq_nil_of_length_eq_zero h0
    subst this
    exact Sl.nil_ _ _ _
  · exact ⟨some ⟨g, 0, none⟩, cap, rfl, ho.sl, hb⟩
/-- All trees' nodes stay as they are. -/
def Kept (w w' : World) : Prop := ∀ (b : Nat) (cs : Array Value) (U : TypeId) (fr : Nat × Nat), (U = 60 ∨ U = 113) → w.heap[b]? = some (.cells cs U fr) → w'.heap[b]? = some (.cells cs U fr)
theorem Kept.of_below {w w' : World} (h : Below w.heap.size w w') : Kept w w' := fun b cs U fr _ hb => by
  rcases Nat.lt_or_ge b w.heap.size with h1 | h1
  · rw [h.block b h1, hb]
  · rw [Array.getElem?_eq_none h1] at hb
    cases hb
theorem Kept.of_grown {α : Type} {e : Enc α} {T : TypeId} {w w' : World} {base : Nat} {v : Value} {n : Nat} {L : List α} (h : So e T w base v n L) (hg : w.grownBy w' v.ownBlock) (hne : 60 ≠ T ∧ 113 ≠ T) : Kept w w' := fun b cs U fr hU hb => h.stays hg hb (by rcases hU with rfl | rfl; exact hne.1; exact hne.2)
variable {Rep : World → Value → List Pr → Nat → Prop}
end Go.Proofs.YtbdokofdbeccdaaDoor.TreeL
