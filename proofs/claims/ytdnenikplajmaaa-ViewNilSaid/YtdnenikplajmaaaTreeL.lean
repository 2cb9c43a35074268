/- Layer 10's laws, over what the project's functions are asked: what a tree is good for (Tr); fixed; TreeStays. -/
import Derived.Test.YtdnenikplajmaaaTreeC
namespace Go.Proofs.Ytdnenikplajmaaa.TreeL
set_option linter.unusedVariables false
set_option linter.unusedSimpArgs false
open Go.RowKit
open Go.Proofs.Ytdnenikplajmaaa.Byte Go.Proofs.Ytdnenikplajmaaa.KeysM Go.Proofs.Ytdnenikplajmaaa.TreeM Go.Proofs.Ytdnenikplajmaaa.Own Go.Proofs.Ytdnenikplajmaaa.Rw Go.Proofs.Ytdnenikplajmaaa.Lst Go.Proofs.Ytdnenikplajmaaa.TreeR Go.Proofs.Ytdnenikplajmaaa.TreeS Go.Proofs.Ytdnenikplajmaaa.TreeC

/-- The call answers with a row that reads as these pairs; nothing that was there has changed. -/
def RowIs (M : List Pr) (w : World) (e : Ending) (w' : World) : Prop := ∃ A c, e = .returned (.slice A M.length c) ∧ Sl prE w' A M.length M ∧ Below w.heap.size w w'
theorem RowIs.of {M : List Pr} {w w' : World} {e : Ending} (h : Made M w e w') : RowIs M w e w' := by
  obtain ⟨v, rfl, ho, hb⟩ := h
  rcases ho.form with ⟨rfl, h0⟩ | ⟨g, cap, rfl, _⟩
  · refine ⟨none, 0, by rw [h0], ?_, hb⟩
    have := List.eq_nil_of_length_eq_zero h0
    subst this
    exact Sl.nil_ _ _ _
  · exact ⟨some ⟨g, 0, none⟩, cap, rfl, ho.sl, hb⟩
def AtV (o : Option Pr) : Value := match o with | some p => .tuple #[.agg #[.string p.key, .string p.value, .bool p.gone], .bool true] | none => .tuple #[.agg #[.string ⟨#[]⟩, .string ⟨#[]⟩, .bool false], .bool false]
/-- All trees' nodes stay as they are. -/
def Kept (w w' : World) : Prop := ∀ (b : Nat) (cs : Array Value) (U : TypeId) (fr : Nat × Nat), (U = 80 ∨ U = 75) → w.heap[b]? = some (.cells cs U fr) → w'.heap[b]? = some (.cells cs U fr)
theorem Kept.of_below {w w' : World} (h : Below w.heap.size w w') : Kept w w' := fun b cs U fr _ hb => by
  rcases Nat.lt_or_ge b w.heap.size with h1 | h1
  · rw [h.block b h1, hb]
  · rw [Array.getElem?_eq_none h1] at hb
    cases hb
theorem Kept.of_grown {α : Type} {e : Enc α} {T : TypeId} {w w' : World} {base : Nat} {v : Value} {n : Nat} {L : List α} (h : So e T w base v n L) (hg : w.grownBy w' v.ownBlock) (hne : 80 ≠ T ∧ 75 ≠ T) : Kept w w' := fun b cs U fr hU hb => h.stays hg hb (by rcases hU with rfl | rfl; exact hne.1; exact hne.2)
variable {Rep : World → Value → List Pr → Nat → Prop}
theorem fits {s : ByteArray} {n : Nat} (h : s.size ≤ n) (hn : n ≤ 100000) : s.size ≤ maxLen := by
  unfold maxLen
  omega
theorem ex_1 : (putL ⟨#[97]⟩ ⟨#[]⟩ []).length = 1 := by decide +kernel
theorem ex_2 : (putL ⟨#[98]⟩ ⟨#[]⟩ (putL ⟨#[97]⟩ ⟨#[]⟩ [])).length = 2 := by decide +kernel
theorem ex_3 : (cutL ⟨#[97]⟩ (putL ⟨#[98]⟩ ⟨#[]⟩ (putL ⟨#[97]⟩ ⟨#[]⟩ []))).length = 1 := by decide +kernel
end Go.Proofs.Ytdnenikplajmaaa.TreeL
