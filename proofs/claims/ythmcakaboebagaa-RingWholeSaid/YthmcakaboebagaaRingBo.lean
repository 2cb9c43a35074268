/- A slice of truth values that came in, out of its reading: for seats that lack layer 6. -/
import Derived.Test.YthmcakaboebagaaOwn
import Derived.Test.YthmcakaboebagaaProg
import Derived.Deep.Grids
namespace Go.Proofs.Ythmcakaboebagaa.RingBo
set_option linter.unusedVariables false
open Go.RowKit Go.Deep
open Go.Proofs.Ythmcakaboebagaa.Own

theorem bools_of {H : Type} {enc : TypeId × Value → H} {w : World} {base fuel : Nat} {cs : List Value} {x : DataW H × List MemPlace} (h : DataW.trod enc Try.prog w base (fun _ => true) true fuel 27 cs = some x) :
    ∃ A m c B, cs = [.slice A m c] ∧ m ≤ maxLen ∧ Bl w A m B := by
  rcases open_bools Try.underlying27 Try.underlying4 (by kernel_rfl) h with ⟨hcs, _⟩ | ⟨a, len, cap, B, hcs, _, hl, hm, _, hc⟩
  · exact ⟨none, 0, 0, fun _ => false, hcs, by decide, fun k hk => absurd hk (by omega)⟩
  · refine ⟨some a, len, cap, B, hcs, by omega, fun k hk => ?_⟩
    obtain ⟨b, o, spot⟩ := a
    have h0 := hc 0 (by omega)
    have hspot : spot = none := by simpa [Addr.add] using World.cell?_spot h0
    subst hspot
    have hadd : ∀ k, (⟨b, o, none⟩ : Addr).add k = ⟨b, o + k, none⟩ := fun k => by
      unfold Addr.add
      by_cases h0 : k = 0 <;> simp [h0]
    have hck := hc k (by omega)
    rw [hadd] at hck
    rw [hadd] at h0
    exact ⟨b, o, rfl, World.block_lt_of_cell? w (⟨b, o, none⟩ : Addr) (by simpa using h0), hck⟩
end Go.Proofs.Ythmcakaboebagaa.RingBo
