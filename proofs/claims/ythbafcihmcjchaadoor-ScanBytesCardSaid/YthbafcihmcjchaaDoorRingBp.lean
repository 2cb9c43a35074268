/- The contract of the project's Put of layer 7. -/
import Derived.Test.YthbafcihmcjchaaDoorRingB
import Derived.Test.YthbafcihmcjchaaDoorRingE
import Derived.Test.YthbafcihmcjchaaDoorPlaceH
import Derived.Test.YthbafcihmcjchaaDoorRingX
import Derived.WalkMore
namespace Go.Proofs.YthbafcihmcjchaaDoor.RingBp
set_option linter.unusedVariables false
set_option linter.unusedSimpArgs false
open Go.RowKit
open Go.Proofs.YthbafcihmcjchaaDoor.Byte Go.Proofs.YthbafcihmcjchaaDoor.PackM Go.Proofs.YthbafcihmcjchaaDoor.PackW Go.Proofs.YthbafcihmcjchaaDoor.PlaceM Go.Proofs.YthbafcihmcjchaaDoor.PlaceV Go.Proofs.YthbafcihmcjchaaDoor.PlaceH Go.Proofs.YthbafcihmcjchaaDoor.RingM Go.Proofs.YthbafcihmcjchaaDoor.RingC Go.Proofs.YthbafcihmcjchaaDoor.RingE Go.Proofs.YthbafcihmcjchaaDoor.RingX Go.Proofs.YthbafcihmcjchaaDoor.Own

theorem bs_three (W : World) (g : Nat) (t : TypeId) (a b c : Int) (h : Blk W g #[.int .u8 a, .int .u8 b, .int .u8 c] t) (ha : 0 ≤ a ∧ a ≤ 255) (hb : 0 ≤ b ∧ b ≤ 255) (hc : 0 ≤ c ∧ c ≤ 255) : Bs W (some ⟨g, 0, none⟩) 3 [a, b, c] := by
  refine ⟨rfl, fun x hx => ?_, fun k hk => ⟨g, 0, rfl, h.lt, ?_⟩⟩
  · simp only [List.mem_cons, List.mem_nil_iff, or_false] at hx
    rcases hx with rfl | rfl | rfl <;> assumption
  · rw [Nat.zero_add, h.cell k]
    rcases (show k = 0 ∨ k = 1 ∨ k = 2 by omega) with rfl | rfl | rfl <;> rfl
end Go.Proofs.YthbafcihmcjchaaDoor.RingBp
