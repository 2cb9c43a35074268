/- The contracts of layer 3's functions, of the project's and of the document's answer. Conditions: bytes that come in read as numbers 0..255, lengths and integers fit their kinds. -/
import Derived.Test.YtieegdbjmjpopaaDoorProg
import Derived.Test.YtieegdbjmjpopaaDoorPackM
import Derived.WalkKit
import Derived.WalkSpells
import Derived.Laws.BitsAllLaws
import Derived.BigGuardPart
import Derived.Lib.MinMax
namespace Go.Proofs.YtieegdbjmjpopaaDoor.PackV
open Go.RowKit
open Go.Proofs.YtieegdbjmjpopaaDoor.Byte Go.Proofs.YtieegdbjmjpopaaDoor.PackM

theorem info8 : (Tryd.prog.info? 5).map (fun i => (i.zero, i.size, i.bytes)) = some (some (.int .u8 0), 1, 1) := by kernel_rfl
theorem size8 : (Tryd.prog.info? 5).map (·.size) = some 1 := by kernel_rfl
/-- The call answers with a new slice that reads as zs; nothing that was there has changed. -/
def Made (zs : List Int) (w : World) (e : Ending) (w' : World) : Prop :=
  ∃ g cap, e = .returned (.slice (some ⟨g, 0, none⟩) zs.length cap) ∧ Ob w' w.heap.size 5 g zs.length cap zs ∧ Below w.heap.size w w'

theorem Made.of {zs : List Int} {w w' : World} {e : Ending} {g N cap : Nat} (hN : zs.length = N) (he : e = .returned (.slice (some ⟨g, 0, none⟩) N cap)) (ho : Ob w' w.heap.size 5 g N cap zs) (hb : Below w.heap.size w w') : Made zs w e w' := by
  subst hN
  exact ⟨g, cap, he, ho, hb⟩

theorem Made.at_ {zs : List Int} {w w' : World} {e : Ending} {N : Nat} (h : Made zs w e w') (hN : zs.length = N) :
    ∃ g cap, e = .returned (.slice (some ⟨g, 0, none⟩) N cap) ∧ Ob w' w.heap.size 5 g N cap zs ∧ Below w.heap.size w w' := by
  subst hN
  exact h

theorem shr_byte (x : Int) (i : Nat) : x / 2 ^ (8 * i) % 256 = x / 256 ^ i % 256 := by
  rw [Int.pow_mul]
  rfl

end Go.Proofs.YtieegdbjmjpopaaDoor.PackV
