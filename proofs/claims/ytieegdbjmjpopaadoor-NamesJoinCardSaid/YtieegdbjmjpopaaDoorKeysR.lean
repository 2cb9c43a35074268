/- The contracts of the document's answer for layer 9. -/
import Derived.Test.YtieegdbjmjpopaaDoorKeysM
import Derived.Test.YtieegdbjmjpopaaDoorPackH
import Derived.Test.YtieegdbjmjpopaaDoorConvS
import Derived.WalkLawsBesides
import Derived.WalkSpells
import Derived.Laws.Concat
import Derived.Deep.RegionHeld3
import Derived.Deep.QuietTactic
import Derived.BigQuiet
import Derived.Deep.RegionLaw
import Derived.BigRegion
namespace Go.Proofs.YtieegdbjmjpopaaDoor.KeysR
set_option linter.unusedVariables false
set_option linter.unusedSimpArgs false
open Go.RowKit
open Go.Proofs.YtieegdbjmjpopaaDoor.Byte Go.Proofs.YtieegdbjmjpopaaDoor.PackM Go.Proofs.YtieegdbjmjpopaaDoor.PackV Go.Proofs.YtieegdbjmjpopaaDoor.PackS Go.Proofs.YtieegdbjmjpopaaDoor.PackH Go.Proofs.YtieegdbjmjpopaaDoor.ConvS Go.Proofs.YtieegdbjmjpopaaDoor.KeysM

theorem keeps {w v v' : World} (h : Below w.heap.size w v) (hb : Below v.heap.size v v') : Below w.heap.size w v' := h.trans (hb.mono h.size)
theorem kq_of (c ino : Int) : [c] ++ low (width 4) ino = kq c ino := rfl
theorem conv_two (w : World) (x y : Int) (hx0 : 0 ≤ x) (hx1 : x ≤ 255) (hy0 : 0 ≤ y) (hy1 : y ≤ 255) (s : ByteArray) (hs : str [x, y] = s) :
    Bs (w.alloc (.cells #[.int .u8 x, .int .u8 y] 5)) (some ⟨w.heap.size, 0, none⟩) 2 [x, y] ∧ (convert 43 9 (.slice (some ⟨w.heap.size, 0, none⟩) 2 2)).run Tryd.prog (w.alloc (.cells #[.int .u8 x, .int .u8 y] 5)) = .ok (.string s) (w.alloc (.cells #[.int .u8 x, .int .u8 y] 5)) := by
  subst hs
  have h := Bs.new_ w 5 (0, 0) [x, y] (by intro z hz; simp at hz; omega)
  exact ⟨h, h.str_ 43 9 Tryd.underlying43 Tryd.underlying5 Tryd.underlying9⟩
theorem after_two {w w2 : World} {x y : Int} {s : ByteArray} (hb : Bs (w.alloc (.cells #[.int .u8 x, .int .u8 y] 5)) (some ⟨w.heap.size, 0, none⟩) 2 [x, y]) (hs : str [x, y] = s)
    (h : Below (w.alloc (.cells #[.int .u8 x, .int .u8 y] 5)).drew.heap.size (w.alloc (.cells #[.int .u8 x, .int .u8 y] 5)).drew w2) :
    Below w.heap.size w w2 ∧ (convert 43 9 (.slice (some ⟨w.heap.size, 0, none⟩) 2 2)).run Tryd.prog w2 = .ok (.string s) w2 := by
  subst hs
  have h1 : Bs (w.alloc (.cells #[.int .u8 x, .int .u8 y] 5)).drew (some ⟨w.heap.size, 0, none⟩) 2 [x, y] := hb.below ((Below.refl _ _).drew)
  have h2 := h1.below h
  refine ⟨keeps (((Below.refl _ _).alloc (Nat.le_refl _) _).drew) h, h2.str_ 43 9 Tryd.underlying43 Tryd.underlying5 Tryd.underlying9⟩
end Go.Proofs.YtieegdbjmjpopaaDoor.KeysR
