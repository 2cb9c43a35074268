import Derived.Test.YtogdjbhjgbnicaaGreatDoorKeysM
import Derived.Test.YtogdjbhjgbnicaaGreatDoorPackV
import Derived.Test.YtogdjbhjgbnicaaGreatDoorConvS
import Derived.WalkLawsBesides
import Derived.WalkSpells
import Derived.Laws.Concat
import Derived.Deep.RegionHeld3
import Derived.Deep.QuietTactic
import Derived.BigQuiet
import Derived.Deep.RegionLaw
import Derived.BigRegion
set_option linter.unusedVariables false
set_option linter.unusedSimpArgs false
namespace Go.Proofs.YtogdjbhjgbnicaaGreatDoor.KeysR
open Go.RowKit
open Byte PackM PackV ConvS KeysM
theorem keeps {w v v' : World} (h : Below w.heap.size w v) (hb : Below v.heap.size v v') : Below w.heap.size w v' := h.trans (hb.mono h.size)
theorem kq_of (c ino : Int) : [c] ++ low (width 4) ino = kq c ino := rfl
end Go.Proofs.YtogdjbhjgbnicaaGreatDoor.KeysR