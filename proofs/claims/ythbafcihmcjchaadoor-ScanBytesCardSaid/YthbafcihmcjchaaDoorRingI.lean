/- The contract of layer 7's law's Raw.Item: an item by its place's bits. -/
import Derived.Test.YthbafcihmcjchaaDoorRingC
import Derived.Test.YthbafcihmcjchaaDoorPlaceG
import Derived.StillTailTactics
namespace Go.Proofs.YthbafcihmcjchaaDoor.RingI
set_option linter.unusedVariables false
set_option linter.unusedSimpArgs false
open Go.RowKit
open Go.Proofs.YthbafcihmcjchaaDoor.Byte Go.Proofs.YthbafcihmcjchaaDoor.RingM Go.Proofs.YthbafcihmcjchaaDoor.RingN Go.Proofs.YthbafcihmcjchaaDoor.RingC Go.Proofs.YthbafcihmcjchaaDoor.PlaceG Go.Proofs.YthbafcihmcjchaaDoor.Own

attribute [local go_sem] Own.run_store_complex
end Go.Proofs.YthbafcihmcjchaaDoor.RingI
