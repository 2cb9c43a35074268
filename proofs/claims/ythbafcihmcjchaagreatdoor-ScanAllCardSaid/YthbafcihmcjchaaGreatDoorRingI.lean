/- The contract of layer 7's law's Raw.Item: an item by its place's bits. -/
import Derived.Test.YthbafcihmcjchaaGreatDoorRingC
import Derived.Test.YthbafcihmcjchaaGreatDoorPlaceG
import Derived.StillTailTactics
namespace Go.Proofs.YthbafcihmcjchaaGreatDoor.RingI
set_option linter.unusedVariables false
set_option linter.unusedSimpArgs false
open Go.RowKit
open Go.Proofs.YthbafcihmcjchaaGreatDoor.Byte Go.Proofs.YthbafcihmcjchaaGreatDoor.RingM Go.Proofs.YthbafcihmcjchaaGreatDoor.RingN Go.Proofs.YthbafcihmcjchaaGreatDoor.RingC Go.Proofs.YthbafcihmcjchaaGreatDoor.PlaceG Go.Proofs.YthbafcihmcjchaaGreatDoor.Own

attribute [local go_sem] Own.run_store_complex
end Go.Proofs.YthbafcihmcjchaaGreatDoor.RingI
