/- What the laws of layer 7 ask of the project's functions, as propositions (each is proved where the code has landed). -/
import Derived.Test.YthbafcihmcjchaaGreatDoorRingC
namespace Go.Proofs.YthbafcihmcjchaaGreatDoor.RingV
open Go.RowKit
open Go.Proofs.YthbafcihmcjchaaGreatDoor.RingM Go.Proofs.YthbafcihmcjchaaGreatDoor.RingC
end Go.Proofs.YthbafcihmcjchaaGreatDoor.RingV
