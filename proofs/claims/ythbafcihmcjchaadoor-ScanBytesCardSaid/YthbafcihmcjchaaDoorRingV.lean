/- What the laws of layer 7 ask of the project's functions, as propositions (each is proved where the code has landed). -/
import Derived.Test.YthbafcihmcjchaaDoorRingC
namespace Go.Proofs.YthbafcihmcjchaaDoor.RingV
open Go.RowKit
open Go.Proofs.YthbafcihmcjchaaDoor.RingM Go.Proofs.YthbafcihmcjchaaDoor.RingC
end Go.Proofs.YthbafcihmcjchaaDoor.RingV
