/- What the laws of layer 7 ask of the project's functions, as propositions (each is proved where the code has landed). -/
import Derived.Test.YthmcakaboebagaaDoorRingC
namespace Go.Proofs.YthmcakaboebagaaDoor.RingV
open Go.RowKit
open Go.Proofs.YthmcakaboebagaaDoor.RingM Go.Proofs.YthmcakaboebagaaDoor.RingC
def SizeOk : Prop := ∀ (a b : ByteArray) (w : World), a.size ≤ maxLen → b.size ≤ maxLen → Calls Tryd.prog 12 #[.string a, .string b] w fun e w' => e = .returned (.int .i64 (size a.size b.size)) ∧ w = w'
end Go.Proofs.YthmcakaboebagaaDoor.RingV
