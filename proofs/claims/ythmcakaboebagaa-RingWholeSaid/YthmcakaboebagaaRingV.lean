/- What the laws of layer 7 ask of the project's functions, as propositions (each is proved where the code has landed). -/
import Derived.Test.YthmcakaboebagaaRingC
namespace Go.Proofs.Ythmcakaboebagaa.RingV
open Go.RowKit
open Go.Proofs.Ythmcakaboebagaa.RingM Go.Proofs.Ythmcakaboebagaa.RingC
def SizeOk : Prop := ∀ (a b : ByteArray) (w : World), a.size ≤ maxLen → b.size ≤ maxLen → Calls Try.prog 8 #[.string a, .string b] w fun e w' => e = .returned (.int .i64 (size a.size b.size)) ∧ w = w'
end Go.Proofs.Ythmcakaboebagaa.RingV
