/- The contracts of the document's answer for layer 3. Conditions: bytes that come in read as numbers 0..255, lengths and integers fit their kinds. -/
import Derived.Test.YtieegdbjmjpopaaDoorPackV
namespace Go.Proofs.YtieegdbjmjpopaaDoor.PackS
open Go.RowKit
open Go.Proofs.YtieegdbjmjpopaaDoor.Byte Go.Proofs.YtieegdbjmjpopaaDoor.PackM Go.Proofs.YtieegdbjmjpopaaDoor.PackV

end Go.Proofs.YtieegdbjmjpopaaDoor.PackS
