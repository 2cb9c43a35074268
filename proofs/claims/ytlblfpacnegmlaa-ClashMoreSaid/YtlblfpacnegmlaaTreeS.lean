/- Layer 10: the document's Same and Low; the law's cut. -/
import Derived.Test.YtlblfpacnegmlaaTreeR
import Derived.Deep.MidRow
import Derived.Deep.QuietTactic
import Derived.BigQuiet
namespace Go.Proofs.Ytlblfpacnegmlaa.TreeS
set_option linter.unusedVariables false
set_option linter.unusedSimpArgs false
open Go.RowKit
open Go.Proofs.Ytlblfpacnegmlaa.Byte Go.Proofs.Ytlblfpacnegmlaa.KeysM Go.Proofs.Ytlblfpacnegmlaa.TreeM Go.Proofs.Ytlblfpacnegmlaa.Own Go.Proofs.Ytlblfpacnegmlaa.Rw Go.Proofs.Ytlblfpacnegmlaa.Lst Go.Proofs.Ytlblfpacnegmlaa.TreeR

theorem drop_at {α : Type} {l : List α} {i : Nat} {x : α} (h : l[i]? = some x) : l.drop i = x :: l.drop (i + 1) := by
  obtain ⟨h1, rfl⟩ := List.getElem?_eq_some_iff.1 h
  exact (List.getElem_cons_drop h1).symm
theorem below_drewN' {b : Nat} {w wr : World} (h : Below b w wr) (n : Nat) : Below b w (wr.drewN n) := below_drewN h n
/-- The greatest number of twos whose product is at most this. -/
def lowB (n h : Nat) : Bool := decide (h ≤ Nat.log2 ((n + 1) * (n + 1)) + 2)
end Go.Proofs.Ytlblfpacnegmlaa.TreeS
