/-
  DERIVED. GIVEN WITH THE SEED: THE CARDS: each row of YtflghjamneganaaDoorRows.lean that lists a variable, with what it lists TIED to the program's text (the seventh form; the later family's looks); each row that meets fmt, with fmt's text TOLD by the authors' own Lean function (tested against real Go, not proved from fmt's source: count such statements apart). THE CARD IS WHAT COUNTS. Prove the row's statement (the work); the ties are given (YtflghjamneganaaDoorTie.lean); close each card by the builder's one call (the guide's Derived/Test/ToyasCard.lean, 'card_holds'). Laid BY PROGRAM, IN A SANDBOX (cutbox-door.mjs). By AI agents, Wed Nov 11 2026. No macro, syntax, notation, axiom, sorry.
-/
import Derived.Test.YtflghjamneganaaDoorRows
import GoSem.ClaimSeven
namespace Go.Proofs.YtflghjamneganaaDoor
namespace Rows

/-- THE TIED CARD OF 'flintlaw02.PlaceBytes'. -/
def placeBytesCard : Claim7 := { stood := { row := placeBytesRow, standIns := [], harness := (true, "480c42f3b4261ed69ebf910fd799551d69564233cbd0e1a5875ccbb05d0c5a27"), looks := false }, kinds := [], alts := [], laidByText := true, laidKinds := [.data], laidTests := true, laidLooks := .later }
def PlaceBytesCardSaid : Prop := Claim7.holds Tryd.pinned (.plain (OpenSpec.ofChange placeBytesSpec)) placeBytesCard

/-- THE SECOND FORM's CARD OF 'flintlaw02.PlaceBytes'. -/
def placeBytesUptoCard : Claim7 := { stood := { row := placeBytesUptoRow, standIns := [], harness := (true, "480c42f3b4261ed69ebf910fd799551d69564233cbd0e1a5875ccbb05d0c5a27"), looks := false }, kinds := [], alts := [], laidByText := true, laidKinds := [.data], laidTests := true, laidLooks := .later }
def PlaceBytesUptoCardSaid : Prop := Claim7.holds Tryd.pinned (.plain (OpenSpec.upto placeBytesSpec)) placeBytesUptoCard
end Rows
end Go.Proofs.YtflghjamneganaaDoor
