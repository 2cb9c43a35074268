/-
  DERIVED. GIVEN WITH THE SEED: THE CARDS: each row of YthmcakaboebagaaDoorRows.lean that lists a variable, with what it lists TIED to the program's text (the seventh form; the later family's looks); each row that meets fmt, with fmt's text TOLD by the authors' own Lean function (tested against real Go, not proved from fmt's source: count such statements apart). THE CARD IS WHAT COUNTS. Prove the row's statement (the work); the ties are given (YthmcakaboebagaaDoorTie.lean); close each card by the builder's one call (the guide's Derived/Test/ToyasCard.lean, 'card_holds'). Laid BY PROGRAM, IN A SANDBOX (cutbox-door.mjs). By AI agents, Wed Nov 11 2026. No macro, syntax, notation, axiom, sorry.
-/
import Derived.Test.YthmcakaboebagaaDoorRows
import GoSem.ClaimSeven
namespace Go.Proofs.YthmcakaboebagaaDoor
namespace Rows

/-- THE TIED CARD OF 'flintlaw07.RingPuts'. -/
def ringPutsCard : Claim7 := { stood := { row := ringPutsRow, standIns := [], harness := (true, "1db3acaecafc320b1d87ca14b0e0de06bd56f041418e8d3a0cbbcf619782d950"), looks := false }, kinds := [], alts := [], laidByText := true, laidKinds := [.data], laidTests := true, laidLooks := .later }
def RingPutsCardSaid : Prop := Claim7.holds Tryd.pinned (.plain (OpenSpec.ofChange ringPutsSpec)) ringPutsCard

/-- THE TIED CARD OF 'flintlaw07.RingGets'. -/
def ringGetsCard : Claim7 := { stood := { row := ringGetsRow, standIns := [], harness := (true, "1db3acaecafc320b1d87ca14b0e0de06bd56f041418e8d3a0cbbcf619782d950"), looks := false }, kinds := [], alts := [], laidByText := true, laidKinds := [.data], laidTests := true, laidLooks := .later }
def RingGetsCardSaid : Prop := Claim7.holds Tryd.pinned (.plain (OpenSpec.ofChange ringGetsSpec)) ringGetsCard

/-- THE SECOND FORM's CARD OF 'flintlaw07.RingPuts'. -/
def ringPutsUptoCard : Claim7 := { stood := { row := ringPutsUptoRow, standIns := [], harness := (true, "1db3acaecafc320b1d87ca14b0e0de06bd56f041418e8d3a0cbbcf619782d950"), looks := false }, kinds := [], alts := [], laidByText := true, laidKinds := [.data], laidTests := true, laidLooks := .later }
def RingPutsUptoCardSaid : Prop := Claim7.holds Tryd.pinned (.plain (OpenSpec.upto ringPutsSpec)) ringPutsUptoCard

/-- THE SECOND FORM's CARD OF 'flintlaw07.RingGets'. -/
def ringGetsUptoCard : Claim7 := { stood := { row := ringGetsUptoRow, standIns := [], harness := (true, "1db3acaecafc320b1d87ca14b0e0de06bd56f041418e8d3a0cbbcf619782d950"), looks := false }, kinds := [], alts := [], laidByText := true, laidKinds := [.data], laidTests := true, laidLooks := .later }
def RingGetsUptoCardSaid : Prop := Claim7.holds Tryd.pinned (.plain (OpenSpec.upto ringGetsSpec)) ringGetsUptoCard
end Rows
end Go.Proofs.YthmcakaboebagaaDoor
