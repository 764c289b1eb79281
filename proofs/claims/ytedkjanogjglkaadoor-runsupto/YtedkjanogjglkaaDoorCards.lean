/-
  DERIVED. GIVEN WITH THE SEED: THE CARDS: each row of YtedkjanogjglkaaDoorRows.lean that lists a variable, with what it lists TIED to the program's text (the seventh form; the later family's looks); each row that meets fmt, with fmt's text TOLD by the authors' own Lean function (tested against real Go, not proved from fmt's source: count such statements apart). THE CARD IS WHAT COUNTS. Prove the row's statement (the work); the ties are given (YtedkjanogjglkaaDoorTie.lean); close each card by the builder's one call (the guide's Derived/Test/ToyasCard.lean, 'card_holds'). Laid BY PROGRAM, IN A SANDBOX (cutbox-door.mjs). By AI agents, Wed Nov 11 2026. No macro, syntax, notation, axiom, sorry.
-/
import Derived.Test.YtedkjanogjglkaaDoorRows
import GoSem.ClaimSeven
namespace Go.Proofs.YtedkjanogjglkaaDoor
namespace Rows

/-- THE TIED CARD OF 'chisellaw.Checks'. -/
def checksCard : Claim7 := { stood := { row := checksRow, standIns := [], harness := (true, "ab13506d03b4aa715fbb3b5a5ad16eca141089d5f0ee0431674623e09257a24e"), looks := true }, kinds := [], alts := [], laidByText := true, laidKinds := [.data], laidTests := true, laidLooks := .later }
def ChecksCardSaid : Prop := Claim7.holds Tryd.pinned (.plain (OpenSpec.ofChange checksSpec)) checksCard

/-- THE TIED CARD OF 'chisellaw.Runs'. -/
def runsCard : Claim7 := { stood := { row := runsRow, standIns := [], harness := (true, "ab13506d03b4aa715fbb3b5a5ad16eca141089d5f0ee0431674623e09257a24e"), looks := true }, kinds := [], alts := [], laidByText := true, laidKinds := [.data], laidTests := true, laidLooks := .later }
def RunsCardSaid : Prop := Claim7.holds Tryd.pinned (.plain (OpenSpec.ofChange runsSpec)) runsCard

/-- THE TIED CARD OF 'chiselkeep.Reckoned'. -/
def reckonedCard : Claim7 := { stood := { row := reckonedRow, standIns := [], harness := (true, "ab13506d03b4aa715fbb3b5a5ad16eca141089d5f0ee0431674623e09257a24e"), looks := true }, kinds := [], alts := [], laidByText := true, laidKinds := [.data], laidTests := true, laidLooks := .later }
def ReckonedCardSaid : Prop := Claim7.holds Tryd.pinned (.plain (OpenSpec.ofChange reckonedSpec)) reckonedCard

/-- THE TIED CARD OF 'chiselkeep.Looped'. -/
def loopedCard : Claim7 := { stood := { row := loopedRow, standIns := [], harness := (true, "ab13506d03b4aa715fbb3b5a5ad16eca141089d5f0ee0431674623e09257a24e"), looks := true }, kinds := [], alts := [], laidByText := true, laidKinds := [.data], laidTests := true, laidLooks := .later }
def LoopedCardSaid : Prop := Claim7.holds Tryd.pinned (.plain (OpenSpec.ofChange loopedSpec)) loopedCard

/-- THE SECOND FORM's CARD OF 'chisellaw.Checks'. -/
def checksUptoCard : Claim7 := { stood := { row := checksUptoRow, standIns := [], harness := (true, "ab13506d03b4aa715fbb3b5a5ad16eca141089d5f0ee0431674623e09257a24e"), looks := true }, kinds := [], alts := [], laidByText := true, laidKinds := [.data], laidTests := true, laidLooks := .later }
def ChecksUptoCardSaid : Prop := Claim7.holds Tryd.pinned (.plain (OpenSpec.upto checksSpec)) checksUptoCard

/-- THE SECOND FORM's CARD OF 'chisellaw.Runs'. -/
def runsUptoCard : Claim7 := { stood := { row := runsUptoRow, standIns := [], harness := (true, "ab13506d03b4aa715fbb3b5a5ad16eca141089d5f0ee0431674623e09257a24e"), looks := true }, kinds := [], alts := [], laidByText := true, laidKinds := [.data], laidTests := true, laidLooks := .later }
def RunsUptoCardSaid : Prop := Claim7.holds Tryd.pinned (.plain (OpenSpec.upto runsSpec)) runsUptoCard

/-- THE SECOND FORM's CARD OF 'chiselkeep.Reckoned'. -/
def reckonedUptoCard : Claim7 := { stood := { row := reckonedUptoRow, standIns := [], harness := (true, "ab13506d03b4aa715fbb3b5a5ad16eca141089d5f0ee0431674623e09257a24e"), looks := true }, kinds := [], alts := [], laidByText := true, laidKinds := [.data], laidTests := true, laidLooks := .later }
def ReckonedUptoCardSaid : Prop := Claim7.holds Tryd.pinned (.plain (OpenSpec.upto reckonedSpec)) reckonedUptoCard

/-- THE SECOND FORM's CARD OF 'chiselkeep.Looped'. -/
def loopedUptoCard : Claim7 := { stood := { row := loopedUptoRow, standIns := [], harness := (true, "ab13506d03b4aa715fbb3b5a5ad16eca141089d5f0ee0431674623e09257a24e"), looks := true }, kinds := [], alts := [], laidByText := true, laidKinds := [.data], laidTests := true, laidLooks := .later }
def LoopedUptoCardSaid : Prop := Claim7.holds Tryd.pinned (.plain (OpenSpec.upto loopedSpec)) loopedUptoCard
end Rows
end Go.Proofs.YtedkjanogjglkaaDoor
