/-
  DERIVED. GIVEN WITH THE SEED: THE CARDS: each row of YtedkjanogjglkaaGreatDoorRows.lean that lists a variable, with what it lists TIED to the program's text (the seventh form; the later family's looks); each row that meets fmt, with fmt's text TOLD by the authors' own Lean function (tested against real Go, not proved from fmt's source: count such statements apart). THE CARD IS WHAT COUNTS. Prove the row's statement (the work); the ties are given (YtedkjanogjglkaaGreatDoorTie.lean); close each card by the builder's one call (the guide's Derived/Test/ToyasCard.lean, 'card_holds'). Laid BY PROGRAM, IN A SANDBOX (cutbox-door.mjs). By AI agents, Wed Nov 11 2026. No macro, syntax, notation, axiom, sorry.
-/
import Derived.Test.YtedkjanogjglkaaGreatDoorRows
import GoSem.ClaimSeven
namespace Go.Proofs.YtedkjanogjglkaaGreatDoor
namespace Rows

/-- THE TIED CARD OF 'chisellaw.Ruled'. -/
def ruledCard : Claim7 := { stood := { row := ruledRow, standIns := [], harness := (true, "b0d91d22899dde33b17044ab66706728e7b75f1dc700125e09e2f27320b3a766"), looks := true }, kinds := [], alts := [], laidByText := true, laidKinds := [.data, .data, .data, .data], laidTests := true, laidLooks := .later }
def RuledCardSaid : Prop := Claim7.holds Tryz.pinned (.plain (OpenSpec.ofChange ruledSpec)) ruledCard

/-- THE TIED CARD OF 'chisellaw.Rewritten'. -/
def rewrittenCard : Claim7 := { stood := { row := rewrittenRow, standIns := [], harness := (true, "b0d91d22899dde33b17044ab66706728e7b75f1dc700125e09e2f27320b3a766"), looks := true }, kinds := [], alts := [], laidByText := true, laidKinds := [.data, .data, .data, .data], laidTests := true, laidLooks := .later }
def RewrittenCardSaid : Prop := Claim7.holds Tryz.pinned (.plain (OpenSpec.ofChange rewrittenSpec)) rewrittenCard

/-- THE TIED CARD OF 'chiselkeep.Lighter'. -/
def lighterCard : Claim7 := { stood := { row := lighterRow, standIns := [], harness := (true, "b0d91d22899dde33b17044ab66706728e7b75f1dc700125e09e2f27320b3a766"), looks := true }, kinds := [], alts := [], laidByText := true, laidKinds := [.data, .data, .data, .data], laidTests := true, laidLooks := .later }
def LighterCardSaid : Prop := Claim7.holds Tryz.pinned (.plain (OpenSpec.ofChange lighterSpec)) lighterCard

/-- THE TIED CARD OF 'chisellaw.Standards'. -/
def standardsCard : Claim7 := { stood := { row := standardsRow, standIns := [], harness := (true, "b0d91d22899dde33b17044ab66706728e7b75f1dc700125e09e2f27320b3a766"), looks := true }, kinds := [], alts := [], laidByText := true, laidKinds := [.data, .data, .data, .data], laidTests := true, laidLooks := .later }
def StandardsCardSaid : Prop := Claim7.holds Tryz.pinned (.plain (OpenSpec.ofChange standardsSpec)) standardsCard

/-- THE TIED CARD OF 'chiselkeep.Sound'. -/
def soundCard : Claim7 := { stood := { row := soundRow, standIns := [], harness := (true, "b0d91d22899dde33b17044ab66706728e7b75f1dc700125e09e2f27320b3a766"), looks := true }, kinds := [], alts := [], laidByText := true, laidKinds := [.data, .data, .data, .data], laidTests := true, laidLooks := .later }
def SoundCardSaid : Prop := Claim7.holds Tryz.pinned (.plain (OpenSpec.ofChange soundSpec)) soundCard

/-- THE TIED CARD OF 'chiselkeep.Folded'. -/
def foldedCard : Claim7 := { stood := { row := foldedRow, standIns := [], harness := (true, "b0d91d22899dde33b17044ab66706728e7b75f1dc700125e09e2f27320b3a766"), looks := true }, kinds := [], alts := [], laidByText := true, laidKinds := [.data, .data, .data, .data], laidTests := true, laidLooks := .later }
def FoldedCardSaid : Prop := Claim7.holds Tryz.pinned (.plain (OpenSpec.ofChange foldedSpec)) foldedCard

/-- THE TIED CARD OF 'chisellaw.All'. -/
def allCard : Claim7 := { stood := { row := allRow, standIns := [], harness := (true, "b0d91d22899dde33b17044ab66706728e7b75f1dc700125e09e2f27320b3a766"), looks := true }, kinds := [], alts := [], laidByText := true, laidKinds := [.data, .data, .data, .data], laidTests := true, laidLooks := .later }
def AllCardSaid : Prop := Claim7.holds Tryz.pinned (.plain (OpenSpec.ofChange allSpec)) allCard

/-- THE SECOND FORM's CARD OF 'chisellaw.Ruled'. -/
def ruledUptoCard : Claim7 := { stood := { row := ruledUptoRow, standIns := [], harness := (true, "b0d91d22899dde33b17044ab66706728e7b75f1dc700125e09e2f27320b3a766"), looks := true }, kinds := [], alts := [], laidByText := true, laidKinds := [.data, .data, .data, .data], laidTests := true, laidLooks := .later }
def RuledUptoCardSaid : Prop := Claim7.holds Tryz.pinned (.plain (OpenSpec.upto ruledSpec)) ruledUptoCard

/-- THE SECOND FORM's CARD OF 'chisellaw.Rewritten'. -/
def rewrittenUptoCard : Claim7 := { stood := { row := rewrittenUptoRow, standIns := [], harness := (true, "b0d91d22899dde33b17044ab66706728e7b75f1dc700125e09e2f27320b3a766"), looks := true }, kinds := [], alts := [], laidByText := true, laidKinds := [.data, .data, .data, .data], laidTests := true, laidLooks := .later }
def RewrittenUptoCardSaid : Prop := Claim7.holds Tryz.pinned (.plain (OpenSpec.upto rewrittenSpec)) rewrittenUptoCard

/-- THE SECOND FORM's CARD OF 'chiselkeep.Lighter'. -/
def lighterUptoCard : Claim7 := { stood := { row := lighterUptoRow, standIns := [], harness := (true, "b0d91d22899dde33b17044ab66706728e7b75f1dc700125e09e2f27320b3a766"), looks := true }, kinds := [], alts := [], laidByText := true, laidKinds := [.data, .data, .data, .data], laidTests := true, laidLooks := .later }
def LighterUptoCardSaid : Prop := Claim7.holds Tryz.pinned (.plain (OpenSpec.upto lighterSpec)) lighterUptoCard

/-- THE SECOND FORM's CARD OF 'chisellaw.Standards'. -/
def standardsUptoCard : Claim7 := { stood := { row := standardsUptoRow, standIns := [], harness := (true, "b0d91d22899dde33b17044ab66706728e7b75f1dc700125e09e2f27320b3a766"), looks := true }, kinds := [], alts := [], laidByText := true, laidKinds := [.data, .data, .data, .data], laidTests := true, laidLooks := .later }
def StandardsUptoCardSaid : Prop := Claim7.holds Tryz.pinned (.plain (OpenSpec.upto standardsSpec)) standardsUptoCard

/-- THE SECOND FORM's CARD OF 'chiselkeep.Sound'. -/
def soundUptoCard : Claim7 := { stood := { row := soundUptoRow, standIns := [], harness := (true, "b0d91d22899dde33b17044ab66706728e7b75f1dc700125e09e2f27320b3a766"), looks := true }, kinds := [], alts := [], laidByText := true, laidKinds := [.data, .data, .data, .data], laidTests := true, laidLooks := .later }
def SoundUptoCardSaid : Prop := Claim7.holds Tryz.pinned (.plain (OpenSpec.upto soundSpec)) soundUptoCard

/-- THE SECOND FORM's CARD OF 'chiselkeep.Folded'. -/
def foldedUptoCard : Claim7 := { stood := { row := foldedUptoRow, standIns := [], harness := (true, "b0d91d22899dde33b17044ab66706728e7b75f1dc700125e09e2f27320b3a766"), looks := true }, kinds := [], alts := [], laidByText := true, laidKinds := [.data, .data, .data, .data], laidTests := true, laidLooks := .later }
def FoldedUptoCardSaid : Prop := Claim7.holds Tryz.pinned (.plain (OpenSpec.upto foldedSpec)) foldedUptoCard

/-- THE SECOND FORM's CARD OF 'chisellaw.All'. -/
def allUptoCard : Claim7 := { stood := { row := allUptoRow, standIns := [], harness := (true, "b0d91d22899dde33b17044ab66706728e7b75f1dc700125e09e2f27320b3a766"), looks := true }, kinds := [], alts := [], laidByText := true, laidKinds := [.data, .data, .data, .data], laidTests := true, laidLooks := .later }
def AllUptoCardSaid : Prop := Claim7.holds Tryz.pinned (.plain (OpenSpec.upto allSpec)) allUptoCard
end Rows
end Go.Proofs.YtedkjanogjglkaaGreatDoor
