/-
  DERIVED. GIVEN WITH THE SEED: THE CARDS: each row of YtofdpognieflnaaDoorRows.lean that lists a variable, with what it lists TIED to the program's text (the seventh form; the later family's looks); each row that meets fmt, with fmt's text TOLD by the authors' own Lean function (tested against real Go, not proved from fmt's source: count such statements apart). THE CARD IS WHAT COUNTS. Prove the row's statement (the work); the ties are given (YtofdpognieflnaaDoorTie.lean); close each card by the builder's one call (the guide's Derived/Test/ToyasCard.lean, 'card_holds'). Laid BY PROGRAM, IN A SANDBOX (cutbox-door.mjs). By AI agents, Wed Nov 11 2026. No macro, syntax, notation, axiom, sorry.
-/
import Derived.Test.YtofdpognieflnaaDoorRows
import GoSem.ClaimSeven
namespace Go.Proofs.YtofdpognieflnaaDoor
namespace Rows

/-- THE TIED CARD OF 'beguinagelaw03.BinBack'. -/
def binBackCard : Claim7 := { stood := { row := binBackRow, standIns := [], harness := (true, "e3f9e166b498e996f776de21acab0db4ac4f8252c83713ee96e9117ca6679ece"), looks := false }, kinds := [], alts := [], laidByText := true, laidKinds := [.data, .pinned], laidTests := true, laidLooks := .later }
def BinBackCardSaid : Prop := Claim7.holds Tryd.pinned (.plain (OpenSpec.ofChange binBackSpec)) binBackCard

/-- THE SECOND FORM's CARD OF 'beguinagelaw03.BinBack'. -/
def binBackUptoCard : Claim7 := { stood := { row := binBackUptoRow, standIns := [], harness := (true, "e3f9e166b498e996f776de21acab0db4ac4f8252c83713ee96e9117ca6679ece"), looks := false }, kinds := [], alts := [], laidByText := true, laidKinds := [.data, .pinned], laidTests := true, laidLooks := .later }
def BinBackUptoCardSaid : Prop := Claim7.holds Tryd.pinned (.plain (OpenSpec.upto binBackSpec)) binBackUptoCard
end Rows
end Go.Proofs.YtofdpognieflnaaDoor
