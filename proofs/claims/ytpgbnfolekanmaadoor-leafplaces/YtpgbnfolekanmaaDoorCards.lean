/-
  DERIVED. GIVEN WITH THE SEED: THE CARDS: each row of YtpgbnfolekanmaaDoorRows.lean that lists a variable, with what it lists TIED to the program's text (the seventh form; the later family's looks); each row that meets fmt, with fmt's text TOLD by the authors' own Lean function (tested against real Go, not proved from fmt's source: count such statements apart). THE CARD IS WHAT COUNTS. Prove the row's statement (the work); the ties are given (YtpgbnfolekanmaaDoorTie.lean); close each card by the builder's one call (the guide's Derived/Test/ToyasCard.lean, 'card_holds'). Laid BY PROGRAM, IN A SANDBOX (cutbox-door.mjs). By AI agents, Wed Nov 11 2026. No macro, syntax, notation, axiom, sorry.
-/
import Derived.Test.YtpgbnfolekanmaaDoorRows
import GoSem.ClaimSeven
namespace Go.Proofs.YtpgbnfolekanmaaDoor
namespace Rows

/-- THE TIED CARD OF 'beguinagelaw11.LeafAll'. -/
def leafAllCard : Claim7 := { stood := { row := leafAllRow, standIns := [], harness := (true, "299986435e3d4838880cfd90ce46ed512815162496cf3100f6a1d41a878590a2"), looks := false }, kinds := [], alts := [], laidByText := true, laidKinds := [.data, .pinned], laidTests := true, laidLooks := .later }
def LeafAllCardSaid : Prop := Claim7.holds Tryd.pinned (.plain (OpenSpec.ofChange leafAllSpec)) leafAllCard

/-- THE TIED CARD OF 'beguinagelaw11.LeafBack'. -/
def leafBackCard : Claim7 := { stood := { row := leafBackRow, standIns := [], harness := (true, "299986435e3d4838880cfd90ce46ed512815162496cf3100f6a1d41a878590a2"), looks := false }, kinds := [], alts := [], laidByText := true, laidKinds := [.data, .pinned], laidTests := true, laidLooks := .later }
def LeafBackCardSaid : Prop := Claim7.holds Tryd.pinned (.plain (OpenSpec.ofChange leafBackSpec)) leafBackCard

/-- THE TIED CARD OF 'beguinagelaw11.LeafPlaces'. -/
def leafPlacesCard : Claim7 := { stood := { row := leafPlacesRow, standIns := [], harness := (true, "299986435e3d4838880cfd90ce46ed512815162496cf3100f6a1d41a878590a2"), looks := false }, kinds := [], alts := [], laidByText := true, laidKinds := [.data, .pinned], laidTests := true, laidLooks := .later }
def LeafPlacesCardSaid : Prop := Claim7.holds Tryd.pinned (.plain (OpenSpec.ofChange leafPlacesSpec)) leafPlacesCard

/-- THE TIED CARD OF 'beguinagelaw11.LeafWrong'. -/
def leafWrongCard : Claim7 := { stood := { row := leafWrongRow, standIns := [], harness := (true, "299986435e3d4838880cfd90ce46ed512815162496cf3100f6a1d41a878590a2"), looks := false }, kinds := [], alts := [], laidByText := true, laidKinds := [.data, .pinned], laidTests := true, laidLooks := .later }
def LeafWrongCardSaid : Prop := Claim7.holds Tryd.pinned (.plain (OpenSpec.ofChange leafWrongSpec)) leafWrongCard

/-- THE SECOND FORM's CARD OF 'beguinagelaw11.LeafAll'. -/
def leafAllUptoCard : Claim7 := { stood := { row := leafAllUptoRow, standIns := [], harness := (true, "299986435e3d4838880cfd90ce46ed512815162496cf3100f6a1d41a878590a2"), looks := false }, kinds := [], alts := [], laidByText := true, laidKinds := [.data, .pinned], laidTests := true, laidLooks := .later }
def LeafAllUptoCardSaid : Prop := Claim7.holds Tryd.pinned (.plain (OpenSpec.upto leafAllSpec)) leafAllUptoCard

/-- THE SECOND FORM's CARD OF 'beguinagelaw11.LeafBack'. -/
def leafBackUptoCard : Claim7 := { stood := { row := leafBackUptoRow, standIns := [], harness := (true, "299986435e3d4838880cfd90ce46ed512815162496cf3100f6a1d41a878590a2"), looks := false }, kinds := [], alts := [], laidByText := true, laidKinds := [.data, .pinned], laidTests := true, laidLooks := .later }
def LeafBackUptoCardSaid : Prop := Claim7.holds Tryd.pinned (.plain (OpenSpec.upto leafBackSpec)) leafBackUptoCard

/-- THE SECOND FORM's CARD OF 'beguinagelaw11.LeafPlaces'. -/
def leafPlacesUptoCard : Claim7 := { stood := { row := leafPlacesUptoRow, standIns := [], harness := (true, "299986435e3d4838880cfd90ce46ed512815162496cf3100f6a1d41a878590a2"), looks := false }, kinds := [], alts := [], laidByText := true, laidKinds := [.data, .pinned], laidTests := true, laidLooks := .later }
def LeafPlacesUptoCardSaid : Prop := Claim7.holds Tryd.pinned (.plain (OpenSpec.upto leafPlacesSpec)) leafPlacesUptoCard

/-- THE SECOND FORM's CARD OF 'beguinagelaw11.LeafWrong'. -/
def leafWrongUptoCard : Claim7 := { stood := { row := leafWrongUptoRow, standIns := [], harness := (true, "299986435e3d4838880cfd90ce46ed512815162496cf3100f6a1d41a878590a2"), looks := false }, kinds := [], alts := [], laidByText := true, laidKinds := [.data, .pinned], laidTests := true, laidLooks := .later }
def LeafWrongUptoCardSaid : Prop := Claim7.holds Tryd.pinned (.plain (OpenSpec.upto leafWrongSpec)) leafWrongUptoCard
end Rows
end Go.Proofs.YtpgbnfolekanmaaDoor
