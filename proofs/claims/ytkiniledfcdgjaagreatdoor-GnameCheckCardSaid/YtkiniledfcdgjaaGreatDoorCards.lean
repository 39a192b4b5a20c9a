/-
  DERIVED. GIVEN WITH THE SEED: THE CARDS: each row of YtkiniledfcdgjaaGreatDoorRows.lean that lists a variable, with what it lists TIED to the program's text (the seventh form; the later family's looks); each row that meets fmt, with fmt's text TOLD by the authors' own Lean function (tested against real Go, not proved from fmt's source: count such statements apart). THE CARD IS WHAT COUNTS. Prove the row's statement (the work); the ties are given (YtkiniledfcdgjaaGreatDoorTie.lean); close each card by the builder's one call (the guide's Derived/Test/ToyasCard.lean, 'card_holds'). Laid BY PROGRAM, IN A SANDBOX (cutbox-door.mjs). By AI agents, Wed Nov 11 2026. No macro, syntax, notation, axiom, sorry.
-/
import Derived.Test.YtkiniledfcdgjaaGreatDoorRows
import GoSem.ClaimSeven
namespace Go.Proofs.YtkiniledfcdgjaaGreatDoor
namespace Rows

/-- THE TIED CARD OF 'certpathlaw09.GnameCheck'. -/
def gnameCheckCard : Claim7 := { stood := { row := gnameCheckRow, standIns := [], harness := (true, "228fbcbb38141896fb73cfddd5b6b7b7a6435992aabc5b982e306dcb554faf4b"), looks := false }, kinds := [], alts := [], laidByText := true, laidKinds := [.data, .data, .data, .data, .pinned, .pinned], laidTests := true, laidLooks := .later }
def GnameCheckCardSaid : Prop := Claim7.holds Tryz.pinned (.plain (OpenSpec.ofChange gnameCheckSpec)) gnameCheckCard

/-- THE TIED CARD OF 'certpathlaw09.GnameMatch'. -/
def gnameMatchCard : Claim7 := { stood := { row := gnameMatchRow, standIns := [], harness := (true, "228fbcbb38141896fb73cfddd5b6b7b7a6435992aabc5b982e306dcb554faf4b"), looks := false }, kinds := [], alts := [], laidByText := true, laidKinds := [.data, .data, .data, .data, .pinned, .pinned], laidTests := true, laidLooks := .later }
def GnameMatchCardSaid : Prop := Claim7.holds Tryz.pinned (.plain (OpenSpec.ofChange gnameMatchSpec)) gnameMatchCard

/-- THE TIED CARD OF 'certpathlaw09.GnameSame'. -/
def gnameSameCard : Claim7 := { stood := { row := gnameSameRow, standIns := [], harness := (true, "228fbcbb38141896fb73cfddd5b6b7b7a6435992aabc5b982e306dcb554faf4b"), looks := false }, kinds := [], alts := [], laidByText := true, laidKinds := [.data, .data, .data, .data, .pinned, .pinned], laidTests := true, laidLooks := .later }
def GnameSameCardSaid : Prop := Claim7.holds Tryz.pinned (.plain (OpenSpec.ofChange gnameSameSpec)) gnameSameCard

/-- THE SECOND FORM's CARD OF 'certpathlaw09.GnameCheck'. -/
def gnameCheckUptoCard : Claim7 := { stood := { row := gnameCheckUptoRow, standIns := [], harness := (true, "228fbcbb38141896fb73cfddd5b6b7b7a6435992aabc5b982e306dcb554faf4b"), looks := false }, kinds := [], alts := [], laidByText := true, laidKinds := [.data, .data, .data, .data, .pinned, .pinned], laidTests := true, laidLooks := .later }
def GnameCheckUptoCardSaid : Prop := Claim7.holds Tryz.pinned (.plain (OpenSpec.upto gnameCheckSpec)) gnameCheckUptoCard

/-- THE SECOND FORM's CARD OF 'certpathlaw09.GnameMatch'. -/
def gnameMatchUptoCard : Claim7 := { stood := { row := gnameMatchUptoRow, standIns := [], harness := (true, "228fbcbb38141896fb73cfddd5b6b7b7a6435992aabc5b982e306dcb554faf4b"), looks := false }, kinds := [], alts := [], laidByText := true, laidKinds := [.data, .data, .data, .data, .pinned, .pinned], laidTests := true, laidLooks := .later }
def GnameMatchUptoCardSaid : Prop := Claim7.holds Tryz.pinned (.plain (OpenSpec.upto gnameMatchSpec)) gnameMatchUptoCard

/-- THE SECOND FORM's CARD OF 'certpathlaw09.GnameSame'. -/
def gnameSameUptoCard : Claim7 := { stood := { row := gnameSameUptoRow, standIns := [], harness := (true, "228fbcbb38141896fb73cfddd5b6b7b7a6435992aabc5b982e306dcb554faf4b"), looks := false }, kinds := [], alts := [], laidByText := true, laidKinds := [.data, .data, .data, .data, .pinned, .pinned], laidTests := true, laidLooks := .later }
def GnameSameUptoCardSaid : Prop := Claim7.holds Tryz.pinned (.plain (OpenSpec.upto gnameSameSpec)) gnameSameUptoCard
end Rows
end Go.Proofs.YtkiniledfcdgjaaGreatDoor
