/-
  DERIVED. GIVEN WITH THE SEED: THE CARDS: each row of YtbpdenfiifcfcaaGreatDoorRows.lean that lists a variable, with what it lists TIED to the program's text (the seventh form; the later family's looks); each row that meets fmt, with fmt's text TOLD by the authors' own Lean function (tested against real Go, not proved from fmt's source: count such statements apart). THE CARD IS WHAT COUNTS. Prove the row's statement (the work); the ties are given (YtbpdenfiifcfcaaGreatDoorTie.lean); close each card by the builder's one call (the guide's Derived/Test/ToyasCard.lean, 'card_holds'). Laid BY PROGRAM, IN A SANDBOX (cutbox-door.mjs). By AI agents, Wed Nov 11 2026. No macro, syntax, notation, axiom, sorry.
-/
import Derived.Test.YtbpdenfiifcfcaaGreatDoorRows
import GoSem.ClaimSeven
namespace Go.Proofs.YtbpdenfiifcfcaaGreatDoor
namespace Rows

/-- THE TIED CARD OF 'certpathlaw10.SubtreeCheck'. -/
def subtreeCheckCard : Claim7 := { stood := { row := subtreeCheckRow, standIns := [], harness := (true, "2044f56561c66ef00ac42373ae8fc16b4b2ec80596cda3d03aca22ecee8f000f"), looks := false }, kinds := [], alts := [], laidByText := true, laidKinds := [.data, .data, .data, .data, .pinned, .pinned], laidTests := true, laidLooks := .later }
def SubtreeCheckCardSaid : Prop := Claim7.holds Tryz.pinned (.plain (OpenSpec.ofChange subtreeCheckSpec)) subtreeCheckCard

/-- THE TIED CARD OF 'certpathlaw10.SubtreeDecode'. -/
def subtreeDecodeCard : Claim7 := { stood := { row := subtreeDecodeRow, standIns := [], harness := (true, "2044f56561c66ef00ac42373ae8fc16b4b2ec80596cda3d03aca22ecee8f000f"), looks := false }, kinds := [], alts := [], laidByText := true, laidKinds := [.data, .data, .data, .data, .data, .data, .data, .pinned, .pinned], laidTests := true, laidLooks := .later }
def SubtreeDecodeCardSaid : Prop := Claim7.holds Tryz.pinned (.plain (OpenSpec.ofChange subtreeDecodeSpec)) subtreeDecodeCard

/-- THE TIED CARD OF 'certpathlaw10.SubtreeBack'. -/
def subtreeBackCard : Claim7 := { stood := { row := subtreeBackRow, standIns := [], harness := (true, "2044f56561c66ef00ac42373ae8fc16b4b2ec80596cda3d03aca22ecee8f000f"), looks := false }, kinds := [], alts := [], laidByText := true, laidKinds := [.data, .data, .data, .data, .data, .data, .data, .pinned, .pinned], laidTests := true, laidLooks := .later }
def SubtreeBackCardSaid : Prop := Claim7.holds Tryz.pinned (.plain (OpenSpec.ofChange subtreeBackSpec)) subtreeBackCard

/-- THE SECOND FORM's CARD OF 'certpathlaw10.SubtreeCheck'. -/
def subtreeCheckUptoCard : Claim7 := { stood := { row := subtreeCheckUptoRow, standIns := [], harness := (true, "2044f56561c66ef00ac42373ae8fc16b4b2ec80596cda3d03aca22ecee8f000f"), looks := false }, kinds := [], alts := [], laidByText := true, laidKinds := [.data, .data, .data, .data, .pinned, .pinned], laidTests := true, laidLooks := .later }
def SubtreeCheckUptoCardSaid : Prop := Claim7.holds Tryz.pinned (.plain (OpenSpec.upto subtreeCheckSpec)) subtreeCheckUptoCard

/-- THE SECOND FORM's CARD OF 'certpathlaw10.SubtreeDecode'. -/
def subtreeDecodeUptoCard : Claim7 := { stood := { row := subtreeDecodeUptoRow, standIns := [], harness := (true, "2044f56561c66ef00ac42373ae8fc16b4b2ec80596cda3d03aca22ecee8f000f"), looks := false }, kinds := [], alts := [], laidByText := true, laidKinds := [.data, .data, .data, .data, .data, .data, .data, .pinned, .pinned], laidTests := true, laidLooks := .later }
def SubtreeDecodeUptoCardSaid : Prop := Claim7.holds Tryz.pinned (.plain (OpenSpec.upto subtreeDecodeSpec)) subtreeDecodeUptoCard

/-- THE SECOND FORM's CARD OF 'certpathlaw10.SubtreeBack'. -/
def subtreeBackUptoCard : Claim7 := { stood := { row := subtreeBackUptoRow, standIns := [], harness := (true, "2044f56561c66ef00ac42373ae8fc16b4b2ec80596cda3d03aca22ecee8f000f"), looks := false }, kinds := [], alts := [], laidByText := true, laidKinds := [.data, .data, .data, .data, .data, .data, .data, .pinned, .pinned], laidTests := true, laidLooks := .later }
def SubtreeBackUptoCardSaid : Prop := Claim7.holds Tryz.pinned (.plain (OpenSpec.upto subtreeBackSpec)) subtreeBackUptoCard
end Rows
end Go.Proofs.YtbpdenfiifcfcaaGreatDoor
