/-
  DERIVED. GIVEN WITH THE SEED: THE CARDS: each row of YtnmcocolahgfnaaDoorRows.lean that lists a variable, with what it lists TIED to the program's text (the seventh form; the later family's looks); each row that meets fmt, with fmt's text TOLD by the authors' own Lean function (tested against real Go, not proved from fmt's source: count such statements apart). THE CARD IS WHAT COUNTS. Prove the row's statement (the work); the ties are given (YtnmcocolahgfnaaDoorTie.lean); close each card by the builder's one call (the guide's Derived/Test/ToyasCard.lean, 'card_holds'). Laid BY PROGRAM, IN A SANDBOX (cutbox-door.mjs). By AI agents, Wed Nov 11 2026. No macro, syntax, notation, axiom, sorry.
-/
import Derived.Test.YtnmcocolahgfnaaDoorRows
import GoSem.ClaimSeven
namespace Go.Proofs.YtnmcocolahgfnaaDoor
namespace Rows

/-- THE TIED CARD OF 'certpathlaw12.MerkleGenerate'. -/
def merkleGenerateCard : Claim7 := { stood := { row := merkleGenerateRow, standIns := [], harness := (true, "69b0822651db7ac39ed92ea331f1aa2294a1b1f1ba4ba41acbee83956f2a4e6d"), looks := false }, kinds := [], alts := [], laidByText := true, laidKinds := [.data], laidTests := true, laidLooks := .later }
def MerkleGenerateCardSaid : Prop := Claim7.holds Tryd.pinned (.plain (OpenSpec.ofChange merkleGenerateSpec)) merkleGenerateCard

/-- THE TIED CARD OF 'certpathlaw12.MerkleErrors'. -/
def merkleErrorsCard : Claim7 := { stood := { row := merkleErrorsRow, standIns := [], harness := (true, "69b0822651db7ac39ed92ea331f1aa2294a1b1f1ba4ba41acbee83956f2a4e6d"), looks := false }, kinds := [], alts := [], laidByText := true, laidKinds := [.data], laidTests := true, laidLooks := .later }
def MerkleErrorsCardSaid : Prop := Claim7.holds Tryd.pinned (.plain (OpenSpec.ofChange merkleErrorsSpec)) merkleErrorsCard

/-- THE TIED CARD OF 'certpathlaw12.MerkleSign'. -/
def merkleSignCard : Claim7 := { stood := { row := merkleSignRow, standIns := [], harness := (true, "69b0822651db7ac39ed92ea331f1aa2294a1b1f1ba4ba41acbee83956f2a4e6d"), looks := false }, kinds := [], alts := [], laidByText := true, laidKinds := [.data], laidTests := true, laidLooks := .later }
def MerkleSignCardSaid : Prop := Claim7.holds Tryd.pinned (.plain (OpenSpec.ofChange merkleSignSpec)) merkleSignCard

/-- THE TIED CARD OF 'certpathlaw12.MerkleVerify'. -/
def merkleVerifyCard : Claim7 := { stood := { row := merkleVerifyRow, standIns := [], harness := (true, "69b0822651db7ac39ed92ea331f1aa2294a1b1f1ba4ba41acbee83956f2a4e6d"), looks := false }, kinds := [], alts := [], laidByText := true, laidKinds := [.data], laidTests := true, laidLooks := .later }
def MerkleVerifyCardSaid : Prop := Claim7.holds Tryd.pinned (.plain (OpenSpec.ofChange merkleVerifySpec)) merkleVerifyCard

/-- THE TIED CARD OF 'certpathlaw12.MerkleRaw'. -/
def merkleRawCard : Claim7 := { stood := { row := merkleRawRow, standIns := [], harness := (true, "69b0822651db7ac39ed92ea331f1aa2294a1b1f1ba4ba41acbee83956f2a4e6d"), looks := false }, kinds := [], alts := [], laidByText := true, laidKinds := [.data], laidTests := true, laidLooks := .later }
def MerkleRawCardSaid : Prop := Claim7.holds Tryd.pinned (.plain (OpenSpec.ofChange merkleRawSpec)) merkleRawCard

/-- THE TIED CARD OF 'certpathlaw12.MerkleBack'. -/
def merkleBackCard : Claim7 := { stood := { row := merkleBackRow, standIns := [], harness := (true, "69b0822651db7ac39ed92ea331f1aa2294a1b1f1ba4ba41acbee83956f2a4e6d"), looks := false }, kinds := [], alts := [], laidByText := true, laidKinds := [.data], laidTests := true, laidLooks := .later }
def MerkleBackCardSaid : Prop := Claim7.holds Tryd.pinned (.plain (OpenSpec.ofChange merkleBackSpec)) merkleBackCard

/-- THE SECOND FORM's CARD OF 'certpathlaw12.MerkleGenerate'. -/
def merkleGenerateUptoCard : Claim7 := { stood := { row := merkleGenerateUptoRow, standIns := [], harness := (true, "69b0822651db7ac39ed92ea331f1aa2294a1b1f1ba4ba41acbee83956f2a4e6d"), looks := false }, kinds := [], alts := [], laidByText := true, laidKinds := [.data], laidTests := true, laidLooks := .later }
def MerkleGenerateUptoCardSaid : Prop := Claim7.holds Tryd.pinned (.plain (OpenSpec.upto merkleGenerateSpec)) merkleGenerateUptoCard

/-- THE SECOND FORM's CARD OF 'certpathlaw12.MerkleErrors'. -/
def merkleErrorsUptoCard : Claim7 := { stood := { row := merkleErrorsUptoRow, standIns := [], harness := (true, "69b0822651db7ac39ed92ea331f1aa2294a1b1f1ba4ba41acbee83956f2a4e6d"), looks := false }, kinds := [], alts := [], laidByText := true, laidKinds := [.data], laidTests := true, laidLooks := .later }
def MerkleErrorsUptoCardSaid : Prop := Claim7.holds Tryd.pinned (.plain (OpenSpec.upto merkleErrorsSpec)) merkleErrorsUptoCard

/-- THE SECOND FORM's CARD OF 'certpathlaw12.MerkleSign'. -/
def merkleSignUptoCard : Claim7 := { stood := { row := merkleSignUptoRow, standIns := [], harness := (true, "69b0822651db7ac39ed92ea331f1aa2294a1b1f1ba4ba41acbee83956f2a4e6d"), looks := false }, kinds := [], alts := [], laidByText := true, laidKinds := [.data], laidTests := true, laidLooks := .later }
def MerkleSignUptoCardSaid : Prop := Claim7.holds Tryd.pinned (.plain (OpenSpec.upto merkleSignSpec)) merkleSignUptoCard

/-- THE SECOND FORM's CARD OF 'certpathlaw12.MerkleVerify'. -/
def merkleVerifyUptoCard : Claim7 := { stood := { row := merkleVerifyUptoRow, standIns := [], harness := (true, "69b0822651db7ac39ed92ea331f1aa2294a1b1f1ba4ba41acbee83956f2a4e6d"), looks := false }, kinds := [], alts := [], laidByText := true, laidKinds := [.data], laidTests := true, laidLooks := .later }
def MerkleVerifyUptoCardSaid : Prop := Claim7.holds Tryd.pinned (.plain (OpenSpec.upto merkleVerifySpec)) merkleVerifyUptoCard

/-- THE SECOND FORM's CARD OF 'certpathlaw12.MerkleRaw'. -/
def merkleRawUptoCard : Claim7 := { stood := { row := merkleRawUptoRow, standIns := [], harness := (true, "69b0822651db7ac39ed92ea331f1aa2294a1b1f1ba4ba41acbee83956f2a4e6d"), looks := false }, kinds := [], alts := [], laidByText := true, laidKinds := [.data], laidTests := true, laidLooks := .later }
def MerkleRawUptoCardSaid : Prop := Claim7.holds Tryd.pinned (.plain (OpenSpec.upto merkleRawSpec)) merkleRawUptoCard

/-- THE SECOND FORM's CARD OF 'certpathlaw12.MerkleBack'. -/
def merkleBackUptoCard : Claim7 := { stood := { row := merkleBackUptoRow, standIns := [], harness := (true, "69b0822651db7ac39ed92ea331f1aa2294a1b1f1ba4ba41acbee83956f2a4e6d"), looks := false }, kinds := [], alts := [], laidByText := true, laidKinds := [.data], laidTests := true, laidLooks := .later }
def MerkleBackUptoCardSaid : Prop := Claim7.holds Tryd.pinned (.plain (OpenSpec.upto merkleBackSpec)) merkleBackUptoCard
end Rows
end Go.Proofs.YtnmcocolahgfnaaDoor
