/-
  DERIVED. GIVEN WITH THE SEED: THE CARDS: each row of YtoickijglahipaaDoorRows.lean that lists a variable, with what it lists TIED to the program's text (the seventh form; the later family's looks); each row that meets fmt, with fmt's text TOLD by the authors' own Lean function (tested against real Go, not proved from fmt's source: count such statements apart). THE CARD IS WHAT COUNTS. Prove the row's statement (the work); the ties are given (YtoickijglahipaaDoorTie.lean); close each card by the builder's one call (the guide's Derived/Test/ToyasCard.lean, 'card_holds'). Laid BY PROGRAM, IN A SANDBOX (cutbox-door.mjs). By AI agents, Wed Nov 11 2026. No macro, syntax, notation, axiom, sorry.
-/
import Derived.Test.YtoickijglahipaaDoorRows
import GoSem.ClaimSeven
namespace Go.Proofs.YtoickijglahipaaDoor
namespace Rows

/-- THE TIED CARD OF 'certpathlaw01.HashSum'. -/
def hashSumCard : Claim7 := { stood := { row := hashSumRow, standIns := [], harness := (true, "38f449f17426220280ba321e8d5970f93aeef62af9144146c152813234e0d56e"), looks := false }, kinds := [], alts := [], laidByText := true, laidKinds := [.data], laidTests := true, laidLooks := .later }
def HashSumCardSaid : Prop := Claim7.holds Tryd.pinned (.plain (OpenSpec.ofChange hashSumSpec)) hashSumCard

/-- THE TIED CARD OF 'certpathlaw01.HashLengths'. -/
def hashLengthsCard : Claim7 := { stood := { row := hashLengthsRow, standIns := [], harness := (true, "38f449f17426220280ba321e8d5970f93aeef62af9144146c152813234e0d56e"), looks := false }, kinds := [], alts := [], laidByText := true, laidKinds := [.data], laidTests := true, laidLooks := .later }
def HashLengthsCardSaid : Prop := Claim7.holds Tryd.pinned (.plain (OpenSpec.ofChange hashLengthsSpec)) hashLengthsCard

/-- THE TIED CARD OF 'certpathlaw01.HashHex'. -/
def hashHexCard : Claim7 := { stood := { row := hashHexRow, standIns := [], harness := (true, "38f449f17426220280ba321e8d5970f93aeef62af9144146c152813234e0d56e"), looks := false }, kinds := [], alts := [], laidByText := true, laidKinds := [.data], laidTests := true, laidLooks := .later }
def HashHexCardSaid : Prop := Claim7.holds Tryd.pinned (.plain (OpenSpec.ofChange hashHexSpec)) hashHexCard

/-- THE TIED CARD OF 'certpathlaw01.HashStream'. -/
def hashStreamCard : Claim7 := { stood := { row := hashStreamRow, standIns := [], harness := (true, "38f449f17426220280ba321e8d5970f93aeef62af9144146c152813234e0d56e"), looks := false }, kinds := [], alts := [], laidByText := true, laidKinds := [.data], laidTests := true, laidLooks := .later }
def HashStreamCardSaid : Prop := Claim7.holds Tryd.pinned (.plain (OpenSpec.ofChange hashStreamSpec)) hashStreamCard

/-- THE TIED CARD OF 'certpathlaw01.HashParts'. -/
def hashPartsCard : Claim7 := { stood := { row := hashPartsRow, standIns := [], harness := (true, "38f449f17426220280ba321e8d5970f93aeef62af9144146c152813234e0d56e"), looks := false }, kinds := [], alts := [], laidByText := true, laidKinds := [.data], laidTests := true, laidLooks := .later }
def HashPartsCardSaid : Prop := Claim7.holds Tryd.pinned (.plain (OpenSpec.ofChange hashPartsSpec)) hashPartsCard

/-- THE SECOND FORM's CARD OF 'certpathlaw01.HashSum'. -/
def hashSumUptoCard : Claim7 := { stood := { row := hashSumUptoRow, standIns := [], harness := (true, "38f449f17426220280ba321e8d5970f93aeef62af9144146c152813234e0d56e"), looks := false }, kinds := [], alts := [], laidByText := true, laidKinds := [.data], laidTests := true, laidLooks := .later }
def HashSumUptoCardSaid : Prop := Claim7.holds Tryd.pinned (.plain (OpenSpec.upto hashSumSpec)) hashSumUptoCard

/-- THE SECOND FORM's CARD OF 'certpathlaw01.HashLengths'. -/
def hashLengthsUptoCard : Claim7 := { stood := { row := hashLengthsUptoRow, standIns := [], harness := (true, "38f449f17426220280ba321e8d5970f93aeef62af9144146c152813234e0d56e"), looks := false }, kinds := [], alts := [], laidByText := true, laidKinds := [.data], laidTests := true, laidLooks := .later }
def HashLengthsUptoCardSaid : Prop := Claim7.holds Tryd.pinned (.plain (OpenSpec.upto hashLengthsSpec)) hashLengthsUptoCard

/-- THE SECOND FORM's CARD OF 'certpathlaw01.HashHex'. -/
def hashHexUptoCard : Claim7 := { stood := { row := hashHexUptoRow, standIns := [], harness := (true, "38f449f17426220280ba321e8d5970f93aeef62af9144146c152813234e0d56e"), looks := false }, kinds := [], alts := [], laidByText := true, laidKinds := [.data], laidTests := true, laidLooks := .later }
def HashHexUptoCardSaid : Prop := Claim7.holds Tryd.pinned (.plain (OpenSpec.upto hashHexSpec)) hashHexUptoCard

/-- THE SECOND FORM's CARD OF 'certpathlaw01.HashStream'. -/
def hashStreamUptoCard : Claim7 := { stood := { row := hashStreamUptoRow, standIns := [], harness := (true, "38f449f17426220280ba321e8d5970f93aeef62af9144146c152813234e0d56e"), looks := false }, kinds := [], alts := [], laidByText := true, laidKinds := [.data], laidTests := true, laidLooks := .later }
def HashStreamUptoCardSaid : Prop := Claim7.holds Tryd.pinned (.plain (OpenSpec.upto hashStreamSpec)) hashStreamUptoCard

/-- THE SECOND FORM's CARD OF 'certpathlaw01.HashParts'. -/
def hashPartsUptoCard : Claim7 := { stood := { row := hashPartsUptoRow, standIns := [], harness := (true, "38f449f17426220280ba321e8d5970f93aeef62af9144146c152813234e0d56e"), looks := false }, kinds := [], alts := [], laidByText := true, laidKinds := [.data], laidTests := true, laidLooks := .later }
def HashPartsUptoCardSaid : Prop := Claim7.holds Tryd.pinned (.plain (OpenSpec.upto hashPartsSpec)) hashPartsUptoCard
end Rows
end Go.Proofs.YtoickijglahipaaDoor
