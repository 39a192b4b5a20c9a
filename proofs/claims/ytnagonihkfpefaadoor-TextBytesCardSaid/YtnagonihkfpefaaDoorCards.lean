/-
  DERIVED. GIVEN WITH THE SEED: THE CARDS: each row of YtnagonihkfpefaaDoorRows.lean that lists a variable, with what it lists TIED to the program's text (the seventh form; the later family's looks); each row that meets fmt, with fmt's text TOLD by the authors' own Lean function (tested against real Go, not proved from fmt's source: count such statements apart). THE CARD IS WHAT COUNTS. Prove the row's statement (the work); the ties are given (YtnagonihkfpefaaDoorTie.lean); close each card by the builder's one call (the guide's Derived/Test/ToyasCard.lean, 'card_holds'). Laid BY PROGRAM, IN A SANDBOX (cutbox-door.mjs). By AI agents, Wed Nov 11 2026. No macro, syntax, notation, axiom, sorry.
-/
import Derived.Test.YtnagonihkfpefaaDoorRows
import GoSem.ClaimSeven
namespace Go.Proofs.YtnagonihkfpefaaDoor
namespace Rows

/-- THE TIED CARD OF 'certpathlaw06.TextValid'. -/
def textValidCard : Claim7 := { stood := { row := textValidRow, standIns := [], harness := (true, "fa13f6a2440974cb0dd522626fdabd32e5fc04beb2e3f1fd24a0fd5e40d164fd"), looks := false }, kinds := [], alts := [], laidByText := true, laidKinds := [.data, .pinned], laidTests := true, laidLooks := .later }
def TextValidCardSaid : Prop := Claim7.holds Tryd.pinned (.plain (OpenSpec.ofChange textValidSpec)) textValidCard

/-- THE TIED CARD OF 'certpathlaw06.TextBytes'. -/
def textBytesCard : Claim7 := { stood := { row := textBytesRow, standIns := [], harness := (true, "fa13f6a2440974cb0dd522626fdabd32e5fc04beb2e3f1fd24a0fd5e40d164fd"), looks := false }, kinds := [], alts := [], laidByText := true, laidKinds := [.data, .pinned], laidTests := true, laidLooks := .later }
def TextBytesCardSaid : Prop := Claim7.holds Tryd.pinned (.plain (OpenSpec.ofChange textBytesSpec)) textBytesCard

/-- THE TIED CARD OF 'certpathlaw06.TextFold'. -/
def textFoldCard : Claim7 := { stood := { row := textFoldRow, standIns := [], harness := (true, "fa13f6a2440974cb0dd522626fdabd32e5fc04beb2e3f1fd24a0fd5e40d164fd"), looks := false }, kinds := [], alts := [], laidByText := true, laidKinds := [.data, .pinned], laidTests := true, laidLooks := .later }
def TextFoldCardSaid : Prop := Claim7.holds Tryd.pinned (.plain (OpenSpec.ofChange textFoldSpec)) textFoldCard

/-- THE TIED CARD OF 'certpathlaw06.TextMatch'. -/
def textMatchCard : Claim7 := { stood := { row := textMatchRow, standIns := [], harness := (true, "fa13f6a2440974cb0dd522626fdabd32e5fc04beb2e3f1fd24a0fd5e40d164fd"), looks := false }, kinds := [], alts := [], laidByText := true, laidKinds := [.data, .pinned], laidTests := true, laidLooks := .later }
def TextMatchCardSaid : Prop := Claim7.holds Tryd.pinned (.plain (OpenSpec.ofChange textMatchSpec)) textMatchCard

/-- THE TIED CARD OF 'certpathlaw06.TextEscape'. -/
def textEscapeCard : Claim7 := { stood := { row := textEscapeRow, standIns := [], harness := (true, "fa13f6a2440974cb0dd522626fdabd32e5fc04beb2e3f1fd24a0fd5e40d164fd"), looks := false }, kinds := [], alts := [], laidByText := true, laidKinds := [.data, .pinned], laidTests := true, laidLooks := .later }
def TextEscapeCardSaid : Prop := Claim7.holds Tryd.pinned (.plain (OpenSpec.ofChange textEscapeSpec)) textEscapeCard

/-- THE SECOND FORM's CARD OF 'certpathlaw06.TextValid'. -/
def textValidUptoCard : Claim7 := { stood := { row := textValidUptoRow, standIns := [], harness := (true, "fa13f6a2440974cb0dd522626fdabd32e5fc04beb2e3f1fd24a0fd5e40d164fd"), looks := false }, kinds := [], alts := [], laidByText := true, laidKinds := [.data, .pinned], laidTests := true, laidLooks := .later }
def TextValidUptoCardSaid : Prop := Claim7.holds Tryd.pinned (.plain (OpenSpec.upto textValidSpec)) textValidUptoCard

/-- THE SECOND FORM's CARD OF 'certpathlaw06.TextBytes'. -/
def textBytesUptoCard : Claim7 := { stood := { row := textBytesUptoRow, standIns := [], harness := (true, "fa13f6a2440974cb0dd522626fdabd32e5fc04beb2e3f1fd24a0fd5e40d164fd"), looks := false }, kinds := [], alts := [], laidByText := true, laidKinds := [.data, .pinned], laidTests := true, laidLooks := .later }
def TextBytesUptoCardSaid : Prop := Claim7.holds Tryd.pinned (.plain (OpenSpec.upto textBytesSpec)) textBytesUptoCard

/-- THE SECOND FORM's CARD OF 'certpathlaw06.TextFold'. -/
def textFoldUptoCard : Claim7 := { stood := { row := textFoldUptoRow, standIns := [], harness := (true, "fa13f6a2440974cb0dd522626fdabd32e5fc04beb2e3f1fd24a0fd5e40d164fd"), looks := false }, kinds := [], alts := [], laidByText := true, laidKinds := [.data, .pinned], laidTests := true, laidLooks := .later }
def TextFoldUptoCardSaid : Prop := Claim7.holds Tryd.pinned (.plain (OpenSpec.upto textFoldSpec)) textFoldUptoCard

/-- THE SECOND FORM's CARD OF 'certpathlaw06.TextMatch'. -/
def textMatchUptoCard : Claim7 := { stood := { row := textMatchUptoRow, standIns := [], harness := (true, "fa13f6a2440974cb0dd522626fdabd32e5fc04beb2e3f1fd24a0fd5e40d164fd"), looks := false }, kinds := [], alts := [], laidByText := true, laidKinds := [.data, .pinned], laidTests := true, laidLooks := .later }
def TextMatchUptoCardSaid : Prop := Claim7.holds Tryd.pinned (.plain (OpenSpec.upto textMatchSpec)) textMatchUptoCard

/-- THE SECOND FORM's CARD OF 'certpathlaw06.TextEscape'. -/
def textEscapeUptoCard : Claim7 := { stood := { row := textEscapeUptoRow, standIns := [], harness := (true, "fa13f6a2440974cb0dd522626fdabd32e5fc04beb2e3f1fd24a0fd5e40d164fd"), looks := false }, kinds := [], alts := [], laidByText := true, laidKinds := [.data, .pinned], laidTests := true, laidLooks := .later }
def TextEscapeUptoCardSaid : Prop := Claim7.holds Tryd.pinned (.plain (OpenSpec.upto textEscapeSpec)) textEscapeUptoCard
end Rows
end Go.Proofs.YtnagonihkfpefaaDoor
