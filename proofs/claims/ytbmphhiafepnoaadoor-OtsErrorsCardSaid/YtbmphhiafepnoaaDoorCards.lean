/-
  DERIVED. GIVEN WITH THE SEED: THE CARDS: each row of YtbmphhiafepnoaaDoorRows.lean that lists a variable, with what it lists TIED to the program's text (the seventh form; the later family's looks); each row that meets fmt, with fmt's text TOLD by the authors' own Lean function (tested against real Go, not proved from fmt's source: count such statements apart). THE CARD IS WHAT COUNTS. Prove the row's statement (the work); the ties are given (YtbmphhiafepnoaaDoorTie.lean); close each card by the builder's one call (the guide's Derived/Test/ToyasCard.lean, 'card_holds'). Laid BY PROGRAM, IN A SANDBOX (cutbox-door.mjs). By AI agents, Wed Nov 11 2026. No macro, syntax, notation, axiom, sorry.
-/
import Derived.Test.YtbmphhiafepnoaaDoorRows
import GoSem.ClaimSeven
namespace Go.Proofs.YtbmphhiafepnoaaDoor
namespace Rows

/-- THE TIED CARD OF 'certpathlaw11.OtsPublic'. -/
def otsPublicCard : Claim7 := { stood := { row := otsPublicRow, standIns := [], harness := (true, "37fa2ccf2f0c2c48f8030cda39c20e793d1b49efe341ddfd47ba0fe97044fc12"), looks := false }, kinds := [], alts := [], laidByText := true, laidKinds := [.data], laidTests := true, laidLooks := .later }
def OtsPublicCardSaid : Prop := Claim7.holds Tryd.pinned (.plain (OpenSpec.ofChange otsPublicSpec)) otsPublicCard

/-- THE TIED CARD OF 'certpathlaw11.OtsSign'. -/
def otsSignCard : Claim7 := { stood := { row := otsSignRow, standIns := [], harness := (true, "37fa2ccf2f0c2c48f8030cda39c20e793d1b49efe341ddfd47ba0fe97044fc12"), looks := false }, kinds := [], alts := [], laidByText := true, laidKinds := [.data], laidTests := true, laidLooks := .later }
def OtsSignCardSaid : Prop := Claim7.holds Tryd.pinned (.plain (OpenSpec.ofChange otsSignSpec)) otsSignCard

/-- THE TIED CARD OF 'certpathlaw11.OtsErrors'. -/
def otsErrorsCard : Claim7 := { stood := { row := otsErrorsRow, standIns := [], harness := (true, "37fa2ccf2f0c2c48f8030cda39c20e793d1b49efe341ddfd47ba0fe97044fc12"), looks := false }, kinds := [], alts := [], laidByText := true, laidKinds := [.data], laidTests := true, laidLooks := .later }
def OtsErrorsCardSaid : Prop := Claim7.holds Tryd.pinned (.plain (OpenSpec.ofChange otsErrorsSpec)) otsErrorsCard

/-- THE TIED CARD OF 'certpathlaw11.OtsRecover'. -/
def otsRecoverCard : Claim7 := { stood := { row := otsRecoverRow, standIns := [], harness := (true, "37fa2ccf2f0c2c48f8030cda39c20e793d1b49efe341ddfd47ba0fe97044fc12"), looks := false }, kinds := [], alts := [], laidByText := true, laidKinds := [.data], laidTests := true, laidLooks := .later }
def OtsRecoverCardSaid : Prop := Claim7.holds Tryd.pinned (.plain (OpenSpec.ofChange otsRecoverSpec)) otsRecoverCard

/-- THE TIED CARD OF 'certpathlaw11.OtsBack'. -/
def otsBackCard : Claim7 := { stood := { row := otsBackRow, standIns := [], harness := (true, "37fa2ccf2f0c2c48f8030cda39c20e793d1b49efe341ddfd47ba0fe97044fc12"), looks := false }, kinds := [], alts := [], laidByText := true, laidKinds := [.data], laidTests := true, laidLooks := .later }
def OtsBackCardSaid : Prop := Claim7.holds Tryd.pinned (.plain (OpenSpec.ofChange otsBackSpec)) otsBackCard

/-- THE SECOND FORM's CARD OF 'certpathlaw11.OtsPublic'. -/
def otsPublicUptoCard : Claim7 := { stood := { row := otsPublicUptoRow, standIns := [], harness := (true, "37fa2ccf2f0c2c48f8030cda39c20e793d1b49efe341ddfd47ba0fe97044fc12"), looks := false }, kinds := [], alts := [], laidByText := true, laidKinds := [.data], laidTests := true, laidLooks := .later }
def OtsPublicUptoCardSaid : Prop := Claim7.holds Tryd.pinned (.plain (OpenSpec.upto otsPublicSpec)) otsPublicUptoCard

/-- THE SECOND FORM's CARD OF 'certpathlaw11.OtsSign'. -/
def otsSignUptoCard : Claim7 := { stood := { row := otsSignUptoRow, standIns := [], harness := (true, "37fa2ccf2f0c2c48f8030cda39c20e793d1b49efe341ddfd47ba0fe97044fc12"), looks := false }, kinds := [], alts := [], laidByText := true, laidKinds := [.data], laidTests := true, laidLooks := .later }
def OtsSignUptoCardSaid : Prop := Claim7.holds Tryd.pinned (.plain (OpenSpec.upto otsSignSpec)) otsSignUptoCard

/-- THE SECOND FORM's CARD OF 'certpathlaw11.OtsErrors'. -/
def otsErrorsUptoCard : Claim7 := { stood := { row := otsErrorsUptoRow, standIns := [], harness := (true, "37fa2ccf2f0c2c48f8030cda39c20e793d1b49efe341ddfd47ba0fe97044fc12"), looks := false }, kinds := [], alts := [], laidByText := true, laidKinds := [.data], laidTests := true, laidLooks := .later }
def OtsErrorsUptoCardSaid : Prop := Claim7.holds Tryd.pinned (.plain (OpenSpec.upto otsErrorsSpec)) otsErrorsUptoCard

/-- THE SECOND FORM's CARD OF 'certpathlaw11.OtsRecover'. -/
def otsRecoverUptoCard : Claim7 := { stood := { row := otsRecoverUptoRow, standIns := [], harness := (true, "37fa2ccf2f0c2c48f8030cda39c20e793d1b49efe341ddfd47ba0fe97044fc12"), looks := false }, kinds := [], alts := [], laidByText := true, laidKinds := [.data], laidTests := true, laidLooks := .later }
def OtsRecoverUptoCardSaid : Prop := Claim7.holds Tryd.pinned (.plain (OpenSpec.upto otsRecoverSpec)) otsRecoverUptoCard

/-- THE SECOND FORM's CARD OF 'certpathlaw11.OtsBack'. -/
def otsBackUptoCard : Claim7 := { stood := { row := otsBackUptoRow, standIns := [], harness := (true, "37fa2ccf2f0c2c48f8030cda39c20e793d1b49efe341ddfd47ba0fe97044fc12"), looks := false }, kinds := [], alts := [], laidByText := true, laidKinds := [.data], laidTests := true, laidLooks := .later }
def OtsBackUptoCardSaid : Prop := Claim7.holds Tryd.pinned (.plain (OpenSpec.upto otsBackSpec)) otsBackUptoCard
end Rows
end Go.Proofs.YtbmphhiafepnoaaDoor
