/-
  DERIVED. GIVEN WITH THE SEED: THE CARDS: each row of YtphgpakfdhdklaaDoorRows.lean that lists a variable, with what it lists TIED to the program's text (the seventh form; the later family's looks); each row that meets fmt, with fmt's text TOLD by the authors' own Lean function (tested against real Go, not proved from fmt's source: count such statements apart). THE CARD IS WHAT COUNTS. Prove the row's statement (the work); the ties are given (YtphgpakfdhdklaaDoorTie.lean); close each card by the builder's one call (the guide's Derived/Test/ToyasCard.lean, 'card_holds'). Laid BY PROGRAM, IN A SANDBOX (cutbox-door.mjs). By AI agents, Wed Nov 11 2026. No macro, syntax, notation, axiom, sorry.
-/
import Derived.Test.YtphgpakfdhdklaaDoorRows
import GoSem.ClaimSeven
namespace Go.Proofs.YtphgpakfdhdklaaDoor
namespace Rows

/-- THE TIED CARD OF 'certpathlaw13.SignerPlays'. -/
def signerPlaysCard : Claim7 := { stood := { row := signerPlaysRow, standIns := [], harness := (true, "22ce0d059a8ca797d2b3374a2625216897fd91a6e6585fde48db8e12cb562b9b"), looks := false }, kinds := [], alts := [], laidByText := true, laidKinds := [.data], laidTests := true, laidLooks := .later }
def SignerPlaysCardSaid : Prop := Claim7.holds Tryd.pinned (.plain (OpenSpec.ofChange signerPlaysSpec)) signerPlaysCard

/-- THE TIED CARD OF 'certpathlaw13.SignerErrors'. -/
def signerErrorsCard : Claim7 := { stood := { row := signerErrorsRow, standIns := [], harness := (true, "22ce0d059a8ca797d2b3374a2625216897fd91a6e6585fde48db8e12cb562b9b"), looks := false }, kinds := [], alts := [], laidByText := true, laidKinds := [.data], laidTests := true, laidLooks := .later }
def SignerErrorsCardSaid : Prop := Claim7.holds Tryd.pinned (.plain (OpenSpec.ofChange signerErrorsSpec)) signerErrorsCard

/-- THE TIED CARD OF 'certpathlaw13.SignerLoad'. -/
def signerLoadCard : Claim7 := { stood := { row := signerLoadRow, standIns := [], harness := (true, "22ce0d059a8ca797d2b3374a2625216897fd91a6e6585fde48db8e12cb562b9b"), looks := false }, kinds := [], alts := [], laidByText := true, laidKinds := [.data], laidTests := true, laidLooks := .later }
def SignerLoadCardSaid : Prop := Claim7.holds Tryd.pinned (.plain (OpenSpec.ofChange signerLoadSpec)) signerLoadCard

/-- THE TIED CARD OF 'certpathlaw13.SignerNever'. -/
def signerNeverCard : Claim7 := { stood := { row := signerNeverRow, standIns := [], harness := (true, "22ce0d059a8ca797d2b3374a2625216897fd91a6e6585fde48db8e12cb562b9b"), looks := false }, kinds := [], alts := [], laidByText := true, laidKinds := [.data], laidTests := true, laidLooks := .later }
def SignerNeverCardSaid : Prop := Claim7.holds Tryd.pinned (.plain (OpenSpec.ofChange signerNeverSpec)) signerNeverCard

/-- THE TIED CARD OF 'certpathlaw13.SignerVerifies'. -/
def signerVerifiesCard : Claim7 := { stood := { row := signerVerifiesRow, standIns := [], harness := (true, "22ce0d059a8ca797d2b3374a2625216897fd91a6e6585fde48db8e12cb562b9b"), looks := false }, kinds := [], alts := [], laidByText := true, laidKinds := [.data], laidTests := true, laidLooks := .later }
def SignerVerifiesCardSaid : Prop := Claim7.holds Tryd.pinned (.plain (OpenSpec.ofChange signerVerifiesSpec)) signerVerifiesCard

/-- THE SECOND FORM's CARD OF 'certpathlaw13.SignerPlays'. -/
def signerPlaysUptoCard : Claim7 := { stood := { row := signerPlaysUptoRow, standIns := [], harness := (true, "22ce0d059a8ca797d2b3374a2625216897fd91a6e6585fde48db8e12cb562b9b"), looks := false }, kinds := [], alts := [], laidByText := true, laidKinds := [.data], laidTests := true, laidLooks := .later }
def SignerPlaysUptoCardSaid : Prop := Claim7.holds Tryd.pinned (.plain (OpenSpec.upto signerPlaysSpec)) signerPlaysUptoCard

/-- THE SECOND FORM's CARD OF 'certpathlaw13.SignerErrors'. -/
def signerErrorsUptoCard : Claim7 := { stood := { row := signerErrorsUptoRow, standIns := [], harness := (true, "22ce0d059a8ca797d2b3374a2625216897fd91a6e6585fde48db8e12cb562b9b"), looks := false }, kinds := [], alts := [], laidByText := true, laidKinds := [.data], laidTests := true, laidLooks := .later }
def SignerErrorsUptoCardSaid : Prop := Claim7.holds Tryd.pinned (.plain (OpenSpec.upto signerErrorsSpec)) signerErrorsUptoCard

/-- THE SECOND FORM's CARD OF 'certpathlaw13.SignerLoad'. -/
def signerLoadUptoCard : Claim7 := { stood := { row := signerLoadUptoRow, standIns := [], harness := (true, "22ce0d059a8ca797d2b3374a2625216897fd91a6e6585fde48db8e12cb562b9b"), looks := false }, kinds := [], alts := [], laidByText := true, laidKinds := [.data], laidTests := true, laidLooks := .later }
def SignerLoadUptoCardSaid : Prop := Claim7.holds Tryd.pinned (.plain (OpenSpec.upto signerLoadSpec)) signerLoadUptoCard

/-- THE SECOND FORM's CARD OF 'certpathlaw13.SignerNever'. -/
def signerNeverUptoCard : Claim7 := { stood := { row := signerNeverUptoRow, standIns := [], harness := (true, "22ce0d059a8ca797d2b3374a2625216897fd91a6e6585fde48db8e12cb562b9b"), looks := false }, kinds := [], alts := [], laidByText := true, laidKinds := [.data], laidTests := true, laidLooks := .later }
def SignerNeverUptoCardSaid : Prop := Claim7.holds Tryd.pinned (.plain (OpenSpec.upto signerNeverSpec)) signerNeverUptoCard

/-- THE SECOND FORM's CARD OF 'certpathlaw13.SignerVerifies'. -/
def signerVerifiesUptoCard : Claim7 := { stood := { row := signerVerifiesUptoRow, standIns := [], harness := (true, "22ce0d059a8ca797d2b3374a2625216897fd91a6e6585fde48db8e12cb562b9b"), looks := false }, kinds := [], alts := [], laidByText := true, laidKinds := [.data], laidTests := true, laidLooks := .later }
def SignerVerifiesUptoCardSaid : Prop := Claim7.holds Tryd.pinned (.plain (OpenSpec.upto signerVerifiesSpec)) signerVerifiesUptoCard
end Rows
end Go.Proofs.YtphgpakfdhdklaaDoor
