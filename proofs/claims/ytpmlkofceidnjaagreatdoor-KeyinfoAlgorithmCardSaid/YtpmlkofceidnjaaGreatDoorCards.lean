/-
  DERIVED. GIVEN WITH THE SEED: THE CARDS: each row of YtpmlkofceidnjaaGreatDoorRows.lean that lists a variable, with what it lists TIED to the program's text (the seventh form; the later family's looks); each row that meets fmt, with fmt's text TOLD by the authors' own Lean function (tested against real Go, not proved from fmt's source: count such statements apart). THE CARD IS WHAT COUNTS. Prove the row's statement (the work); the ties are given (YtpmlkofceidnjaaGreatDoorTie.lean); close each card by the builder's one call (the guide's Derived/Test/ToyasCard.lean, 'card_holds'). Laid BY PROGRAM, IN A SANDBOX (cutbox-door.mjs). By AI agents, Wed Nov 11 2026. No macro, syntax, notation, axiom, sorry.
-/
import Derived.Test.YtpmlkofceidnjaaGreatDoorRows
import GoSem.ClaimSeven
namespace Go.Proofs.YtpmlkofceidnjaaGreatDoor
namespace Rows

/-- THE TIED CARD OF 'certpathlaw14.KeyinfoEncode'. -/
def keyinfoEncodeCard : Claim7 := { stood := { row := keyinfoEncodeRow, standIns := [], harness := (true, "5f3009d9154f491f45b5672fdaefed739baaeb0e058d2df41be52e06e7595cd4"), looks := false }, kinds := [], alts := [], laidByText := true, laidKinds := [.data, .data, .data, .data, .data, .pinned], laidTests := true, laidLooks := .later }
def KeyinfoEncodeCardSaid : Prop := Claim7.holds Tryz.pinned (.plain (OpenSpec.ofChange keyinfoEncodeSpec)) keyinfoEncodeCard

/-- THE TIED CARD OF 'certpathlaw14.KeyinfoDecode'. -/
def keyinfoDecodeCard : Claim7 := { stood := { row := keyinfoDecodeRow, standIns := [], harness := (true, "5f3009d9154f491f45b5672fdaefed739baaeb0e058d2df41be52e06e7595cd4"), looks := false }, kinds := [], alts := [], laidByText := true, laidKinds := [.data, .data, .data, .data, .pinned], laidTests := true, laidLooks := .later }
def KeyinfoDecodeCardSaid : Prop := Claim7.holds Tryz.pinned (.plain (OpenSpec.ofChange keyinfoDecodeSpec)) keyinfoDecodeCard

/-- THE TIED CARD OF 'certpathlaw14.KeyinfoAlgorithm'. -/
def keyinfoAlgorithmCard : Claim7 := { stood := { row := keyinfoAlgorithmRow, standIns := [], harness := (true, "5f3009d9154f491f45b5672fdaefed739baaeb0e058d2df41be52e06e7595cd4"), looks := false }, kinds := [], alts := [], laidByText := true, laidKinds := [.data, .data, .data, .data, .pinned], laidTests := true, laidLooks := .later }
def KeyinfoAlgorithmCardSaid : Prop := Claim7.holds Tryz.pinned (.plain (OpenSpec.ofChange keyinfoAlgorithmSpec)) keyinfoAlgorithmCard

/-- THE SECOND FORM's CARD OF 'certpathlaw14.KeyinfoEncode'. -/
def keyinfoEncodeUptoCard : Claim7 := { stood := { row := keyinfoEncodeUptoRow, standIns := [], harness := (true, "5f3009d9154f491f45b5672fdaefed739baaeb0e058d2df41be52e06e7595cd4"), looks := false }, kinds := [], alts := [], laidByText := true, laidKinds := [.data, .data, .data, .data, .data, .pinned], laidTests := true, laidLooks := .later }
def KeyinfoEncodeUptoCardSaid : Prop := Claim7.holds Tryz.pinned (.plain (OpenSpec.upto keyinfoEncodeSpec)) keyinfoEncodeUptoCard

/-- THE SECOND FORM's CARD OF 'certpathlaw14.KeyinfoDecode'. -/
def keyinfoDecodeUptoCard : Claim7 := { stood := { row := keyinfoDecodeUptoRow, standIns := [], harness := (true, "5f3009d9154f491f45b5672fdaefed739baaeb0e058d2df41be52e06e7595cd4"), looks := false }, kinds := [], alts := [], laidByText := true, laidKinds := [.data, .data, .data, .data, .pinned], laidTests := true, laidLooks := .later }
def KeyinfoDecodeUptoCardSaid : Prop := Claim7.holds Tryz.pinned (.plain (OpenSpec.upto keyinfoDecodeSpec)) keyinfoDecodeUptoCard

/-- THE SECOND FORM's CARD OF 'certpathlaw14.KeyinfoAlgorithm'. -/
def keyinfoAlgorithmUptoCard : Claim7 := { stood := { row := keyinfoAlgorithmUptoRow, standIns := [], harness := (true, "5f3009d9154f491f45b5672fdaefed739baaeb0e058d2df41be52e06e7595cd4"), looks := false }, kinds := [], alts := [], laidByText := true, laidKinds := [.data, .data, .data, .data, .pinned], laidTests := true, laidLooks := .later }
def KeyinfoAlgorithmUptoCardSaid : Prop := Claim7.holds Tryz.pinned (.plain (OpenSpec.upto keyinfoAlgorithmSpec)) keyinfoAlgorithmUptoCard
end Rows
end Go.Proofs.YtpmlkofceidnjaaGreatDoor
