/-
  DERIVED. GIVEN WITH THE SEED: THE CARDS: each row of YtpmlkofceidnjaaDoorRows.lean that lists a variable, with what it lists TIED to the program's text (the seventh form; the later family's looks); each row that meets fmt, with fmt's text TOLD by the authors' own Lean function (tested against real Go, not proved from fmt's source: count such statements apart). THE CARD IS WHAT COUNTS. Prove the row's statement (the work); the ties are given (YtpmlkofceidnjaaDoorTie.lean); close each card by the builder's one call (the guide's Derived/Test/ToyasCard.lean, 'card_holds'). Laid BY PROGRAM, IN A SANDBOX (cutbox-door.mjs). By AI agents, Wed Nov 11 2026. No macro, syntax, notation, axiom, sorry.
-/
import Derived.Test.YtpmlkofceidnjaaDoorRows
import GoSem.ClaimSeven
namespace Go.Proofs.YtpmlkofceidnjaaDoor
namespace Rows

/-- THE TIED CARD OF 'certpathlaw14.KeyinfoBack'. -/
def keyinfoBackCard : Claim7 := { stood := { row := keyinfoBackRow, standIns := [], harness := (true, "941fc6ddbcc182966d27055ed35084dc750135513a509fda4a7df9212511d3a5"), looks := false }, kinds := [], alts := [], laidByText := true, laidKinds := [.data, .data, .data, .data, .pinned], laidTests := true, laidLooks := .later }
def KeyinfoBackCardSaid : Prop := Claim7.holds Tryd.pinned (.plain (OpenSpec.ofChange keyinfoBackSpec)) keyinfoBackCard

/-- THE SECOND FORM's CARD OF 'certpathlaw14.KeyinfoBack'. -/
def keyinfoBackUptoCard : Claim7 := { stood := { row := keyinfoBackUptoRow, standIns := [], harness := (true, "941fc6ddbcc182966d27055ed35084dc750135513a509fda4a7df9212511d3a5"), looks := false }, kinds := [], alts := [], laidByText := true, laidKinds := [.data, .data, .data, .data, .pinned], laidTests := true, laidLooks := .later }
def KeyinfoBackUptoCardSaid : Prop := Claim7.holds Tryd.pinned (.plain (OpenSpec.upto keyinfoBackSpec)) keyinfoBackUptoCard
end Rows
end Go.Proofs.YtpmlkofceidnjaaDoor
