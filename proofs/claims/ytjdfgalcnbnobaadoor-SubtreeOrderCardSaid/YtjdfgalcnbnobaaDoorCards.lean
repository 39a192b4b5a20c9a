/-
  DERIVED. GIVEN WITH THE SEED: THE CARDS: each row of YtjdfgalcnbnobaaDoorRows.lean that lists a variable, with what it lists TIED to the program's text (the seventh form; the later family's looks); each row that meets fmt, with fmt's text TOLD by the authors' own Lean function (tested against real Go, not proved from fmt's source: count such statements apart). THE CARD IS WHAT COUNTS. Prove the row's statement (the work); the ties are given (YtjdfgalcnbnobaaDoorTie.lean); close each card by the builder's one call (the guide's Derived/Test/ToyasCard.lean, 'card_holds'). Laid BY PROGRAM, IN A SANDBOX (cutbox-door.mjs). By AI agents, Wed Nov 11 2026. No macro, syntax, notation, axiom, sorry.
-/
import Derived.Test.YtjdfgalcnbnobaaDoorRows
import GoSem.ClaimSeven
namespace Go.Proofs.YtjdfgalcnbnobaaDoor
namespace Rows

/-- THE TIED CARD OF 'certpathlaw10.SubtreeOrder'. -/
def subtreeOrderCard : Claim7 := { stood := { row := subtreeOrderRow, standIns := [], harness := (true, "6132272af7c7b02411b286511e0375fabbff9ef13d81bd3a630a8c07f1393235"), looks := false }, kinds := [], alts := [], laidByText := true, laidKinds := [.data, .data, .data, .data, .pinned, .pinned], laidTests := true, laidLooks := .later }
def SubtreeOrderCardSaid : Prop := Claim7.holds Tryd.pinned (.plain (OpenSpec.ofChange subtreeOrderSpec)) subtreeOrderCard

/-- THE SECOND FORM's CARD OF 'certpathlaw10.SubtreeOrder'. -/
def subtreeOrderUptoCard : Claim7 := { stood := { row := subtreeOrderUptoRow, standIns := [], harness := (true, "6132272af7c7b02411b286511e0375fabbff9ef13d81bd3a630a8c07f1393235"), looks := false }, kinds := [], alts := [], laidByText := true, laidKinds := [.data, .data, .data, .data, .pinned, .pinned], laidTests := true, laidLooks := .later }
def SubtreeOrderUptoCardSaid : Prop := Claim7.holds Tryd.pinned (.plain (OpenSpec.upto subtreeOrderSpec)) subtreeOrderUptoCard
end Rows
end Go.Proofs.YtjdfgalcnbnobaaDoor
