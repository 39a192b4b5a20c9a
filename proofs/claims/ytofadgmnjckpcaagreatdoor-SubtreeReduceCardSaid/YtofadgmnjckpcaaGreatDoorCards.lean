/-
  DERIVED. GIVEN WITH THE SEED: THE CARDS: each row of YtofadgmnjckpcaaGreatDoorRows.lean that lists a variable, with what it lists TIED to the program's text (the seventh form; the later family's looks); each row that meets fmt, with fmt's text TOLD by the authors' own Lean function (tested against real Go, not proved from fmt's source: count such statements apart). THE CARD IS WHAT COUNTS. Prove the row's statement (the work); the ties are given (YtofadgmnjckpcaaGreatDoorTie.lean); close each card by the builder's one call (the guide's Derived/Test/ToyasCard.lean, 'card_holds'). Laid BY PROGRAM, IN A SANDBOX (cutbox-door.mjs). By AI agents, Wed Nov 11 2026. No macro, syntax, notation, axiom, sorry.
-/
import Derived.Test.YtofadgmnjckpcaaGreatDoorRows
import GoSem.ClaimSeven
namespace Go.Proofs.YtofadgmnjckpcaaGreatDoor
namespace Rows

/-- THE TIED CARD OF 'certpathlaw10.SubtreePermits'. -/
def subtreePermitsCard : Claim7 := { stood := { row := subtreePermitsRow, standIns := [], harness := (true, "32db07931440e5be3678ea7ea53e9313288a1d395fe6ee9efec5446817f37ce4"), looks := false }, kinds := [], alts := [], laidByText := true, laidKinds := [.data, .data, .data, .data, .pinned, .pinned], laidTests := true, laidLooks := .later }
def SubtreePermitsCardSaid : Prop := Claim7.holds Tryz.pinned (.plain (OpenSpec.ofChange subtreePermitsSpec)) subtreePermitsCard

/-- THE TIED CARD OF 'certpathlaw10.SubtreeAll'. -/
def subtreeAllCard : Claim7 := { stood := { row := subtreeAllRow, standIns := [], harness := (true, "32db07931440e5be3678ea7ea53e9313288a1d395fe6ee9efec5446817f37ce4"), looks := false }, kinds := [], alts := [], laidByText := true, laidKinds := [.data, .data, .data, .data, .pinned, .pinned], laidTests := true, laidLooks := .later }
def SubtreeAllCardSaid : Prop := Claim7.holds Tryz.pinned (.plain (OpenSpec.ofChange subtreeAllSpec)) subtreeAllCard

/-- THE TIED CARD OF 'certpathlaw10.SubtreeReduce'. -/
def subtreeReduceCard : Claim7 := { stood := { row := subtreeReduceRow, standIns := [], harness := (true, "32db07931440e5be3678ea7ea53e9313288a1d395fe6ee9efec5446817f37ce4"), looks := false }, kinds := [], alts := [], laidByText := true, laidKinds := [.data, .data, .data, .data, .data, .pinned, .pinned], laidTests := true, laidLooks := .later }
def SubtreeReduceCardSaid : Prop := Claim7.holds Tryz.pinned (.plain (OpenSpec.ofChange subtreeReduceSpec)) subtreeReduceCard

/-- THE TIED CARD OF 'certpathlaw10.SubtreeSame'. -/
def subtreeSameCard : Claim7 := { stood := { row := subtreeSameRow, standIns := [], harness := (true, "32db07931440e5be3678ea7ea53e9313288a1d395fe6ee9efec5446817f37ce4"), looks := false }, kinds := [], alts := [], laidByText := true, laidKinds := [.data, .data, .data, .data, .data, .pinned, .pinned], laidTests := true, laidLooks := .later }
def SubtreeSameCardSaid : Prop := Claim7.holds Tryz.pinned (.plain (OpenSpec.ofChange subtreeSameSpec)) subtreeSameCard

/-- THE SECOND FORM's CARD OF 'certpathlaw10.SubtreePermits'. -/
def subtreePermitsUptoCard : Claim7 := { stood := { row := subtreePermitsUptoRow, standIns := [], harness := (true, "32db07931440e5be3678ea7ea53e9313288a1d395fe6ee9efec5446817f37ce4"), looks := false }, kinds := [], alts := [], laidByText := true, laidKinds := [.data, .data, .data, .data, .pinned, .pinned], laidTests := true, laidLooks := .later }
def SubtreePermitsUptoCardSaid : Prop := Claim7.holds Tryz.pinned (.plain (OpenSpec.upto subtreePermitsSpec)) subtreePermitsUptoCard

/-- THE SECOND FORM's CARD OF 'certpathlaw10.SubtreeAll'. -/
def subtreeAllUptoCard : Claim7 := { stood := { row := subtreeAllUptoRow, standIns := [], harness := (true, "32db07931440e5be3678ea7ea53e9313288a1d395fe6ee9efec5446817f37ce4"), looks := false }, kinds := [], alts := [], laidByText := true, laidKinds := [.data, .data, .data, .data, .pinned, .pinned], laidTests := true, laidLooks := .later }
def SubtreeAllUptoCardSaid : Prop := Claim7.holds Tryz.pinned (.plain (OpenSpec.upto subtreeAllSpec)) subtreeAllUptoCard

/-- THE SECOND FORM's CARD OF 'certpathlaw10.SubtreeReduce'. -/
def subtreeReduceUptoCard : Claim7 := { stood := { row := subtreeReduceUptoRow, standIns := [], harness := (true, "32db07931440e5be3678ea7ea53e9313288a1d395fe6ee9efec5446817f37ce4"), looks := false }, kinds := [], alts := [], laidByText := true, laidKinds := [.data, .data, .data, .data, .data, .pinned, .pinned], laidTests := true, laidLooks := .later }
def SubtreeReduceUptoCardSaid : Prop := Claim7.holds Tryz.pinned (.plain (OpenSpec.upto subtreeReduceSpec)) subtreeReduceUptoCard

/-- THE SECOND FORM's CARD OF 'certpathlaw10.SubtreeSame'. -/
def subtreeSameUptoCard : Claim7 := { stood := { row := subtreeSameUptoRow, standIns := [], harness := (true, "32db07931440e5be3678ea7ea53e9313288a1d395fe6ee9efec5446817f37ce4"), looks := false }, kinds := [], alts := [], laidByText := true, laidKinds := [.data, .data, .data, .data, .data, .pinned, .pinned], laidTests := true, laidLooks := .later }
def SubtreeSameUptoCardSaid : Prop := Claim7.holds Tryz.pinned (.plain (OpenSpec.upto subtreeSameSpec)) subtreeSameUptoCard
end Rows
end Go.Proofs.YtofadgmnjckpcaaGreatDoor
