/-
  NARROWER THAN 'FOR EVERY INPUT', by the rows' own cells (each row's printed sentence says how): NameMany: laid · NameMatch: laid · NameOrder: laid · NameParse: laid.
  DERIVED. THE GIVEN ROWS OF THIS SEAT. 4 by the template 'for every input the law returns true; each argument reads behind the call as it read before'; 0 by the template 'total and deterministic' (their statements: YtfpfgdbfigdooaaDoorTotals.lean).
  GIVEN WITH THE SEED: the statements are not yours to turn. If you find one false, say at which input.
  Laid BY PROGRAM, IN A SANDBOX (cutbox-rows.mjs): the forced cells as the released guide's own fill.sh prints them over the translation 15fc7bf0b3636a07… (all of the seat's roots in one cut). By AI agents, Wed Nov 11 2026. No macro, syntax, notation, axiom, sorry.
-/
import Derived.Test.YtfpfgdbfigdooaaDoorChecked
import GoSem.PinnedTables
import GoSem.Claim
import GoSem.ClaimJoined
import GoSem.ClaimMapViews
import Derived.JoinedTies
import Derived.KernelRfl
namespace Go.Proofs.YtfpfgdbfigdooaaDoor
/- THE CELL 'sum', in the pinned program and in every row, IS THE sha256 OF THE DUMP (.gsa) THAT YtfpfgdbfigdooaaDoorProg.lean LOADS. Nothing in Lean hashes anything: it is a label: what it is worth is what the hold of that sum in a sandbox is worth. -/
noncomputable def Tryd.pinned : Pinned := { name := "ytfpfgdbfigdooaadoor", sum := "15fc7bf0b3636a0708c7d7e02c3e2577b78dae723c42abb11c3e7767c26d672c", checked := Tryd.checked }
namespace Rows
def none {H : Type} : Left H := { results := [], args := [] }

/- WHAT THE LISTED PACKAGE-LEVEL VARIABLES READ AS WHEN THE CALL BEGINS. Each datum BY PROGRAM (the guide's laid-datum.mjs) off the statement by which the dump's own 'gosem.cut.vars' lays the variable. In a bare row this is a premise. The card (YtfpfgdbfigdooaaDoorCards.lean) ties it to the program's text. -/
def laid_unicode_utf8_acceptRanges {H : Type} : DataW H := .agg [.agg [.lit (.int .u8 128), .lit (.int .u8 191)], .agg [.lit (.int .u8 160), .lit (.int .u8 191)], .agg [.lit (.int .u8 128), .lit (.int .u8 159)], .agg [.lit (.int .u8 144), .lit (.int .u8 191)], .agg [.lit (.int .u8 128), .lit (.int .u8 143)], .agg [.lit (.int .u8 0), .lit (.int .u8 0)], .agg [.lit (.int .u8 0), .lit (.int .u8 0)], .agg [.lit (.int .u8 0), .lit (.int .u8 0)], .agg [.lit (.int .u8 0), .lit (.int .u8 0)], .agg [.lit (.int .u8 0), .lit (.int .u8 0)], .agg [.lit (.int .u8 0), .lit (.int .u8 0)], .agg [.lit (.int .u8 0), .lit (.int .u8 0)], .agg [.lit (.int .u8 0), .lit (.int .u8 0)], .agg [.lit (.int .u8 0), .lit (.int .u8 0)], .agg [.lit (.int .u8 0), .lit (.int .u8 0)], .agg [.lit (.int .u8 0), .lit (.int .u8 0)]]
def laid_certpath_dname_shortTypes {H : Type} : DataW H := .agg [.agg [.lit (.string [67, 78]), .lit (.string [50, 46, 53, 46, 52, 46, 51])], .agg [.lit (.string [67]), .lit (.string [50, 46, 53, 46, 52, 46, 54])], .agg [.lit (.string [76]), .lit (.string [50, 46, 53, 46, 52, 46, 55])], .agg [.lit (.string [79]), .lit (.string [50, 46, 53, 46, 52, 46, 49, 48])], .agg [.lit (.string [79, 85]), .lit (.string [50, 46, 53, 46, 52, 46, 49, 49])], .agg [.lit (.string [68, 67]), .lit (.string [48, 46, 57, 46, 50, 51, 52, 50, 46, 49, 57, 50, 48, 48, 51, 48, 48, 46, 49, 48, 48, 46, 49, 46, 50, 53])], .agg [.lit (.string [69]), .lit (.string [49, 46, 50, 46, 56, 52, 48, 46, 49, 49, 51, 53, 52, 57, 46, 49, 46, 57, 46, 49])]]
/-- One of Go's own tables, pinned by name: the form's constant. -/
def laid_unicode_utf8_first : DataW Unit := Go.Pinned.utf8First

/-- 'certpathlaw07.NameMany': WHATEVER THE INPUT: true; the input reads as it did. -/
def nameManySpec : ChangeSpec := { name := "nameMany", fn := fun _ => fun
  | [d1, d2, d3] => { results := [.lit (.bool true)], args := [d1, d2, d3] }
  | _ => none }
def nameManyRow : OpenClaim := { program := "ytfpfgdbfigdooaadoor", sum := "15fc7bf0b3636a0708c7d7e02c3e2577b78dae723c42abb11c3e7767c26d672c", func := "certpath/certpathlaw07.NameMany", spec := "nameMany", inPlace := ["internal/bytealg.CountString", "internal/bytealg.IndexByteString", "internal/bytealg.IndexString"], unfollowed := true, recurses := true, named := ["unicode/utf8.first", "unicode/utf8.acceptRanges", "internal/bytealg.MaxLen", "certpath/dname.shortTypes"], plainKeys := false, apart := false, laid := [("unicode/utf8.acceptRanges", laid_unicode_utf8_acceptRanges), ("certpath/dname.shortTypes", laid_certpath_dname_shortTypes), ("unicode/utf8.first", laid_unicode_utf8_first)] }
def NameManySaid : Prop := nameManyRow.holds Tryd.pinned (OpenSpec.ofChange nameManySpec)

/-- ITS FALSE NEIGHBOUR: 'it returns false'. Refute it at one input. -/
def nameManyWrong : ChangeSpec := { name := "nameMany", fn := fun _ => fun
  | [d1, d2, d3] => { results := [.lit (.bool false)], args := [d1, d2, d3] }
  | _ => none }
def NameManyWrongFalsely : Prop := nameManyRow.holds Tryd.pinned (OpenSpec.ofChange nameManyWrong)

/-- 'certpathlaw07.NameMatch': WHATEVER THE INPUT: true; the input reads as it did. -/
def nameMatchSpec : ChangeSpec := { name := "nameMatch", fn := fun _ => fun
  | [d1, d2, d3] => { results := [.lit (.bool true)], args := [d1, d2, d3] }
  | _ => none }
def nameMatchRow : OpenClaim := { program := "ytfpfgdbfigdooaadoor", sum := "15fc7bf0b3636a0708c7d7e02c3e2577b78dae723c42abb11c3e7767c26d672c", func := "certpath/certpathlaw07.NameMatch", spec := "nameMatch", inPlace := ["internal/bytealg.CountString", "internal/bytealg.IndexByteString", "internal/bytealg.IndexString"], unfollowed := true, recurses := true, named := ["unicode/utf8.first", "unicode/utf8.acceptRanges", "internal/bytealg.MaxLen", "certpath/dname.shortTypes"], plainKeys := false, apart := false, laid := [("unicode/utf8.acceptRanges", laid_unicode_utf8_acceptRanges), ("certpath/dname.shortTypes", laid_certpath_dname_shortTypes), ("unicode/utf8.first", laid_unicode_utf8_first)] }
def NameMatchSaid : Prop := nameMatchRow.holds Tryd.pinned (OpenSpec.ofChange nameMatchSpec)

/-- ITS FALSE NEIGHBOUR: 'it returns false'. Refute it at one input. -/
def nameMatchWrong : ChangeSpec := { name := "nameMatch", fn := fun _ => fun
  | [d1, d2, d3] => { results := [.lit (.bool false)], args := [d1, d2, d3] }
  | _ => none }
def NameMatchWrongFalsely : Prop := nameMatchRow.holds Tryd.pinned (OpenSpec.ofChange nameMatchWrong)

/-- 'certpathlaw07.NameOrder': WHATEVER THE INPUT: true; the input reads as it did. -/
def nameOrderSpec : ChangeSpec := { name := "nameOrder", fn := fun _ => fun
  | [d] => { results := [.lit (.bool true)], args := [d] }
  | _ => none }
def nameOrderRow : OpenClaim := { program := "ytfpfgdbfigdooaadoor", sum := "15fc7bf0b3636a0708c7d7e02c3e2577b78dae723c42abb11c3e7767c26d672c", func := "certpath/certpathlaw07.NameOrder", spec := "nameOrder", inPlace := ["internal/bytealg.CountString", "internal/bytealg.IndexByteString", "internal/bytealg.IndexString"], unfollowed := true, recurses := true, named := ["unicode/utf8.first", "unicode/utf8.acceptRanges", "internal/bytealg.MaxLen", "certpath/dname.shortTypes"], plainKeys := false, apart := false, laid := [("unicode/utf8.acceptRanges", laid_unicode_utf8_acceptRanges), ("certpath/dname.shortTypes", laid_certpath_dname_shortTypes), ("unicode/utf8.first", laid_unicode_utf8_first)] }
def NameOrderSaid : Prop := nameOrderRow.holds Tryd.pinned (OpenSpec.ofChange nameOrderSpec)

/-- ITS FALSE NEIGHBOUR: 'it returns false'. Refute it at one input. -/
def nameOrderWrong : ChangeSpec := { name := "nameOrder", fn := fun _ => fun
  | [d] => { results := [.lit (.bool false)], args := [d] }
  | _ => none }
def NameOrderWrongFalsely : Prop := nameOrderRow.holds Tryd.pinned (OpenSpec.ofChange nameOrderWrong)

/-- 'certpathlaw07.NameParse': WHATEVER THE INPUT: true; the input reads as it did. -/
def nameParseSpec : ChangeSpec := { name := "nameParse", fn := fun _ => fun
  | [d1, d2] => { results := [.lit (.bool true)], args := [d1, d2] }
  | _ => none }
def nameParseRow : OpenClaim := { program := "ytfpfgdbfigdooaadoor", sum := "15fc7bf0b3636a0708c7d7e02c3e2577b78dae723c42abb11c3e7767c26d672c", func := "certpath/certpathlaw07.NameParse", spec := "nameParse", inPlace := ["internal/bytealg.CountString", "internal/bytealg.IndexByteString", "internal/bytealg.IndexString"], unfollowed := true, recurses := true, named := ["unicode/utf8.first", "unicode/utf8.acceptRanges", "internal/bytealg.MaxLen", "certpath/dname.shortTypes"], plainKeys := false, apart := false, laid := [("unicode/utf8.acceptRanges", laid_unicode_utf8_acceptRanges), ("certpath/dname.shortTypes", laid_certpath_dname_shortTypes), ("unicode/utf8.first", laid_unicode_utf8_first)] }
def NameParseSaid : Prop := nameParseRow.holds Tryd.pinned (OpenSpec.ofChange nameParseSpec)

/-- ITS FALSE NEIGHBOUR: 'it returns false'. Refute it at one input. -/
def nameParseWrong : ChangeSpec := { name := "nameParse", fn := fun _ => fun
  | [d1, d2] => { results := [.lit (.bool false)], args := [d1, d2] }
  | _ => none }
def NameParseWrongFalsely : Prop := nameParseRow.holds Tryd.pinned (OpenSpec.ofChange nameParseWrong)

/- THE SECOND FORM. 'bulk': how many values and letters a reading holds, each counted each time it is reached (what is shared counts as often as it is met; a slice's spare places count too). A statement '..UptoSaid' is the law's where the arguments, and the package variables that the reading takes, are together of bulk at most 1048576: NARROWER than '..Said'. Prove '..Said' where nothing that the law and all that it calls make is longer than what came in: it says more and counts as full. Else prove '..UptoSaid'. A law counts once. -/
mutual
def uptoBulk {H : Type} : DataW H → Nat
  | .lit (.string bytes) => bytes.length + 1
  | .lit _ => 1
  | .nil => 1
  | .ptr d => uptoBulk d + 1
  | .slice elems spare => uptoBulkAll elems + uptoBulkAll spare + 1
  | .agg parts => uptoBulkAll parts + 1
  | .iface _ d => uptoBulk d + 1
  | .map entries => uptoBulkEntries entries + 1
  | .held _ => 1
def uptoBulkAll {H : Type} : List (DataW H) → Nat
  | [] => 0
  | d :: r => uptoBulk d + uptoBulkAll r
def uptoBulkEntries {H : Type} : List (Lit × DataW H) → Nat
  | [] => 0
  | x :: r => uptoBulkEntry x + uptoBulkEntries r
def uptoBulkEntry {H : Type} : Lit × DataW H → Nat
  | (.string bytes, d) => bytes.length + uptoBulk d + 1
  | (_, d) => uptoBulk d + 1
 end
def uptoSmall : (H : Type) → List (DataW H) → Bool := fun _ ds => decide (uptoBulkAll ds ≤ 1048576)
def OpenSpec.upto (s : _root_.Go.ChangeSpec) : _root_.Go.OpenSpec := { _root_.Go.OpenSpec.ofChange s with cond := some uptoSmall }

/-- 'certpathlaw07.NameMany', WHERE WHAT IT READS IS OF BULK AT MOST 1048576: true; the input reads as it did. -/
def nameManyUptoRow : OpenClaim := { program := "ytfpfgdbfigdooaadoor", sum := "15fc7bf0b3636a0708c7d7e02c3e2577b78dae723c42abb11c3e7767c26d672c", func := "certpath/certpathlaw07.NameMany", spec := "nameMany", inPlace := ["internal/bytealg.CountString", "internal/bytealg.IndexByteString", "internal/bytealg.IndexString"], unfollowed := true, recurses := true, named := ["unicode/utf8.first", "unicode/utf8.acceptRanges", "internal/bytealg.MaxLen", "certpath/dname.shortTypes"], plainKeys := false, apart := false, laid := [("unicode/utf8.acceptRanges", laid_unicode_utf8_acceptRanges), ("certpath/dname.shortTypes", laid_certpath_dname_shortTypes), ("unicode/utf8.first", laid_unicode_utf8_first)], narrowed := true }
def NameManyUptoSaid : Prop := nameManyUptoRow.holds Tryd.pinned (OpenSpec.upto nameManySpec)

/-- 'certpathlaw07.NameMatch', WHERE WHAT IT READS IS OF BULK AT MOST 1048576: true; the input reads as it did. -/
def nameMatchUptoRow : OpenClaim := { program := "ytfpfgdbfigdooaadoor", sum := "15fc7bf0b3636a0708c7d7e02c3e2577b78dae723c42abb11c3e7767c26d672c", func := "certpath/certpathlaw07.NameMatch", spec := "nameMatch", inPlace := ["internal/bytealg.CountString", "internal/bytealg.IndexByteString", "internal/bytealg.IndexString"], unfollowed := true, recurses := true, named := ["unicode/utf8.first", "unicode/utf8.acceptRanges", "internal/bytealg.MaxLen", "certpath/dname.shortTypes"], plainKeys := false, apart := false, laid := [("unicode/utf8.acceptRanges", laid_unicode_utf8_acceptRanges), ("certpath/dname.shortTypes", laid_certpath_dname_shortTypes), ("unicode/utf8.first", laid_unicode_utf8_first)], narrowed := true }
def NameMatchUptoSaid : Prop := nameMatchUptoRow.holds Tryd.pinned (OpenSpec.upto nameMatchSpec)

/-- 'certpathlaw07.NameOrder', WHERE WHAT IT READS IS OF BULK AT MOST 1048576: true; the input reads as it did. -/
def nameOrderUptoRow : OpenClaim := { program := "ytfpfgdbfigdooaadoor", sum := "15fc7bf0b3636a0708c7d7e02c3e2577b78dae723c42abb11c3e7767c26d672c", func := "certpath/certpathlaw07.NameOrder", spec := "nameOrder", inPlace := ["internal/bytealg.CountString", "internal/bytealg.IndexByteString", "internal/bytealg.IndexString"], unfollowed := true, recurses := true, named := ["unicode/utf8.first", "unicode/utf8.acceptRanges", "internal/bytealg.MaxLen", "certpath/dname.shortTypes"], plainKeys := false, apart := false, laid := [("unicode/utf8.acceptRanges", laid_unicode_utf8_acceptRanges), ("certpath/dname.shortTypes", laid_certpath_dname_shortTypes), ("unicode/utf8.first", laid_unicode_utf8_first)], narrowed := true }
def NameOrderUptoSaid : Prop := nameOrderUptoRow.holds Tryd.pinned (OpenSpec.upto nameOrderSpec)

/-- 'certpathlaw07.NameParse', WHERE WHAT IT READS IS OF BULK AT MOST 1048576: true; the input reads as it did. -/
def nameParseUptoRow : OpenClaim := { program := "ytfpfgdbfigdooaadoor", sum := "15fc7bf0b3636a0708c7d7e02c3e2577b78dae723c42abb11c3e7767c26d672c", func := "certpath/certpathlaw07.NameParse", spec := "nameParse", inPlace := ["internal/bytealg.CountString", "internal/bytealg.IndexByteString", "internal/bytealg.IndexString"], unfollowed := true, recurses := true, named := ["unicode/utf8.first", "unicode/utf8.acceptRanges", "internal/bytealg.MaxLen", "certpath/dname.shortTypes"], plainKeys := false, apart := false, laid := [("unicode/utf8.acceptRanges", laid_unicode_utf8_acceptRanges), ("certpath/dname.shortTypes", laid_certpath_dname_shortTypes), ("unicode/utf8.first", laid_unicode_utf8_first)], narrowed := true }
def NameParseUptoSaid : Prop := nameParseUptoRow.holds Tryd.pinned (OpenSpec.upto nameParseSpec)

end Rows
end Go.Proofs.YtfpfgdbfigdooaaDoor
