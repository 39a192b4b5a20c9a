/-
  NARROWER THAN 'FOR EVERY INPUT', by the rows' own cells (each row's printed sentence says how): OtsPublic: laid · OtsSign: laid · OtsErrors: laid · OtsRecover: laid · OtsBack: laid.
  DERIVED. THE GIVEN ROWS OF THIS SEAT. 5 by the template 'for every input the law returns true; each argument reads behind the call as it read before'; 0 by the template 'total and deterministic' (their statements: YtbmphhiafepnoaaDoorTotals.lean).
  GIVEN WITH THE SEED: the statements are not yours to turn. If you find one false, say at which input.
  Laid BY PROGRAM, IN A SANDBOX (cutbox-rows.mjs): the forced cells as the released guide's own fill.sh prints them over the translation a200e23a40a31274… (all of the seat's roots in one cut). By AI agents, Wed Nov 11 2026. No macro, syntax, notation, axiom, sorry.
-/
import Derived.Test.YtbmphhiafepnoaaDoorChecked
import GoSem.Claim
import GoSem.ClaimJoined
import GoSem.ClaimMapViews
import Derived.JoinedTies
import Derived.KernelRfl
namespace Go.Proofs.YtbmphhiafepnoaaDoor
/- THE CELL 'sum', in the pinned program and in every row, IS THE sha256 OF THE DUMP (.gsa) THAT YtbmphhiafepnoaaDoorProg.lean LOADS. Nothing in Lean hashes anything: it is a label: what it is worth is what the hold of that sum in a sandbox is worth. -/
noncomputable def Tryd.pinned : Pinned := { name := "ytbmphhiafepnoaadoor", sum := "a200e23a40a31274b59044cb6ebfc8fec1959a243940f452cbdb1d5a3072d5c1", checked := Tryd.checked }
namespace Rows
def none {H : Type} : Left H := { results := [], args := [] }

/- WHAT THE LISTED PACKAGE-LEVEL VARIABLES READ AS WHEN THE CALL BEGINS. Each datum BY PROGRAM (the guide's laid-datum.mjs) off the statement by which the dump's own 'gosem.cut.vars' lays the variable. In a bare row this is a premise. The card (YtbmphhiafepnoaaDoorCards.lean) ties it to the program's text. -/
def laid_certpath_hash_roundConstants {H : Type} : DataW H := .agg [.lit (.int .u32 1116352408), .lit (.int .u32 1899447441), .lit (.int .u32 3049323471), .lit (.int .u32 3921009573), .lit (.int .u32 961987163), .lit (.int .u32 1508970993), .lit (.int .u32 2453635748), .lit (.int .u32 2870763221), .lit (.int .u32 3624381080), .lit (.int .u32 310598401), .lit (.int .u32 607225278), .lit (.int .u32 1426881987), .lit (.int .u32 1925078388), .lit (.int .u32 2162078206), .lit (.int .u32 2614888103), .lit (.int .u32 3248222580), .lit (.int .u32 3835390401), .lit (.int .u32 4022224774), .lit (.int .u32 264347078), .lit (.int .u32 604807628), .lit (.int .u32 770255983), .lit (.int .u32 1249150122), .lit (.int .u32 1555081692), .lit (.int .u32 1996064986), .lit (.int .u32 2554220882), .lit (.int .u32 2821834349), .lit (.int .u32 2952996808), .lit (.int .u32 3210313671), .lit (.int .u32 3336571891), .lit (.int .u32 3584528711), .lit (.int .u32 113926993), .lit (.int .u32 338241895), .lit (.int .u32 666307205), .lit (.int .u32 773529912), .lit (.int .u32 1294757372), .lit (.int .u32 1396182291), .lit (.int .u32 1695183700), .lit (.int .u32 1986661051), .lit (.int .u32 2177026350), .lit (.int .u32 2456956037), .lit (.int .u32 2730485921), .lit (.int .u32 2820302411), .lit (.int .u32 3259730800), .lit (.int .u32 3345764771), .lit (.int .u32 3516065817), .lit (.int .u32 3600352804), .lit (.int .u32 4094571909), .lit (.int .u32 275423344), .lit (.int .u32 430227734), .lit (.int .u32 506948616), .lit (.int .u32 659060556), .lit (.int .u32 883997877), .lit (.int .u32 958139571), .lit (.int .u32 1322822218), .lit (.int .u32 1537002063), .lit (.int .u32 1747873779), .lit (.int .u32 1955562222), .lit (.int .u32 2024104815), .lit (.int .u32 2227730452), .lit (.int .u32 2361852424), .lit (.int .u32 2428436474), .lit (.int .u32 2756734187), .lit (.int .u32 3204031479), .lit (.int .u32 3329325298)]

/-- 'certpathlaw11.OtsPublic': WHATEVER THE INPUT: true; the input reads as it did. -/
def otsPublicSpec : ChangeSpec := { name := "otsPublic", fn := fun _ => fun
  | [d1, d2, d3] => { results := [.lit (.bool true)], args := [d1, d2, d3] }
  | _ => none }
def otsPublicRow : OpenClaim := { program := "ytbmphhiafepnoaadoor", sum := "a200e23a40a31274b59044cb6ebfc8fec1959a243940f452cbdb1d5a3072d5c1", func := "certpath/certpathlaw11.OtsPublic", spec := "otsPublic", unfollowed := true, recurses := true, named := ["certpath/hash.roundConstants"], apart := false, laid := [("certpath/hash.roundConstants", laid_certpath_hash_roundConstants)] }
def OtsPublicSaid : Prop := otsPublicRow.holds Tryd.pinned (OpenSpec.ofChange otsPublicSpec)

/-- ITS FALSE NEIGHBOUR: 'it returns false'. Refute it at one input. -/
def otsPublicWrong : ChangeSpec := { name := "otsPublic", fn := fun _ => fun
  | [d1, d2, d3] => { results := [.lit (.bool false)], args := [d1, d2, d3] }
  | _ => none }
def OtsPublicWrongFalsely : Prop := otsPublicRow.holds Tryd.pinned (OpenSpec.ofChange otsPublicWrong)

/-- 'certpathlaw11.OtsSign': WHATEVER THE INPUT: true; the input reads as it did. -/
def otsSignSpec : ChangeSpec := { name := "otsSign", fn := fun _ => fun
  | [d1, d2, d3] => { results := [.lit (.bool true)], args := [d1, d2, d3] }
  | _ => none }
def otsSignRow : OpenClaim := { program := "ytbmphhiafepnoaadoor", sum := "a200e23a40a31274b59044cb6ebfc8fec1959a243940f452cbdb1d5a3072d5c1", func := "certpath/certpathlaw11.OtsSign", spec := "otsSign", unfollowed := true, recurses := true, named := ["certpath/hash.roundConstants"], apart := false, laid := [("certpath/hash.roundConstants", laid_certpath_hash_roundConstants)] }
def OtsSignSaid : Prop := otsSignRow.holds Tryd.pinned (OpenSpec.ofChange otsSignSpec)

/-- ITS FALSE NEIGHBOUR: 'it returns false'. Refute it at one input. -/
def otsSignWrong : ChangeSpec := { name := "otsSign", fn := fun _ => fun
  | [d1, d2, d3] => { results := [.lit (.bool false)], args := [d1, d2, d3] }
  | _ => none }
def OtsSignWrongFalsely : Prop := otsSignRow.holds Tryd.pinned (OpenSpec.ofChange otsSignWrong)

/-- 'certpathlaw11.OtsErrors': WHATEVER THE INPUT: true; the input reads as it did. -/
def otsErrorsSpec : ChangeSpec := { name := "otsErrors", fn := fun _ => fun
  | [d1, d2, d3, d4, d5, d6] => { results := [.lit (.bool true)], args := [d1, d2, d3, d4, d5, d6] }
  | _ => none }
def otsErrorsRow : OpenClaim := { program := "ytbmphhiafepnoaadoor", sum := "a200e23a40a31274b59044cb6ebfc8fec1959a243940f452cbdb1d5a3072d5c1", func := "certpath/certpathlaw11.OtsErrors", spec := "otsErrors", unfollowed := true, recurses := true, named := ["certpath/hash.roundConstants"], apart := false, laid := [("certpath/hash.roundConstants", laid_certpath_hash_roundConstants)] }
def OtsErrorsSaid : Prop := otsErrorsRow.holds Tryd.pinned (OpenSpec.ofChange otsErrorsSpec)

/-- ITS FALSE NEIGHBOUR: 'it returns false'. Refute it at one input. -/
def otsErrorsWrong : ChangeSpec := { name := "otsErrors", fn := fun _ => fun
  | [d1, d2, d3, d4, d5, d6] => { results := [.lit (.bool false)], args := [d1, d2, d3, d4, d5, d6] }
  | _ => none }
def OtsErrorsWrongFalsely : Prop := otsErrorsRow.holds Tryd.pinned (OpenSpec.ofChange otsErrorsWrong)

/-- 'certpathlaw11.OtsRecover': WHATEVER THE INPUT: true; the input reads as it did. -/
def otsRecoverSpec : ChangeSpec := { name := "otsRecover", fn := fun _ => fun
  | [d1, d2, d3, d4, d5] => { results := [.lit (.bool true)], args := [d1, d2, d3, d4, d5] }
  | _ => none }
def otsRecoverRow : OpenClaim := { program := "ytbmphhiafepnoaadoor", sum := "a200e23a40a31274b59044cb6ebfc8fec1959a243940f452cbdb1d5a3072d5c1", func := "certpath/certpathlaw11.OtsRecover", spec := "otsRecover", unfollowed := true, recurses := true, named := ["certpath/hash.roundConstants"], apart := false, laid := [("certpath/hash.roundConstants", laid_certpath_hash_roundConstants)] }
def OtsRecoverSaid : Prop := otsRecoverRow.holds Tryd.pinned (OpenSpec.ofChange otsRecoverSpec)

/-- ITS FALSE NEIGHBOUR: 'it returns false'. Refute it at one input. -/
def otsRecoverWrong : ChangeSpec := { name := "otsRecover", fn := fun _ => fun
  | [d1, d2, d3, d4, d5] => { results := [.lit (.bool false)], args := [d1, d2, d3, d4, d5] }
  | _ => none }
def OtsRecoverWrongFalsely : Prop := otsRecoverRow.holds Tryd.pinned (OpenSpec.ofChange otsRecoverWrong)

/-- 'certpathlaw11.OtsBack': WHATEVER THE INPUT: true; the input reads as it did. -/
def otsBackSpec : ChangeSpec := { name := "otsBack", fn := fun _ => fun
  | [d1, d2, d3] => { results := [.lit (.bool true)], args := [d1, d2, d3] }
  | _ => none }
def otsBackRow : OpenClaim := { program := "ytbmphhiafepnoaadoor", sum := "a200e23a40a31274b59044cb6ebfc8fec1959a243940f452cbdb1d5a3072d5c1", func := "certpath/certpathlaw11.OtsBack", spec := "otsBack", unfollowed := true, recurses := true, named := ["certpath/hash.roundConstants"], apart := false, laid := [("certpath/hash.roundConstants", laid_certpath_hash_roundConstants)] }
def OtsBackSaid : Prop := otsBackRow.holds Tryd.pinned (OpenSpec.ofChange otsBackSpec)

/-- ITS FALSE NEIGHBOUR: 'it returns false'. Refute it at one input. -/
def otsBackWrong : ChangeSpec := { name := "otsBack", fn := fun _ => fun
  | [d1, d2, d3] => { results := [.lit (.bool false)], args := [d1, d2, d3] }
  | _ => none }
def OtsBackWrongFalsely : Prop := otsBackRow.holds Tryd.pinned (OpenSpec.ofChange otsBackWrong)

/- THE SECOND FORM. 'bulk': how many values and letters a reading holds, each counted each time it is reached (what is shared counts as often as it is met; a slice's spare places count too). A statement '..UptoSaid' is the law's where the arguments, and the package variables that the reading takes, are together of bulk at most 1048576: NARROWER than '..Said'. Prove '..Said' where nothing that the law and all that it calls make is longer than what came in: it says more and counts as full. Else prove '..UptoSaid'. A law counts once. -/
mutual
def uptoBulk {H : Type} : DataW H → Nat
  | .lit (.string bytes) => bytes.length + 1
  | .lit _ => 1
  | .nil => 1
  | .ptr d => uptoBulk d + 1
  | .slice elems spare => uptoBulkAll elems + uptoBulkAll spare + 1
  | .agg parts => uptoBulkAll parts + 1
  | .iface _ d => uptoBulk d + 1
  | .map entries => uptoBulkEntries entries + 1
  | .held _ => 1
def uptoBulkAll {H : Type} : List (DataW H) → Nat
  | [] => 0
  | d :: r => uptoBulk d + uptoBulkAll r
def uptoBulkEntries {H : Type} : List (Lit × DataW H) → Nat
  | [] => 0
  | x :: r => uptoBulkEntry x + uptoBulkEntries r
def uptoBulkEntry {H : Type} : Lit × DataW H → Nat
  | (.string bytes, d) => bytes.length + uptoBulk d + 1
  | (_, d) => uptoBulk d + 1
 end
def uptoSmall : (H : Type) → List (DataW H) → Bool := fun _ ds => decide (uptoBulkAll ds ≤ 1048576)
def OpenSpec.upto (s : _root_.Go.ChangeSpec) : _root_.Go.OpenSpec := { _root_.Go.OpenSpec.ofChange s with cond := some uptoSmall }

/-- 'certpathlaw11.OtsPublic', WHERE WHAT IT READS IS OF BULK AT MOST 1048576: true; the input reads as it did. -/
def otsPublicUptoRow : OpenClaim := { program := "ytbmphhiafepnoaadoor", sum := "a200e23a40a31274b59044cb6ebfc8fec1959a243940f452cbdb1d5a3072d5c1", func := "certpath/certpathlaw11.OtsPublic", spec := "otsPublic", unfollowed := true, recurses := true, named := ["certpath/hash.roundConstants"], apart := false, laid := [("certpath/hash.roundConstants", laid_certpath_hash_roundConstants)], narrowed := true }
def OtsPublicUptoSaid : Prop := otsPublicUptoRow.holds Tryd.pinned (OpenSpec.upto otsPublicSpec)

/-- 'certpathlaw11.OtsSign', WHERE WHAT IT READS IS OF BULK AT MOST 1048576: true; the input reads as it did. -/
def otsSignUptoRow : OpenClaim := { program := "ytbmphhiafepnoaadoor", sum := "a200e23a40a31274b59044cb6ebfc8fec1959a243940f452cbdb1d5a3072d5c1", func := "certpath/certpathlaw11.OtsSign", spec := "otsSign", unfollowed := true, recurses := true, named := ["certpath/hash.roundConstants"], apart := false, laid := [("certpath/hash.roundConstants", laid_certpath_hash_roundConstants)], narrowed := true }
def OtsSignUptoSaid : Prop := otsSignUptoRow.holds Tryd.pinned (OpenSpec.upto otsSignSpec)

/-- 'certpathlaw11.OtsErrors', WHERE WHAT IT READS IS OF BULK AT MOST 1048576: true; the input reads as it did. -/
def otsErrorsUptoRow : OpenClaim := { program := "ytbmphhiafepnoaadoor", sum := "a200e23a40a31274b59044cb6ebfc8fec1959a243940f452cbdb1d5a3072d5c1", func := "certpath/certpathlaw11.OtsErrors", spec := "otsErrors", unfollowed := true, recurses := true, named := ["certpath/hash.roundConstants"], apart := false, laid := [("certpath/hash.roundConstants", laid_certpath_hash_roundConstants)], narrowed := true }
def OtsErrorsUptoSaid : Prop := otsErrorsUptoRow.holds Tryd.pinned (OpenSpec.upto otsErrorsSpec)

/-- 'certpathlaw11.OtsRecover', WHERE WHAT IT READS IS OF BULK AT MOST 1048576: true; the input reads as it did. -/
def otsRecoverUptoRow : OpenClaim := { program := "ytbmphhiafepnoaadoor", sum := "a200e23a40a31274b59044cb6ebfc8fec1959a243940f452cbdb1d5a3072d5c1", func := "certpath/certpathlaw11.OtsRecover", spec := "otsRecover", unfollowed := true, recurses := true, named := ["certpath/hash.roundConstants"], apart := false, laid := [("certpath/hash.roundConstants", laid_certpath_hash_roundConstants)], narrowed := true }
def OtsRecoverUptoSaid : Prop := otsRecoverUptoRow.holds Tryd.pinned (OpenSpec.upto otsRecoverSpec)

/-- 'certpathlaw11.OtsBack', WHERE WHAT IT READS IS OF BULK AT MOST 1048576: true; the input reads as it did. -/
def otsBackUptoRow : OpenClaim := { program := "ytbmphhiafepnoaadoor", sum := "a200e23a40a31274b59044cb6ebfc8fec1959a243940f452cbdb1d5a3072d5c1", func := "certpath/certpathlaw11.OtsBack", spec := "otsBack", unfollowed := true, recurses := true, named := ["certpath/hash.roundConstants"], apart := false, laid := [("certpath/hash.roundConstants", laid_certpath_hash_roundConstants)], narrowed := true }
def OtsBackUptoSaid : Prop := otsBackUptoRow.holds Tryd.pinned (OpenSpec.upto otsBackSpec)

end Rows
end Go.Proofs.YtbmphhiafepnoaaDoor
