/-
  The contracts of strings.SplitN at a point, strings.HasPrefix, strings.Join, strconv.Itoa, cmp.Compare and bits.Len: the library's theorems, laid at the program's own numbers. Nothing is claimed of the program beyond its bodies.
  Object identifiers as lists of numbers: their texts, their contents, and that each of both determines the numbers. Nothing is claimed of the program here.
-/
import Derived.Shelf.Strings.Builder1
import Derived.Shelf.Strings.Builder2
import Derived.Shelf.Strings.OnBuilder
import Derived.Shelf.Small.Strs
import Derived.Shelf.Small.Wraps
import Derived.Shelf.Small.Bits
import Derived.Shelf.Strings.Split
import Derived.Shelf.Strings.Prefix
import Derived.Shelf.Strconv.Itoa4
import Derived.Lib.AppendIntMem
import Derived.Test.YtpmlkofceidnjaaGreatDoorChecked
import Derived.Lib.ItoaNum
import Derived.Lib.Split
import Derived.Lib.IndexLaws
import Derived.Lib.IndexBytes
import Derived.Lib.Join
namespace Go.Proofs.YtpmlkofceidnjaaGreatDoor
open Go.Shelf Go.RowKit

def lays156_ren : Go.Shelf.Ren := ⟨fun | 156 => 62 | 165 => 72 | 166 => 74 | 169 => 75 | 240 => 86 | 241 => 87 | 276 => 96 | 277 => 97 | n => n, fun | 31 => 37 | 9 => 9 | 3 => 3 | 4 => 4 | 0 => 0 | 20 => 20 | 72 => 96 | 76 => 100 | 70 => 94 | 37 => 53 | 75 => 99 | 127 => 114 | 164 => 126 | 5 => 5 | 80 => 43 | n => n, fun | n => n⟩
theorem lays156 : Go.Proofs.Lays.n156 Tryz.prog lays156_ren := {
  mixed := by kernel_rfl
  f156 := Tryz.func62.trans (congrArg some (by kernel_rfl))
  f165 := Tryz.func72.trans (congrArg some (by kernel_rfl))
  f166 := Tryz.func74.trans (congrArg some (by kernel_rfl))
  f169 := Tryz.func75.trans (congrArg some (by kernel_rfl))
  f240 := Tryz.func86.trans (congrArg some (by kernel_rfl))
  f241 := Tryz.func87.trans (congrArg some (by kernel_rfl))
  f276 := Tryz.func96.trans (congrArg some (by kernel_rfl))
  f277 := Tryz.func97.trans (congrArg some (by kernel_rfl))
  t0 := Tryz.underlying0
  a0 := Tryz.isAgg0
  z0 := Tryz.sizeOf0
  v0 := Tryz.zeroValue0
  t3 := Tryz.underlying3
  a3 := Tryz.isAgg3
  z3 := Tryz.sizeOf3
  v3 := Tryz.zeroValue3
  t4 := Tryz.underlying4
  a4 := Tryz.isAgg4
  z4 := Tryz.sizeOf4
  v4 := Tryz.zeroValue4
  t9 := Tryz.underlying9
  a9 := Tryz.isAgg9
  z9 := Tryz.sizeOf9
  v9 := Tryz.zeroValue9
  t20 := Tryz.underlying20
  a20 := Tryz.isAgg20
  z20 := Tryz.sizeOf20
  v20 := Tryz.zeroValue20
  t31 := Tryz.underlying37
  a31 := Tryz.isAgg37
  z31 := Tryz.sizeOf37
  v31 := Tryz.zeroValue37
  t37 := Tryz.underlying53
  a37 := Tryz.isAgg53
  z37 := Tryz.sizeOf53
  v37 := Tryz.zeroValue53
  t70 := Tryz.underlying94
  a70 := Tryz.isAgg94
  z70 := Tryz.sizeOf94
  v70 := Tryz.zeroValue94
  t72 := Tryz.underlying96
  a72 := Tryz.isAgg96
  z72 := Tryz.sizeOf96
  v72 := Tryz.zeroValue96
  t75 := Tryz.underlying99
  a75 := Tryz.isAgg99
  z75 := Tryz.sizeOf99
  v75 := Tryz.zeroValue99
  t76 := Tryz.underlying100
  a76 := Tryz.isAgg100
  z76 := Tryz.sizeOf100
  v76 := Tryz.zeroValue100
  t127 := Tryz.underlying114
  a127 := Tryz.isAgg114
  z127 := Tryz.sizeOf114
  v127 := Tryz.zeroValue114
  t164 := Tryz.underlying126
  a164 := Tryz.isAgg126
  z164 := Tryz.sizeOf126
  v164 := Tryz.zeroValue126 }
theorem Builder_Extra_156 : Builder.Extra Tryz.prog lays156_ren := {
  sizeBuilder := by kernel_rfl
  liesBuilder := by kernel_rfl
  t5 := Tryz.underlying5
  a5 := Tryz.isAgg5
  z5 := Tryz.sizeOf5
  v5 := Tryz.zeroValue5
  infoByte := by kernel_rfl
  cellsByte := by kernel_rfl
  sizeByte := by kernel_rfl
  neB5 := by decide }
def lays221_ren : Go.Shelf.Ren := ⟨fun | 138 => 106 | 143 => 107 | 195 => 113 | 197 => 114 | 217 => 120 | 218 => 115 | 219 => 116 | 221 => 93 | 224 => 122 | 225 => 121 | 260 => 119 | 266 => 124 | 267 => 123 | 268 => 105 | 314 => 125 | n => n, fun | 0 => 0 | 3 => 3 | 4 => 4 | 5 => 5 | 9 => 9 | 21 => 21 | 31 => 37 | 46 => 73 | 51 => 88 | 105 => 143 | 119 => 146 | 138 => 148 | 139 => 149 | 146 => 150 | n => n, fun | 1 => 1 | 3 => 5 | 4 => 6 | n => n⟩
theorem lays221 : Go.Proofs.Lays.n221 Tryz.prog lays221_ren := {
  mixed := by kernel_rfl
  f138 := Tryz.func106.trans (congrArg some (by kernel_rfl))
  f143 := Tryz.func107.trans (congrArg some (by kernel_rfl))
  f195 := Tryz.func113.trans (congrArg some (by kernel_rfl))
  f197 := Tryz.func114.trans (congrArg some (by kernel_rfl))
  f217 := Tryz.func120.trans (congrArg some (by kernel_rfl))
  f218 := Tryz.func115.trans (congrArg some (by kernel_rfl))
  f219 := Tryz.func116.trans (congrArg some (by kernel_rfl))
  f221 := Tryz.func93.trans (congrArg some (by kernel_rfl))
  f224 := Tryz.func122.trans (congrArg some (by kernel_rfl))
  f225 := Tryz.func121.trans (congrArg some (by kernel_rfl))
  f260 := Tryz.func119.trans (congrArg some (by kernel_rfl))
  f266 := Tryz.func124.trans (congrArg some (by kernel_rfl))
  f267 := Tryz.func123.trans (congrArg some (by kernel_rfl))
  f268 := Tryz.func105.trans (congrArg some (by kernel_rfl))
  f314 := Tryz.func125.trans (congrArg some (by kernel_rfl))
  t0 := Tryz.underlying0
  a0 := Tryz.isAgg0
  z0 := Tryz.sizeOf0
  v0 := Tryz.zeroValue0
  t3 := Tryz.underlying3
  a3 := Tryz.isAgg3
  z3 := Tryz.sizeOf3
  v3 := Tryz.zeroValue3
  t4 := Tryz.underlying4
  a4 := Tryz.isAgg4
  z4 := Tryz.sizeOf4
  v4 := Tryz.zeroValue4
  t5 := Tryz.underlying5
  a5 := Tryz.isAgg5
  z5 := Tryz.sizeOf5
  v5 := Tryz.zeroValue5
  t9 := Tryz.underlying9
  a9 := Tryz.isAgg9
  z9 := Tryz.sizeOf9
  v9 := Tryz.zeroValue9
  t21 := Tryz.underlying21
  a21 := Tryz.isAgg21
  z21 := Tryz.sizeOf21
  v21 := Tryz.zeroValue21
  t31 := Tryz.underlying37
  a31 := Tryz.isAgg37
  z31 := Tryz.sizeOf37
  v31 := Tryz.zeroValue37
  t46 := Tryz.underlying73
  a46 := Tryz.isAgg73
  z46 := Tryz.sizeOf73
  v46 := Tryz.zeroValue73
  t51 := Tryz.underlying88
  a51 := Tryz.isAgg88
  z51 := Tryz.sizeOf88
  v51 := Tryz.zeroValue88
  t105 := Tryz.underlying143
  a105 := Tryz.isAgg143
  z105 := Tryz.sizeOf143
  v105 := Tryz.zeroValue143
  t119 := Tryz.underlying146
  a119 := Tryz.isAgg146
  z119 := Tryz.sizeOf146
  t138 := Tryz.underlying148
  a138 := Tryz.isAgg148
  z138 := Tryz.sizeOf148
  v138 := Tryz.zeroValue148
  t139 := Tryz.underlying149
  a139 := Tryz.isAgg149
  z139 := Tryz.sizeOf149
  v139 := Tryz.zeroValue149
  t146 := Tryz.underlying150
  a146 := Tryz.isAgg150
  z146 := Tryz.sizeOf150
  v146 := Tryz.zeroValue150
  g1 := by kernel_rfl
  g3 := by kernel_rfl
  g4 := by kernel_rfl }
def lays219_ren : Go.Shelf.Ren := ⟨fun | 217 => 120 | 219 => 116 | 224 => 122 | 225 => 121 | 266 => 124 | 267 => 123 | 314 => 125 | n => n, fun | 3 => 3 | 4 => 4 | 5 => 5 | 9 => 9 | 46 => 73 | 51 => 88 | 146 => 150 | n => n, fun | 1 => 1 | n => n⟩
theorem lays219 : Go.Proofs.Lays.n219 Tryz.prog lays219_ren := {
  mixed := by kernel_rfl
  f217 := Tryz.func120.trans (congrArg some (by kernel_rfl))
  f219 := Tryz.func116.trans (congrArg some (by kernel_rfl))
  f224 := Tryz.func122.trans (congrArg some (by kernel_rfl))
  f225 := Tryz.func121.trans (congrArg some (by kernel_rfl))
  f266 := Tryz.func124.trans (congrArg some (by kernel_rfl))
  f267 := Tryz.func123.trans (congrArg some (by kernel_rfl))
  f314 := Tryz.func125.trans (congrArg some (by kernel_rfl))
  t3 := Tryz.underlying3
  a3 := Tryz.isAgg3
  z3 := Tryz.sizeOf3
  v3 := Tryz.zeroValue3
  t4 := Tryz.underlying4
  a4 := Tryz.isAgg4
  z4 := Tryz.sizeOf4
  v4 := Tryz.zeroValue4
  t5 := Tryz.underlying5
  a5 := Tryz.isAgg5
  z5 := Tryz.sizeOf5
  v5 := Tryz.zeroValue5
  t9 := Tryz.underlying9
  a9 := Tryz.isAgg9
  z9 := Tryz.sizeOf9
  v9 := Tryz.zeroValue9
  t46 := Tryz.underlying73
  a46 := Tryz.isAgg73
  z46 := Tryz.sizeOf73
  v46 := Tryz.zeroValue73
  t51 := Tryz.underlying88
  a51 := Tryz.isAgg88
  z51 := Tryz.sizeOf88
  v51 := Tryz.zeroValue88
  t146 := Tryz.underlying150
  a146 := Tryz.isAgg150
  z146 := Tryz.sizeOf150
  v146 := Tryz.zeroValue150
  g1 := by kernel_rfl }
def lays138_ren : Go.Shelf.Ren := ⟨fun | 138 => 106 | 143 => 107 | 195 => 113 | 217 => 120 | 218 => 115 | 219 => 116 | 224 => 122 | 225 => 121 | 266 => 124 | 267 => 123 | 314 => 125 | n => n, fun | 0 => 0 | 3 => 3 | 4 => 4 | 5 => 5 | 9 => 9 | 46 => 73 | 51 => 88 | 146 => 150 | n => n, fun | 1 => 1 | n => n⟩
theorem lays138 : Go.Proofs.Lays.n138 Tryz.prog lays138_ren := {
  mixed := by kernel_rfl
  f138 := Tryz.func106.trans (congrArg some (by kernel_rfl))
  f143 := Tryz.func107.trans (congrArg some (by kernel_rfl))
  f195 := Tryz.func113.trans (congrArg some (by kernel_rfl))
  f217 := Tryz.func120.trans (congrArg some (by kernel_rfl))
  f218 := Tryz.func115.trans (congrArg some (by kernel_rfl))
  f219 := Tryz.func116.trans (congrArg some (by kernel_rfl))
  f224 := Tryz.func122.trans (congrArg some (by kernel_rfl))
  f225 := Tryz.func121.trans (congrArg some (by kernel_rfl))
  f266 := Tryz.func124.trans (congrArg some (by kernel_rfl))
  f267 := Tryz.func123.trans (congrArg some (by kernel_rfl))
  f314 := Tryz.func125.trans (congrArg some (by kernel_rfl))
  t0 := Tryz.underlying0
  a0 := Tryz.isAgg0
  z0 := Tryz.sizeOf0
  v0 := Tryz.zeroValue0
  t3 := Tryz.underlying3
  a3 := Tryz.isAgg3
  z3 := Tryz.sizeOf3
  v3 := Tryz.zeroValue3
  t4 := Tryz.underlying4
  a4 := Tryz.isAgg4
  z4 := Tryz.sizeOf4
  v4 := Tryz.zeroValue4
  t5 := Tryz.underlying5
  a5 := Tryz.isAgg5
  z5 := Tryz.sizeOf5
  v5 := Tryz.zeroValue5
  t9 := Tryz.underlying9
  a9 := Tryz.isAgg9
  z9 := Tryz.sizeOf9
  v9 := Tryz.zeroValue9
  t46 := Tryz.underlying73
  a46 := Tryz.isAgg73
  z46 := Tryz.sizeOf73
  v46 := Tryz.zeroValue73
  t51 := Tryz.underlying88
  a51 := Tryz.isAgg88
  z51 := Tryz.sizeOf88
  v51 := Tryz.zeroValue88
  t146 := Tryz.underlying150
  a146 := Tryz.isAgg150
  z146 := Tryz.sizeOf150
  v146 := Tryz.zeroValue150
  g1 := by kernel_rfl }
def lays171_ren : Go.Shelf.Ren := ⟨fun | 129 => 95 | 171 => 61 | 243 => 81 | 246 => 92 | 283 => 101 | 284 => 102 | 285 => 103 | 286 => 104 | 317 => 109 | 318 => 110 | 319 => 111 | 320 => 112 | 337 => 117 | 338 => 118 | n => n, fun | 0 => 0 | 2 => 2 | 3 => 3 | 4 => 4 | 5 => 5 | 9 => 9 | 20 => 20 | 37 => 53 | 46 => 73 | 51 => 88 | 53 => 125 | 171 => 132 | 173 => 134 | 212 => 140 | 213 => 141 | 232 => 131 | 233 => 104 | n => n, fun | 17 => 2 | 18 => 3 | 19 => 4 | n => n⟩
theorem lays171 : Go.Proofs.LaysM.n171 Tryz.prog lays171_ren := {
  mixed := by kernel_rfl
  f129 := Tryz.func95.trans (congrArg some (by kernel_rfl))
  f171 := Tryz.func61.trans (congrArg some (by kernel_rfl))
  f243 := Tryz.func81.trans (congrArg some (by kernel_rfl))
  f246 := Tryz.func92.trans (congrArg some (by kernel_rfl))
  f283 := Tryz.func101.trans (congrArg some (by kernel_rfl))
  f284 := Tryz.func102.trans (congrArg some (by kernel_rfl))
  f285 := Tryz.func103.trans (congrArg some (by kernel_rfl))
  f286 := Tryz.func104.trans (congrArg some (by kernel_rfl))
  f317 := Tryz.func109.trans (congrArg some (by kernel_rfl))
  f318 := Tryz.func110.trans (congrArg some (by kernel_rfl))
  f319 := Tryz.func111.trans (congrArg some (by kernel_rfl))
  f320 := Tryz.func112.trans (congrArg some (by kernel_rfl))
  f337 := Tryz.func117.trans (congrArg some (by kernel_rfl))
  f338 := Tryz.func118.trans (congrArg some (by kernel_rfl))
  t0 := Tryz.underlying0
  a0 := Tryz.isAgg0
  z0 := Tryz.sizeOf0
  v0 := Tryz.zeroValue0
  t2 := Tryz.underlying2
  a2 := Tryz.isAgg2
  z2 := Tryz.sizeOf2
  v2 := Tryz.zeroValue2
  t3 := Tryz.underlying3
  a3 := Tryz.isAgg3
  z3 := Tryz.sizeOf3
  v3 := Tryz.zeroValue3
  t4 := Tryz.underlying4
  a4 := Tryz.isAgg4
  z4 := Tryz.sizeOf4
  v4 := Tryz.zeroValue4
  t5 := Tryz.underlying5
  a5 := Tryz.isAgg5
  z5 := Tryz.sizeOf5
  v5 := Tryz.zeroValue5
  t9 := Tryz.underlying9
  a9 := Tryz.isAgg9
  z9 := Tryz.sizeOf9
  v9 := Tryz.zeroValue9
  t20 := Tryz.underlying20
  a20 := Tryz.isAgg20
  z20 := Tryz.sizeOf20
  v20 := Tryz.zeroValue20
  t37 := Tryz.underlying53
  a37 := Tryz.isAgg53
  z37 := Tryz.sizeOf53
  v37 := Tryz.zeroValue53
  t46 := Tryz.underlying73
  a46 := Tryz.isAgg73
  z46 := Tryz.sizeOf73
  v46 := Tryz.zeroValue73
  t51 := Tryz.underlying88
  a51 := Tryz.isAgg88
  z51 := Tryz.sizeOf88
  v51 := Tryz.zeroValue88
  t53 := Tryz.underlying125
  a53 := Tryz.isAgg125
  z53 := Tryz.sizeOf125
  v53 := Tryz.zeroValue125
  t171 := Tryz.underlying132
  a171 := Tryz.isAgg132
  z171 := Tryz.sizeOf132
  v171 := Tryz.zeroValue132
  t173 := Tryz.underlying134
  a173 := Tryz.isAgg134
  z173 := Tryz.sizeOf134
  v173 := Tryz.zeroValue134
  t212 := Tryz.underlying140
  a212 := Tryz.isAgg140
  z212 := Tryz.sizeOf140
  v212 := Tryz.zeroValue140
  t213 := Tryz.underlying141
  a213 := Tryz.isAgg141
  z213 := Tryz.sizeOf141
  t232 := Tryz.underlying131
  a232 := Tryz.isAgg131
  z232 := Tryz.sizeOf131
  v232 := Tryz.zeroValue131
  t233 := Tryz.underlying104
  a233 := Tryz.isAgg104
  z233 := Tryz.sizeOf104
  v233 := Tryz.zeroValue104
  g17 := by kernel_rfl
  g18 := by kernel_rfl
  g19 := by kernel_rfl
  i0 := by kernel_rfl
  i2 := by kernel_rfl
  i3 := by kernel_rfl
  i4 := by kernel_rfl
  i5 := by kernel_rfl
  i9 := by kernel_rfl
  i20 := by kernel_rfl
  i37 := by kernel_rfl
  i46 := by kernel_rfl
  i51 := by kernel_rfl
  i53 := by kernel_rfl
  i171 := by kernel_rfl
  i173 := by kernel_rfl
  i212 := by kernel_rfl
  i232 := by kernel_rfl
  i233 := by kernel_rfl
  m17 := by kernel_rfl
  m18 := by kernel_rfl
  m19 := by kernel_rfl }
def lays125_ren : Go.Shelf.Ren := ⟨fun | 125 => 84 | 128 => 94 | 129 => 95 | n => n, fun | 3 => 3 | 4 => 4 | 5 => 5 | 9 => 9 | 46 => 73 | 51 => 88 | 53 => 125 | n => n, fun | n => n⟩
theorem lays125 : Go.Proofs.Lays.n125 Tryz.prog lays125_ren := {
  mixed := by kernel_rfl
  f125 := Tryz.func84.trans (congrArg some (by kernel_rfl))
  f128 := Tryz.func94.trans (congrArg some (by kernel_rfl))
  f129 := Tryz.func95.trans (congrArg some (by kernel_rfl))
  t3 := Tryz.underlying3
  a3 := Tryz.isAgg3
  z3 := Tryz.sizeOf3
  v3 := Tryz.zeroValue3
  t4 := Tryz.underlying4
  a4 := Tryz.isAgg4
  z4 := Tryz.sizeOf4
  v4 := Tryz.zeroValue4
  t5 := Tryz.underlying5
  a5 := Tryz.isAgg5
  z5 := Tryz.sizeOf5
  v5 := Tryz.zeroValue5
  t9 := Tryz.underlying9
  a9 := Tryz.isAgg9
  z9 := Tryz.sizeOf9
  v9 := Tryz.zeroValue9
  t46 := Tryz.underlying73
  a46 := Tryz.isAgg73
  z46 := Tryz.sizeOf73
  v46 := Tryz.zeroValue73
  t51 := Tryz.underlying88
  a51 := Tryz.isAgg88
  z51 := Tryz.sizeOf88
  v51 := Tryz.zeroValue88
  t53 := Tryz.underlying125
  a53 := Tryz.isAgg125
  z53 := Tryz.sizeOf125
  v53 := Tryz.zeroValue125 }
theorem join_any (bk o c : Nat) (xs : List ByteArray) (sep : ByteArray) (w : World) (hcells : ∀ (j : Nat) x, xs[j]? = some x → w.cell? ⟨bk, o + j, none⟩ = some (.string x)) (hbk : bk < w.heap.size) (hN : xs.length ≤ 140737488355328) (hcap : xs.length ≤ c) (hlen : (Lib.join (xs.map (·.data.toList)) sep.data.toList).length ≤ 140737488355328) :
    Calls Tryz.prog 62 #[.slice (some ⟨bk, o, none⟩) xs.length c, .string sep] w fun e w' => e = .returned (.string ⟨(Lib.join (xs.map (·.data.toList)) sep.data.toList).toArray⟩) ∧ Below w.heap.size w w' := Any.strings_Join lays156 Builder_Extra_156 bk o c xs sep w hcells hbk hN hcap hlen
theorem blen_any (n : Nat) (w : World) (h : n < 18446744073709551616) :
    Calls Tryz.prog 84 #[.int .u64 (n : Nat)] w fun e w' => e = .returned (.int .i64 ((Lib.bitLen n : Nat) : Int)) ∧ w' = w := Any.bits_Len lays125 (n : Int) w (by omega) (by omega)
/-- The table of powers of ten holds what the program's text lays, and no new block changes that. -/
def Pow10 (w : World) : Prop := Lib.TabBelow Tryz.prog w.heap.size w "internal/strconv.uint64pow10" .u64 Lib.pow10Tab
theorem Pow10.below {w w' : World} (h : Pow10 w) (hb : Below w.heap.size w w') : Pow10 w' := fun x hx => h x (hb.trans (hx.mono hb.size))
theorem itoa_any (n : Nat) (w : World) (hn : n ≤ 9223372036854775807) (ht : Pow10 w) :
    Calls Tryz.prog 61 #[.int .i64 (n : Int)] w fun e w' => e = .returned (.string ⟨(Lib.decDigits n).toArray⟩) ∧ Below w.heap.size w w' := by
  refine (Any.strconv_Itoa lays171 (n : Int) (by omega) (by omega) w ht.here).mono ?_
  rintro e w' ⟨rfl, k, os, rfl⟩
  refine ⟨?_, Lib.below_grow _ _ (Nat.le_refl _) _ _⟩
  have : ¬ ((n : Int) < 0) := by omega
  rw [Lib.itoa, if_neg this]; rfl
theorem index_dot (x : ByteArray) (w : World) :
    Calls Tryz.prog 107 #[.string x, .string ⟨#[46]⟩] w fun e w' => e = .returned (.int .i64 (Lib.indexB x ⟨#[46]⟩)) ∧ w' = w := by
  have c := Any.stringslite_Index_one lays219 x 46 w
  rw [← Lib.index_one] at c
  go_enter Tryz.func107, Tryz.ntmps107
  go_wp2_with (go_at_call 116; refine c.mono ?_; rintro e w' ⟨rfl, hw⟩; rw [hw])
  go_ret
  exact ⟨rfl, rfl⟩
theorem count_dot (x : ByteArray) (w : World) :
    Calls Tryz.prog 106 #[.string x, .string ⟨#[46]⟩] w fun e w' => e = .returned (.int .i64 (Lib.countB x ⟨#[46]⟩)) ∧ w' = w := by
  refine (Any.strings_Count_one lays138 x 46 w).mono fun e w' ⟨he, hw⟩ => ⟨?_, hw⟩
  rw [he]
  show _ = Ending.returned (Value.int .i64 ((Lib.count x.data.toList [46] : Nat) : Int))
  rw [Lib.count_one]
  rfl
/-- The pieces of SplitN, at most 13. -/
def pcs (s : ByteArray) : List ByteArray := Lib.splitB ⟨#[46]⟩ 0 (min 12 s.size) s
theorem gensplit_any (s : ByteArray) (w : World) (hs : s.size < 4294967281) :
    Calls Tryz.prog 93 #[.string s, .string ⟨#[46]⟩, .int .i64 0, .int .i64 13] w fun e w' =>
      e = .returned (.slice (some ⟨w.heap.size, 0, none⟩) (pcs s).length (min 13 (s.size + 1))) ∧ w' = w.alloc (.cells (Lib.cellsOf (pcs s) (min 13 (s.size + 1))) 9) := by
  have c := Any.strings_genSplit_core lays221 (by kernel_rfl) s ⟨#[46]⟩ 0 13 (min 13 (s.size + 1)) w hs (by decide) (by decide)
    (fun x c _ => index_dot x _) (count_dot s w) (by decide) (by decide) (by rw [if_neg (by decide)]; omega)
  have e : min 13 (s.size + 1) - 1 = min 12 s.size := by omega
  rw [e] at c
  exact c
theorem split_any (s : ByteArray) (w : World) (hs : s.size < 4294967281) :
    Calls Tryz.prog 82 #[.string s, .string ⟨#[46]⟩, .int .i64 13] w fun e w' =>
      e = .returned (.slice (some ⟨w.heap.size, 0, none⟩) (pcs s).length (min 13 (s.size + 1))) ∧ w' = w.alloc (.cells (Lib.cellsOf (pcs s) (min 13 (s.size + 1))) 9) := by
  have c := gensplit_any s w hs
  go_enter Tryz.func82, Tryz.ntmps82
  go_wp2_with (go_at_call 93; refine c.mono ?_; rintro e w' ⟨rfl, hw⟩; rw [hw])
  go_ret
  exact ⟨rfl, rfl⟩
end Go.Proofs.YtpmlkofceidnjaaGreatDoor
namespace Go.Proofs.YtpmlkofceidnjaaGreatDoor

/-- The numbers' codes, one behind the other. -/
def cat (f : Nat → List UInt8) : List Nat → List UInt8
  | [] => []
  | v :: r => f v ++ cat f r
theorem cat_append (f : Nat → List UInt8) (a b : List Nat) : cat f (a ++ b) = cat f a ++ cat f b := by
  induction a with
  | nil => rfl
  | cons x a ih => simp [cat, ih]
/-- No code is the beginning of another one. -/
def Code (f : Nat → List UInt8) : Prop := ∀ x y r s, f x ++ r = f y ++ s → x = y ∧ r = s
theorem code_cut {f : Nat → List UInt8} (h : Code f) (ne : ∀ x, f x ≠ []) : ∀ (A N : List Nat) (r : List UInt8), cat f N = cat f A ++ r → ∃ M, N = A ++ M ∧ r = cat f M
  | [], N, r, e => ⟨N, rfl, by simpa [cat] using e.symm⟩
  | x :: A, [], r, e => by
    exfalso
    have e2 := e.symm
    simp only [cat, List.append_eq_nil_iff] at e2
    exact ne x e2.1.1
  | x :: A, y :: N, r, e => by
    simp only [cat, List.append_assoc] at e
    obtain ⟨rfl, h2⟩ := h _ _ _ _ e
    obtain ⟨M, rfl, h3⟩ := code_cut h ne A N r h2
    exact ⟨M, rfl, h3⟩
theorem code_inj {f : Nat → List UInt8} (h : Code f) (ne : ∀ x, f x ≠ []) {A N : List Nat} (e : cat f N = cat f A) : N = A := by
  obtain ⟨M, rfl, hM⟩ := code_cut h ne A N [] (by simpa using e)
  cases M with
  | nil => simp
  | cons m M =>
    exfalso
    have e2 := hM.symm
    simp only [cat, List.append_eq_nil_iff] at e2
    exact ne m e2.1

/-! ### Decimal numbers -/
def isDig (c : UInt8) : Prop := 48 ≤ c.toNat ∧ c.toNat ≤ 57
def dval (l : List UInt8) : Nat := l.foldl (fun v c => 10 * v + (c.toNat - 48)) 0
theorem head_left {l r : List UInt8} (h : l ≠ []) : (l ++ r).head? = l.head? := by
  cases l with
  | nil => exact absurd rfl h
  | cons _ _ => rfl
theorem dval_snoc (l : List UInt8) (c : UInt8) : dval (l ++ [c]) = 10 * dval l + (c.toNat - 48) := by simp [dval]
theorem dval_le (l r : List UInt8) : dval l ≤ dval (l ++ r) := by
  induction r generalizing l with
  | nil => simp
  | cons c r ih =>
    have := ih (l ++ [c])
    rw [dval_snoc, List.append_assoc, List.singleton_append] at this
    omega
theorem dval_lt (l : List UInt8) (h : ∀ c ∈ l, isDig c) : dval l < 10 ^ l.length := by
  induction hn : l.length generalizing l with
  | zero => obtain rfl := List.eq_nil_of_length_eq_zero hn; simp [dval]
  | succ n ih =>
    obtain ⟨r, c, rfl⟩ : ∃ r c, l = r ++ [c] := ⟨l.dropLast, l.getLast (by intro e; simp [e] at hn), (List.dropLast_concat_getLast _).symm⟩
    have h1 := ih r (fun x hx => h x (by simp [hx])) (by simpa using hn)
    have h2 := h c (by simp)
    unfold isDig at h2
    rw [dval_snoc, Nat.pow_succ]
    omega
theorem dec_props (v : Nat) : (∀ c ∈ Lib.decDigits v, isDig c) ∧ dval (Lib.decDigits v) = v ∧ Lib.decDigits v ≠ [] ∧ ((Lib.decDigits v).head? = some 48 → v = 0) := by
  induction v using Nat.strongRecOn with
  | _ v ih =>
    rw [Lib.decDigits]
    split
    · rename_i h
      refine ⟨?_, ?_, by simp, ?_⟩
      · intro c hc
        obtain rfl : c = UInt8.ofNat (48 + v) := by simpa using hc
        unfold isDig; simp; omega
      · simp [dval]; omega
      · intro e
        have e2 : UInt8.ofNat (48 + v) = 48 := by simpa using e
        have := congrArg UInt8.toNat e2
        simp at this; omega
    · rename_i h
      obtain ⟨h1, h2, h3, h4⟩ := ih (v / 10) (by omega)
      refine ⟨?_, ?_, by simp, ?_⟩
      · intro c hc
        rcases List.mem_append.1 hc with hc | hc
        · exact h1 c hc
        · obtain rfl : c = UInt8.ofNat (48 + v % 10) := by simpa using hc
          unfold isDig; simp; omega
      · rw [dval_snoc, h2]; simp; omega
      · intro e
        rw [head_left h3] at e
        have := h4 e
        omega
theorem dec_dig {v : Nat} {c : UInt8} (h : c ∈ Lib.decDigits v) : isDig c := (dec_props v).1 c h
theorem dec_val (v : Nat) : dval (Lib.decDigits v) = v := (dec_props v).2.1
theorem dec_ne (v : Nat) : Lib.decDigits v ≠ [] := (dec_props v).2.2.1
theorem dec_head {v : Nat} (h : (Lib.decDigits v).head? = some 48) : v = 0 := (dec_props v).2.2.2 h
theorem dec_zero : Lib.decDigits 0 = [48] := by rw [Lib.decDigits]; rfl
theorem dec_dot (v : Nat) : (46 : UInt8) ∉ Lib.decDigits v := fun h => by have := dec_dig h; revert this; unfold isDig; decide
theorem dec_len (k v : Nat) (h : v < 10 ^ k) (hk : 1 ≤ k) : (Lib.decDigits v).length ≤ k := by
  induction k generalizing v with
  | zero => omega
  | succ k ih =>
    rw [Lib.decDigits]
    split
    · simp
    · rename_i hv
      have hk1 : 1 ≤ k := by
        rcases Nat.eq_zero_or_pos k with rfl | h0
        · simp at h; omega
        · exact h0
      have := ih (v / 10) (by rw [Nat.pow_succ] at h; omega) hk1
      simp; omega
/-- Digits without a leading zero are the number's. -/
theorem dec_of (l : List UInt8) (h0 : l ≠ []) (h1 : ∀ c ∈ l, isDig c) (h2 : l.head? = some 48 → l.length = 1) : l = Lib.decDigits (dval l) := by
  induction hn : l.length generalizing l with
  | zero => exact absurd (List.eq_nil_of_length_eq_zero hn) h0
  | succ n ih =>
    obtain ⟨r, c, rfl⟩ : ∃ r c, l = r ++ [c] := ⟨l.dropLast, l.getLast h0, (List.dropLast_concat_getLast _).symm⟩
    have hc := h1 c (by simp)
    unfold isDig at hc
    by_cases hr : r = []
    · subst hr
      have e : dval ([] ++ [c]) = c.toNat - 48 := by simp [dval]
      rw [e, Lib.decDigits_one (by omega)]
      have : (48 + (c.toNat - 48)) = c.toNat := by omega
      rw [this]; simp
    · have hh : (r ++ [c]).head? = r.head? := head_left hr
      have hl : 1 ≤ r.length := by
        cases r with
        | nil => exact absurd rfl hr
        | cons _ _ => simp
      have hne : r.head? ≠ some 48 := fun e => by
        have := h2 (by rw [hh]; exact e)
        simp at this; exact hr this
      have hr2 := ih r hr (fun x hx => h1 x (by simp [hx])) (fun e => absurd e hne) (by simpa using hn)
      have hpos : dval r ≠ 0 := fun e => by
        rw [e, dec_zero] at hr2
        exact hne (by rw [hr2]; rfl)
      rw [dval_snoc]
      conv => rhs; rw [Lib.decDigits]
      rw [dif_neg (by omega)]
      have e1 : (10 * dval r + (c.toNat - 48)) / 10 = dval r := by omega
      have e2 : 48 + (10 * dval r + (c.toNat - 48)) % 10 = c.toNat := by omega
      rw [e1, e2, ← hr2]; simp
theorem dec_inj {x y : Nat} (h : Lib.decDigits x = Lib.decDigits y) : x = y := by rw [← dec_val x, h, dec_val]

/-- Texts before a point. -/
theorem dot_cut : ∀ (u v r s : List UInt8), (46 : UInt8) ∉ u → (46 : UInt8) ∉ v → u ++ 46 :: r = v ++ 46 :: s → u = v ∧ r = s
  | [], [], r, s, _, _, e => by simpa using e
  | [], y :: v, r, s, _, hv, e => by simp at e hv; exact absurd e.1 hv.1
  | x :: u, [], r, s, hu, _, e => by simp at e hu; exact absurd e.1.symm hu.1
  | x :: u, y :: v, r, s, hu, hv, e => by
    simp at e hu hv
    obtain ⟨h1, h2⟩ := dot_cut u v r s hu.2 hv.2 e.2
    exact ⟨by rw [e.1, h1], h2⟩
def fdot (v : Nat) : List UInt8 := Lib.decDigits v ++ [46]
theorem fdot_ne (v : Nat) : fdot v ≠ [] := by simp [fdot]
theorem fdot_code : Code fdot := by
  intro x y r s e
  simp only [fdot, List.append_assoc, List.singleton_append] at e
  obtain ⟨h1, h2⟩ := dot_cut _ _ _ _ (dec_dot x) (dec_dot y) e
  exact ⟨dec_inj h1, h2⟩
def txt : List Nat → List UInt8
  | [] => []
  | [v] => Lib.decDigits v
  | v :: w :: r => Lib.decDigits v ++ 46 :: txt (w :: r)
theorem txt_dot : ∀ (a : List Nat), a ≠ [] → txt a ++ [46] = cat fdot a
  | [], h => absurd rfl h
  | [v], _ => by simp [txt, cat, fdot]
  | v :: w :: r, _ => by
    have := txt_dot (w :: r) (by simp)
    rw [txt, cat, ← this]
    simp [fdot]
theorem txt_snoc (a : List Nat) (h : a ≠ []) (v : Nat) : txt (a ++ [v]) = txt a ++ 46 :: Lib.decDigits v := by
  have e1 := txt_dot (a ++ [v]) (by simp)
  rw [cat_append, ← txt_dot a h] at e1
  have e2 : txt (a ++ [v]) ++ [46] = (txt a ++ 46 :: Lib.decDigits v) ++ [46] := by rw [e1]; simp [cat, fdot]
  exact List.append_cancel_right e2
theorem join_txt : ∀ a : List Nat, Lib.join (a.map Lib.decDigits) [46] = txt a
  | [] => rfl
  | [v] => by simp [Lib.join_one, txt]
  | v :: w :: r => by
    have h := join_txt (w :: r)
    simp only [Lib.join, List.map_cons] at h ⊢
    rw [List.intercalate_cons_cons]
    rw [h]
    simp [txt]

/-- The numbers of an object identifier. -/
def Good (a : List Nat) : Prop := 2 ≤ a.length ∧ a.length ≤ 12 ∧ (∀ v ∈ a, v ≤ 2147483647) ∧ a.getD 0 0 ≤ 2 ∧ (a.getD 0 0 < 2 → a.getD 1 0 ≤ 39)
/-- The text l is the object identifier with the numbers a. -/
def Oid (l : List UInt8) (a : List Nat) : Prop := Good a ∧ l ++ [46] = cat fdot a
theorem Good.ne {a : List Nat} (h : Good a) : a ≠ [] := fun e => by rw [e] at h; exact absurd h.1 (by decide)
theorem oid_one {l : List UInt8} {a b : List Nat} (h : Oid l a) (k : Oid l b) : a = b := code_inj fdot_code fdot_ne (h.2.symm.trans k.2)
theorem oid_txt {l : List UInt8} {a : List Nat} (h : Oid l a) : l = txt a := by
  have := h.2
  rw [← txt_dot a h.1.ne] at this
  exact List.append_cancel_right this
theorem oid_of {a : List Nat} (h : Good a) : Oid (txt a) a := ⟨h, txt_dot a h.ne⟩
theorem good_of_txt {a b : List Nat} (ha : a ≠ []) (h : Oid (txt a) b) : b = a := by
  have := h.2
  rw [txt_dot a ha] at this
  exact code_inj fdot_code fdot_ne this.symm

/-! ### The pieces between the points -/
def dotted (Q : List (List UInt8)) : List UInt8 := Q.flatMap (· ++ [46])
theorem at_split (l : List UInt8) (i : Nat) (c : UInt8) (h : l[i]? = some c) : l = l.take i ++ c :: l.drop (i + 1) := by
  obtain ⟨hi, rfl⟩ := List.getElem?_eq_some_iff.1 h
  rw [← List.drop_eq_getElem_cons hi, List.take_append_drop]
theorem not_mem_of {l : List UInt8} {c : UInt8} (h : ∀ k : Nat, l[k]? ≠ some c) : c ∉ l := fun hm => by
  obtain ⟨k, hk, e⟩ := List.mem_iff_getElem.1 hm
  exact h k (List.getElem?_eq_some_iff.2 ⟨hk, e⟩)
theorem split_spec : ∀ (k : Nat) (l : List UInt8), dotted (Lib.splitK [46] 0 k l) = l ++ [46] ∧
    ∃ Q0 q, Lib.splitK [46] 0 k l = Q0 ++ [q] ∧ (∀ p ∈ Q0, (46 : UInt8) ∉ p) ∧ ((46 : UInt8) ∈ q → Q0.length = k)
  | 0, l => ⟨by simp [Lib.splitK, dotted], [], l, rfl, by simp, fun _ => rfl⟩
  | k + 1, l => by
    unfold Lib.splitK
    split
    · rename_i h
      have h2 : Lib.indexByte l 46 = -1 := by rw [← Lib.index_one]; exact beq_iff_eq.1 h
      refine ⟨by simp [dotted], [], l, rfl, by simp, fun hm => absurd hm (not_mem_of (Lib.indexByte_none h2))⟩
    · rename_i h
      have h2 : Lib.index l [46] ≠ -1 := fun e => h (beq_iff_eq.2 e)
      have h3 := Lib.index_ge l [46]
      obtain ⟨i, hi⟩ : ∃ i : Nat, Lib.index l [46] = i := ⟨(Lib.index l [46]).toNat, by omega⟩
      rw [hi]
      rw [Lib.index_one] at hi
      obtain ⟨h4, h5⟩ := Lib.indexByte_some hi
      obtain ⟨d1, Q0, q, d2, d3, d4⟩ := split_spec k (l.drop (i + 1))
      have e1 : ((i : Int)).toNat + 0 = i := by omega
      have e2 : ((i : Int)).toNat + ([46] : List UInt8).length = i + 1 := by simp
      rw [e1, e2]
      refine ⟨?_, l.take i :: Q0, q, ?_, ?_, ?_⟩
      · rw [dotted, List.flatMap_cons]
        rw [dotted] at d1
        rw [d1]
        conv => rhs; rw [at_split l i 46 h4]
        simp
      · rw [d2]; rfl
      · intro p hp
        rcases List.mem_cons.1 hp with rfl | hp
        · refine not_mem_of (fun j e => ?_)
          by_cases hj : j < i
          · rw [List.getElem?_take_of_lt hj] at e; exact h5 j hj e
          · rw [List.getElem?_eq_none (by simp; omega)] at e; cases e
        · exact d3 p hp
      · intro hm; simp [d4 hm]
theorem pieces_dec : ∀ (Q : List (List UInt8)) (a : List Nat), (∀ p ∈ Q, (46 : UInt8) ∉ p) → dotted Q = cat fdot a → Q = a.map Lib.decDigits
  | [], [], _, _ => rfl
  | [], v :: a, _, e => by
    have e2 := e.symm
    simp [dotted, cat, fdot] at e2
  | p :: Q, [], _, e => by simp [dotted, cat] at e
  | p :: Q, v :: a, h, e => by
    simp only [dotted, List.flatMap_cons, cat, fdot, List.append_assoc, List.singleton_append] at e
    obtain ⟨h1, h2⟩ := dot_cut _ _ _ _ (h p (by simp)) (dec_dot v) e
    rw [List.map_cons, ← h1, ← pieces_dec Q a (fun x hx => h x (by simp [hx])) h2]
theorem dec_pieces (a : List Nat) : dotted (a.map Lib.decDigits) = cat fdot a := by
  induction a with
  | nil => rfl
  | cons v a ih =>
    rw [List.map_cons, dotted, List.flatMap_cons, cat, ← ih]; rfl
/-- The first pieces of the text of an object identifier are numbers. -/
theorem pieces_cut : ∀ (Q : List (List UInt8)) (r : List UInt8) (a : List Nat), (∀ p ∈ Q, (46 : UInt8) ∉ p) → dotted Q ++ r = cat fdot a → ∃ A M, a = A ++ M ∧ Q = A.map Lib.decDigits ∧ r = cat fdot M
  | [], r, a, _, e => ⟨[], a, rfl, rfl, by simpa [dotted] using e⟩
  | p :: Q, r, [], _, e => by simp [dotted, cat] at e
  | p :: Q, r, v :: a, h, e => by
    simp only [dotted, List.flatMap_cons, cat, fdot, List.append_assoc, List.singleton_append] at e
    obtain ⟨h1, h2⟩ := dot_cut _ _ _ _ (h p (by simp)) (dec_dot v) e
    obtain ⟨A, M, rfl, h3, h4⟩ := pieces_cut Q r a (fun x hx => h x (by simp [hx])) h2
    exact ⟨v :: A, M, rfl, by rw [List.map_cons, ← h1, ← h3], h4⟩
theorem split_len : ∀ (k : Nat) (l : List UInt8), (Lib.splitK [46] 0 k l).length ≤ k + 1
  | 0, l => by simp [Lib.splitK]
  | k + 1, l => by
    unfold Lib.splitK
    split
    · simp
    · have := split_len k (l.drop ((Lib.index l [46]).toNat + ([46] : List UInt8).length))
      rw [List.length_cons]
      exact Nat.succ_le_succ this
theorem dotted_len (Q : List (List UInt8)) : Q.length ≤ (dotted Q).length := by
  induction Q with
  | nil => simp [dotted]
  | cons p Q ih =>
    rw [dotted] at ih ⊢
    rw [List.flatMap_cons, List.length_append, List.length_cons, List.length_append, List.length_singleton]; omega
/-- What the pieces of SplitN, at most 13, say. -/
theorem split13 {l : List UInt8} {k : Nat} (hk : k = min 12 l.length) {Q : List (List UInt8)} (hQ : Q = Lib.splitK [46] 0 k l) :
    (∀ a, Oid l a → Q = a.map Lib.decDigits) ∧ (∀ a : List Nat, Q = a.map Lib.decDigits → l ++ [46] = cat fdot a) ∧ 1 ≤ Q.length ∧ Q.length ≤ 13 := by
  obtain ⟨h1, Q0, q, h2, h3, h4⟩ := split_spec k l
  have hle := split_len k l
  rw [← hQ] at h1 h2 hle
  have hl : Q.length = Q0.length + 1 := by rw [h2]; simp
  have key : (46 : UInt8) ∈ q → Q0.length = 12 := by
    intro hm
    have e0 : 0 < q.length := List.length_pos_of_mem hm
    have e1 := dotted_len Q0
    have e2 : (dotted Q).length = (dotted Q0).length + (q.length + 1) := by rw [h2, dotted, List.flatMap_append]; simp [dotted]
    rw [h1, List.length_append, List.length_singleton] at e2
    have := h4 hm
    omega
  refine ⟨?_, ?_, by omega, by omega⟩
  · intro a ha
    by_cases hm : (46 : UInt8) ∈ q
    · exfalso
      have e := ha.2
      rw [← h1, h2, dotted, List.flatMap_append] at e
      obtain ⟨A, M, rfl, e1, e2⟩ := pieces_cut Q0 _ a h3 e
      have hA : A.length = 12 := by rw [← key hm, e1, List.length_map]
      cases M with
      | nil => simp [cat] at e2
      | cons m M => have := ha.1.2.1; simp at this; omega
    · refine pieces_dec Q a ?_ (h1.trans ha.2)
      intro p hp
      rw [h2] at hp
      rcases List.mem_append.1 hp with hp | hp
      · exact h3 p hp
      · obtain rfl : p = q := by simpa using hp
        exact hm
  · intro a ha
    rw [← h1, ha, dec_pieces]

/-! ### A text that is scanned byte by byte -/
/-- The part that ends here is the next number. -/
theorem scan_end {l : List UInt8} {A a : List Nat} {d r : List UInt8} (hl : l ++ [46] = cat fdot A ++ (d ++ 46 :: r)) (hd : (46 : UInt8) ∉ d) (h : Oid l a) :
    ∃ m M, a = A ++ m :: M ∧ d = Lib.decDigits m ∧ m ≤ 2147483647 ∧ A.length < 12 := by
  have e := h.2
  rw [hl] at e
  obtain ⟨M, rfl, e2⟩ := code_cut fdot_code fdot_ne A a _ e.symm
  cases M with
  | nil => simp [cat] at e2
  | cons m M =>
    simp only [cat, fdot, List.append_assoc, List.singleton_append] at e2
    obtain ⟨e3, _⟩ := dot_cut _ _ _ _ hd (dec_dot m) e2
    have h12 := h.1.2.1
    simp at h12
    exact ⟨m, M, rfl, e3, h.1.2.2.1 m (by simp), by omega⟩
theorem dig_cut : ∀ (d v r s : List UInt8) (c : UInt8), (∀ x ∈ d, isDig x) → (∀ x ∈ v, isDig x) → ¬ isDig c → c ≠ 46 → d ++ c :: r = v ++ 46 :: s → False
  | [], [], _, _, _, _, _, _, h, e => by simp at e; exact h e.1
  | [], y :: v, _, _, _, _, hv, h, _, e => by simp at e; rw [e.1] at h; exact h (hv y (by simp))
  | x :: d, [], _, _, _, hd, _, _, _, e => by simp at e; have := hd x (by simp); rw [e.1] at this; revert this; unfold isDig; decide
  | x :: d, y :: v, r, s, c, hd, hv, h, h46, e => by
    simp at e
    exact dig_cut d v r s c (fun z hz => hd z (by simp [hz])) (fun z hz => hv z (by simp [hz])) h h46 e.2
/-- A byte that is neither a digit nor a point. -/
theorem scan_bad {l : List UInt8} {A a : List Nat} {d r : List UInt8} {c : UInt8} (hl : l ++ [46] = cat fdot A ++ (d ++ c :: r)) (hd : ∀ x ∈ d, isDig x) (hc : ¬ isDig c) (h46 : c ≠ 46) : ¬ Oid l a := by
  intro h
  have e := h.2
  rw [hl] at e
  obtain ⟨M, rfl, e2⟩ := code_cut fdot_code fdot_ne A a _ e.symm
  cases M with
  | nil => simp [cat] at e2
  | cons m M =>
    simp only [cat, fdot, List.append_assoc, List.singleton_append] at e2
    exact dig_cut _ _ _ _ _ hd (fun x hx => dec_dig hx) hc h46 e2

/-! ### Numbers in base 128 -/
def hd7 (n : Nat) : List UInt8 := if _h : n = 0 then [] else hd7 (n / 128) ++ [UInt8.ofNat (128 + n % 128)]
termination_by n
decreasing_by omega
def e128 (n : Nat) : List UInt8 := hd7 (n / 128) ++ [UInt8.ofNat (n % 128)]
def val7 (l : List UInt8) : Nat := l.foldl (fun v c => 128 * v + c.toNat % 128) 0
theorem val7_snoc (l : List UInt8) (c : UInt8) : val7 (l ++ [c]) = 128 * val7 l + c.toNat % 128 := by simp [val7]
theorem val7_le (l r : List UInt8) : val7 l ≤ val7 (l ++ r) := by
  induction r generalizing l with
  | nil => simp
  | cons c r ih =>
    have := ih (l ++ [c])
    rw [val7_snoc, List.append_assoc, List.singleton_append] at this
    omega
theorem hd7_zero : hd7 0 = [] := by rw [hd7]; simp
theorem hd7_pos {n : Nat} (h : n ≠ 0) : hd7 n = hd7 (n / 128) ++ [UInt8.ofNat (128 + n % 128)] := by rw [hd7, dif_neg h]
theorem hd7_props (n : Nat) : (∀ c ∈ hd7 n, 128 ≤ c.toNat) ∧ val7 (hd7 n) = n ∧ (hd7 n).head? ≠ some 128 := by
  induction n using Nat.strongRecOn with
  | _ n ih =>
    by_cases h : n = 0
    · subst h; rw [hd7_zero]; simp [val7]
    · obtain ⟨h1, h2, h3⟩ := ih (n / 128) (by omega)
      rw [hd7_pos h]
      refine ⟨?_, ?_, ?_⟩
      · intro c hc
        rcases List.mem_append.1 hc with hc | hc
        · exact h1 c hc
        · obtain rfl : c = UInt8.ofNat (128 + n % 128) := by simpa using hc
          simp; omega
      · rw [val7_snoc, h2]; simp; omega
      · by_cases h0 : n / 128 = 0
        · rw [h0, hd7_zero]
          intro e
          have e2 : UInt8.ofNat (128 + n % 128) = 128 := by simpa using e
          have := congrArg UInt8.toNat e2
          simp at this; omega
        · have hne : hd7 (n / 128) ≠ [] := fun e => by
            have := h2; rw [e] at this; exact h0 this.symm
          rw [head_left hne]; exact h3
theorem val_hd7 (n : Nat) : val7 (hd7 n) = n := (hd7_props n).2.1
theorem val_e128 (n : Nat) : val7 (e128 n) = n := by rw [e128, val7_snoc, val_hd7]; simp; omega
theorem e128_ne (n : Nat) : e128 n ≠ [] := by simp [e128]
theorem e128_head (n : Nat) : (e128 n).head? ≠ some 128 := by
  by_cases h : hd7 (n / 128) = []
  · rw [e128, h]
    intro e
    have e2 : UInt8.ofNat (n % 128) = 128 := by simpa using e
    have := congrArg UInt8.toNat e2
    simp at this; omega
  · rw [e128, head_left h]; exact (hd7_props _).2.2
theorem end_cut : ∀ (u v : List UInt8) (b c : UInt8) (r s : List UInt8), (∀ x ∈ u, 128 ≤ x.toNat) → (∀ x ∈ v, 128 ≤ x.toNat) → b.toNat < 128 → c.toNat < 128 → u ++ b :: r = v ++ c :: s → u = v ∧ b = c ∧ r = s
  | [], [], b, c, r, s, _, _, _, _, e => by simpa using e
  | [], y :: v, b, c, r, s, _, hv, hb, _, e => by
    simp at e
    have := hv y (by simp); rw [← e.1] at this; omega
  | x :: u, [], b, c, r, s, hu, _, _, hc, e => by
    simp at e
    have := hu x (by simp); rw [e.1] at this; omega
  | x :: u, y :: v, b, c, r, s, hu, hv, hb, hc, e => by
    simp at e
    obtain ⟨h1, h2, h3⟩ := end_cut u v b c r s (fun z hz => hu z (by simp [hz])) (fun z hz => hv z (by simp [hz])) hb hc e.2
    exact ⟨by rw [e.1, h1], h2, h3⟩
theorem e128_code : Code e128 := by
  intro x y r s e
  simp only [e128, List.append_assoc, List.singleton_append] at e
  obtain ⟨h1, h2, h3⟩ := end_cut _ _ _ _ _ _ (hd7_props _).1 (hd7_props _).1 (by simp; omega) (by simp; omega) e
  refine ⟨?_, h3⟩
  rw [← val_e128 x, ← val_e128 y, e128, e128, h1, h2]
/-- Bytes from 128 on, of which the first one is not 128. -/
theorem hd7_of (u : List UInt8) (h : ∀ c ∈ u, 128 ≤ c.toNat) (h0 : u.head? ≠ some 128) : u = hd7 (val7 u) := by
  induction hn : u.length generalizing u with
  | zero => obtain rfl := List.eq_nil_of_length_eq_zero hn; simp [val7, hd7_zero]
  | succ n ih =>
    obtain ⟨r, c, rfl⟩ : ∃ r c, u = r ++ [c] := ⟨u.dropLast, u.getLast (by intro e; simp [e] at hn), (List.dropLast_concat_getLast _).symm⟩
    have hc := h c (by simp)
    have hc2 := c.toNat_lt
    have hr : r = hd7 (val7 r) := ih r (fun x hx => h x (by simp [hx])) (by
      cases r with
      | nil => simp
      | cons x r => simpa using h0) (by simpa using hn)
    have hpos : val7 (r ++ [c]) ≠ 0 := by
      rw [val7_snoc]
      by_cases e : r = []
      · subst e
        have : c ≠ 128 := by simpa using h0
        have : c.toNat ≠ 128 := fun e => this (UInt8.toNat_inj.1 e)
        omega
      · have : val7 r ≠ 0 := fun e2 => by rw [e2, hd7_zero] at hr; exact e hr
        omega
    rw [hd7_pos hpos, val7_snoc]
    have e1 : (128 * val7 r + c.toNat % 128) / 128 = val7 r := by omega
    have e2 : 128 + (128 * val7 r + c.toNat % 128) % 128 = c.toNat := by omega
    rw [e1, e2, ← hr]; simp
theorem e128_of (u : List UInt8) (b : UInt8) (h : ∀ c ∈ u, 128 ≤ c.toNat) (h0 : (u ++ [b]).head? ≠ some 128) (hb : b.toNat < 128) : u ++ [b] = e128 (val7 (u ++ [b])) := by
  have hu : u = hd7 (val7 u) := hd7_of u h (by
    cases u with
    | nil => simp
    | cons x r => simpa using h0)
  rw [e128, val7_snoc]
  have e1 : (128 * val7 u + b.toNat % 128) / 128 = val7 u := by omega
  have e2 : (128 * val7 u + b.toNat % 128) % 128 = b.toNat := by omega
  rw [e1, e2, ← hu]; simp
theorem e128_len (n : Nat) (h : n < 34359738368) : (e128 n).length ≤ 5 := by
  have key : ∀ (k m : Nat), m < 128 ^ k → (hd7 m).length ≤ k := by
    intro k
    induction k with
    | zero => intro m hm; simp at hm; subst hm; rw [hd7_zero]; simp
    | succ k ih =>
      intro m hm
      by_cases h0 : m = 0
      · subst h0; rw [hd7_zero]; simp
      · rw [hd7_pos h0, List.length_append, List.length_singleton]
        have := ih (m / 128) (by rw [Nat.pow_succ] at hm; omega)
        omega
  have := key 4 (n / 128) (by omega)
  rw [e128, List.length_append, List.length_singleton]; omega

/-! ### The contents of an object identifier -/
def numsOf : List Nat → List Nat
  | a :: b :: r => (40 * a + b) :: r
  | l => l
def arcsN : List Nat → List Nat
  | m :: M => min (m / 40) 2 :: (m - 40 * min (m / 40) 2) :: M
  | [] => []
def enc (a : List Nat) : List UInt8 := cat e128 (numsOf a)
/-- The numbers of which the contents of an object identifier consist. -/
def GoodN (N : List Nat) : Prop := 1 ≤ N.length ∧ N.length ≤ 11 ∧ N.getD 0 0 ≤ 2147483727 ∧ ∀ v ∈ N.tail, v ≤ 2147483647
theorem good_nums {a : List Nat} (h : Good a) : GoodN (numsOf a) ∧ arcsN (numsOf a) = a := by
  obtain ⟨h1, h2, h3, h4, h5⟩ := h
  match a, h1, h2, h3, h4, h5 with
  | x :: y :: r, h1, h2, h3, h4, h5 =>
    have hy := h3 y (by simp)
    simp at h2 h4 h5
    refine ⟨⟨by simp [numsOf], by simp [numsOf]; omega, by simp [numsOf]; omega, ?_⟩, ?_⟩
    · intro v hv; exact h3 v (by simp [numsOf] at hv; simp [hv])
    · have e : min ((40 * x + y) / 40) 2 = x := by omega
      rw [numsOf, arcsN, e]
      have e2 : 40 * x + y - 40 * x = y := by omega
      rw [e2]
theorem goodN_arcs {N : List Nat} (h : GoodN N) : Good (arcsN N) ∧ numsOf (arcsN N) = N := by
  obtain ⟨h1, h2, h3, h4⟩ := h
  match N, h1, h2, h3, h4 with
  | m :: M, h1, h2, h3, h4 =>
    simp at h2 h3 h4
    refine ⟨⟨by simp [arcsN], by simp [arcsN]; omega, ?_, by simp [arcsN]; omega, ?_⟩, ?_⟩
    · intro v hv
      simp [arcsN] at hv
      rcases hv with rfl | rfl | hv
      · omega
      · omega
      · exact h4 v hv
    · simp [arcsN]; omega
    · rw [arcsN, numsOf]
      have e : 40 * min (m / 40) 2 + (m - 40 * min (m / 40) 2) = m := by omega
      rw [e]
theorem nums_arcs {N : List Nat} (h : N ≠ []) : numsOf (arcsN N) = N := by
  cases N with
  | nil => exact absurd rfl h
  | cons m M =>
    rw [arcsN, numsOf]
    have e : 40 * min (m / 40) 2 + (m - 40 * min (m / 40) 2) = m := by omega
    rw [e]
theorem goodN_of {N : List Nat} (h : N ≠ []) (g : Good (arcsN N)) : GoodN N := by
  have := (good_nums g).1
  rwa [nums_arcs h] at this
/-- The contents c are those of the object identifier with the numbers a. -/
def Dec (c : List UInt8) (a : List Nat) : Prop := Good a ∧ c = enc a
theorem dec_one {c : List UInt8} {a b : List Nat} (h : Dec c a) (k : Dec c b) : a = b := by
  have e : numsOf a = numsOf b := code_inj e128_code e128_ne (h.2.symm.trans k.2)
  rw [← (good_nums h.1).2, e, (good_nums k.1).2]
theorem dec_iff {c : List UInt8} {N : List Nat} (h : GoodN N) (e : c = cat e128 N) : Dec c (arcsN N) := ⟨(goodN_arcs h).1, by rw [enc, (goodN_arcs h).2]; exact e⟩
/-- Contents that begin with the numbers A: what is left begins with the next number. -/
theorem dec_next {c r : List UInt8} {A a : List Nat} (hc : c = cat e128 A ++ r) (h : Dec c a) : ∃ M, numsOf a = A ++ M ∧ r = cat e128 M ∧ GoodN (A ++ M) := by
  have e := h.2
  rw [hc, enc] at e
  obtain ⟨M, e1, e2⟩ := code_cut e128_code e128_ne A _ _ e.symm
  exact ⟨M, e1, e2, by rw [← e1]; exact (good_nums h.1).1⟩

/-! ### The order, and what lies under what -/
/-- The arcs of b are the first ones of a. -/
def under (a b : List Nat) : Bool := decide (b.length ≤ a.length) && decide (a.take b.length = b)
end Go.Proofs.YtpmlkofceidnjaaGreatDoor
