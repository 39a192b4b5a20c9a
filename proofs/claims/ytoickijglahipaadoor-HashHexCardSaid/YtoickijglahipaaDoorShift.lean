/-
  Shifts of words by literals, as the walk spells them. Nothing is claimed of the program here.
-/
import Derived.Test.YtoickijglahipaaDoorSha
namespace Go.Proofs.YtoickijglahipaaDoor
@[go_sem] theorem u32_shl_7 (x : BitVec 32) : IntKind.u32.wrap (u32 x * (128 : Int)) = u32 (x <<< 7) := u32_shl_bv x 7
@[go_sem] theorem u32_shl_10 (x : BitVec 32) : IntKind.u32.wrap (u32 x * (1024 : Int)) = u32 (x <<< 10) := u32_shl_bv x 10
@[go_sem] theorem u32_shl_13 (x : BitVec 32) : IntKind.u32.wrap (u32 x * (8192 : Int)) = u32 (x <<< 13) := u32_shl_bv x 13
@[go_sem] theorem u32_shl_14 (x : BitVec 32) : IntKind.u32.wrap (u32 x * (16384 : Int)) = u32 (x <<< 14) := u32_shl_bv x 14
@[go_sem] theorem u32_shl_15 (x : BitVec 32) : IntKind.u32.wrap (u32 x * (32768 : Int)) = u32 (x <<< 15) := u32_shl_bv x 15
@[go_sem] theorem u32_shl_16 (x : BitVec 32) : IntKind.u32.wrap (u32 x * (65536 : Int)) = u32 (x <<< 16) := u32_shl_bv x 16
@[go_sem] theorem u32_shl_19 (x : BitVec 32) : IntKind.u32.wrap (u32 x * (524288 : Int)) = u32 (x <<< 19) := u32_shl_bv x 19
@[go_sem] theorem u32_shl_21 (x : BitVec 32) : IntKind.u32.wrap (u32 x * (2097152 : Int)) = u32 (x <<< 21) := u32_shl_bv x 21
@[go_sem] theorem u32_shl_24 (x : BitVec 32) : IntKind.u32.wrap (u32 x * (16777216 : Int)) = u32 (x <<< 24) := u32_shl_bv x 24
@[go_sem] theorem u32_shl_25 (x : BitVec 32) : IntKind.u32.wrap (u32 x * (33554432 : Int)) = u32 (x <<< 25) := u32_shl_bv x 25
@[go_sem] theorem u32_shl_26 (x : BitVec 32) : IntKind.u32.wrap (u32 x * (67108864 : Int)) = u32 (x <<< 26) := u32_shl_bv x 26
@[go_sem] theorem u32_shl_30 (x : BitVec 32) : IntKind.u32.wrap (u32 x * (1073741824 : Int)) = u32 (x <<< 30) := u32_shl_bv x 30
@[go_sem] theorem u32_shr_2 (x : BitVec 32) : u32 x / (4 : Int) = u32 (x >>> 2) := u32_shr_bv x 2
@[go_sem] theorem u32_shr_6 (x : BitVec 32) : u32 x / (64 : Int) = u32 (x >>> 6) := u32_shr_bv x 6
@[go_sem] theorem u32_shr_7 (x : BitVec 32) : u32 x / (128 : Int) = u32 (x >>> 7) := u32_shr_bv x 7
@[go_sem] theorem u32_shr_8 (x : BitVec 32) : u32 x / (256 : Int) = u32 (x >>> 8) := u32_shr_bv x 8
@[go_sem] theorem u32_shr_11 (x : BitVec 32) : u32 x / (2048 : Int) = u32 (x >>> 11) := u32_shr_bv x 11
@[go_sem] theorem u32_shr_13 (x : BitVec 32) : u32 x / (8192 : Int) = u32 (x >>> 13) := u32_shr_bv x 13
@[go_sem] theorem u32_shr_16 (x : BitVec 32) : u32 x / (65536 : Int) = u32 (x >>> 16) := u32_shr_bv x 16
@[go_sem] theorem u32_shr_17 (x : BitVec 32) : u32 x / (131072 : Int) = u32 (x >>> 17) := u32_shr_bv x 17
@[go_sem] theorem u32_shr_18 (x : BitVec 32) : u32 x / (262144 : Int) = u32 (x >>> 18) := u32_shr_bv x 18
@[go_sem] theorem u32_shr_19 (x : BitVec 32) : u32 x / (524288 : Int) = u32 (x >>> 19) := u32_shr_bv x 19
@[go_sem] theorem u32_shr_22 (x : BitVec 32) : u32 x / (4194304 : Int) = u32 (x >>> 22) := u32_shr_bv x 22
@[go_sem] theorem u32_shr_24 (x : BitVec 32) : u32 x / (16777216 : Int) = u32 (x >>> 24) := u32_shr_bv x 24
@[go_sem] theorem u32_shr_25 (x : BitVec 32) : u32 x / (33554432 : Int) = u32 (x >>> 25) := u32_shr_bv x 25
@[go_sem] theorem rot_eq_2 (x : BitVec 32) : x >>> 2 ||| x <<< 30 = rotr x 2 := BitVec.or_comm _ _
@[go_sem] theorem rot_eq_6 (x : BitVec 32) : x >>> 6 ||| x <<< 26 = rotr x 6 := BitVec.or_comm _ _
@[go_sem] theorem rot_eq_7 (x : BitVec 32) : x >>> 7 ||| x <<< 25 = rotr x 7 := BitVec.or_comm _ _
@[go_sem] theorem rot_eq_11 (x : BitVec 32) : x >>> 11 ||| x <<< 21 = rotr x 11 := BitVec.or_comm _ _
@[go_sem] theorem rot_eq_13 (x : BitVec 32) : x >>> 13 ||| x <<< 19 = rotr x 13 := BitVec.or_comm _ _
@[go_sem] theorem rot_eq_17 (x : BitVec 32) : x >>> 17 ||| x <<< 15 = rotr x 17 := BitVec.or_comm _ _
@[go_sem] theorem rot_eq_18 (x : BitVec 32) : x >>> 18 ||| x <<< 14 = rotr x 18 := BitVec.or_comm _ _
@[go_sem] theorem rot_eq_19 (x : BitVec 32) : x >>> 19 ||| x <<< 13 = rotr x 19 := BitVec.or_comm _ _
@[go_sem] theorem rot_eq_22 (x : BitVec 32) : x >>> 22 ||| x <<< 10 = rotr x 22 := BitVec.or_comm _ _
@[go_sem] theorem rot_eq_25 (x : BitVec 32) : x >>> 25 ||| x <<< 7 = rotr x 25 := BitVec.or_comm _ _

theorem shl_shl (x : BitVec 32) (a b : Nat) : (x <<< a) <<< b = x <<< (a + b) := by rw [BitVec.shiftLeft_add]
/-- Four bytes, the most significant one first. -/
theorem wordOf_four (a b c d : UInt8) : wordOf [a, b, c, d] = bw a <<< 24 ||| bw b <<< 16 ||| bw c <<< 8 ||| bw d := by
  simp only [wordOf, List.foldl_cons, List.foldl_nil, BitVec.shiftLeft_or_distrib, shl_shl, BitVec.zero_shiftLeft, BitVec.zero_or]
end Go.Proofs.YtoickijglahipaaDoor
