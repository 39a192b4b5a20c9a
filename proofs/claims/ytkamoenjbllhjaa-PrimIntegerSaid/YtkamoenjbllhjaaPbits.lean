/-
  The contracts of bits.Len and bits.TrailingZeros8 at this program: the library's theorems, laid at the program's own numbers. Nothing is claimed of the program beyond its bodies.
-/
import Derived.Shelf.Small.Bits
import Derived.WalkKit
import Derived.Test.YtkamoenjbllhjaaChecked
namespace Go.Proofs.Ytkamoenjbllhjaa
open Go.Shelf Go.RowKit

def renP : Go.Shelf.Ren := ⟨fun | 125 => 30 | 128 => 32 | 129 => 33 | 136 => 31 | n => n, fun | 3 => 3 | 4 => 4 | 5 => 5 | 9 => 9 | 46 => 41 | 51 => 52 | 53 => 46 | n => n, fun | n => n⟩
theorem lays125 : Go.Proofs.Lays.n125 Try.prog renP := {
  mixed := by kernel_rfl
  f125 := Try.func30.trans (congrArg some (by kernel_rfl))
  f128 := Try.func32.trans (congrArg some (by kernel_rfl))
  f129 := Try.func33.trans (congrArg some (by kernel_rfl))
  t3 := Try.underlying3
  a3 := Try.isAgg3
  z3 := Try.sizeOf3
  v3 := Try.zeroValue3
  t4 := Try.underlying4
  a4 := Try.isAgg4
  z4 := Try.sizeOf4
  v4 := Try.zeroValue4
  t5 := Try.underlying5
  a5 := Try.isAgg5
  z5 := Try.sizeOf5
  v5 := Try.zeroValue5
  t9 := Try.underlying9
  a9 := Try.isAgg9
  z9 := Try.sizeOf9
  v9 := Try.zeroValue9
  t46 := Try.underlying41
  a46 := Try.isAgg41
  z46 := Try.sizeOf41
  v46 := Try.zeroValue41
  t51 := Try.underlying52
  a51 := Try.isAgg52
  z51 := Try.sizeOf52
  v51 := Try.zeroValue52
  t53 := Try.underlying46
  a53 := Try.isAgg46
  z53 := Try.sizeOf46
  v53 := Try.zeroValue46 }
theorem lays136 : Go.Proofs.Lays.n136 Try.prog renP := {
  mixed := by kernel_rfl
  f136 := Try.func31.trans (congrArg some (by kernel_rfl))
  t3 := Try.underlying3
  a3 := Try.isAgg3
  z3 := Try.sizeOf3
  v3 := Try.zeroValue3
  t5 := Try.underlying5
  a5 := Try.isAgg5
  z5 := Try.sizeOf5
  v5 := Try.zeroValue5
  t9 := Try.underlying9
  a9 := Try.isAgg9
  z9 := Try.sizeOf9
  v9 := Try.zeroValue9 }
theorem blen_any (n : Nat) (w : World) (h : n < 18446744073709551616) :
    Calls Try.prog 30 #[.int .u64 (n : Nat)] w fun e w' => e = .returned (.int .i64 ((Lib.bitLen n : Nat) : Int)) ∧ w' = w := by
  have h2 := Any.bits_Len lays125 (n : Int) w (by omega) (by omega)
  exact h2
theorem tz_any (n : Nat) (w : World) (h : n < 256) :
    Calls Try.prog 31 #[.int .u8 (n : Nat)] w fun e w' => e = .returned (.int .i64 ((Lib.trailingZeros8 n : Nat) : Int)) ∧ w' = w := by
  have h2 := Any.bits_TrailingZeros8 lays136 (n : Int) w (by omega) (by omega)
  exact h2
end Go.Proofs.Ytkamoenjbllhjaa
