/-
  The contract of text.Escape: the escaped form of a string; nothing that was there before the call has changed.
-/
import Derived.Test.YtfpfgdbfigdooaaDoorXplain
import Derived.Test.YtfpfgdbfigdooaaDoorXfold
namespace Go.Proofs.YtfpfgdbfigdooaaDoor
open Go.RowKit

theorem digit_at (h : Nat) (hh : h < 16) (w : World) : (Instr.index 9 (.string ⟨#[48, 49, 50, 51, 52, 53, 54, 55, 56, 57, 97, 98, 99, 100, 101, 102]⟩) (.int .u8 (h : Int))).run Tryd.prog w = .ok (.int .u8 (((hexDigit h).toNat : Nat) : Int)) w := by
  obtain rfl | rfl | rfl | rfl | rfl | rfl | rfl | rfl | rfl | rfl | rfl | rfl | rfl | rfl | rfl | rfl : h = 0 ∨ h = 1 ∨ h = 2 ∨ h = 3 ∨ h = 4 ∨ h = 5 ∨ h = 6 ∨ h = 7 ∨ h = 8 ∨ h = 9 ∨ h = 10 ∨ h = 11 ∨ h = 12 ∨ h = 13 ∨ h = 14 ∨ h = 15 := by omega
  all_goals kernel_rfl
/-- The escaped form as a text. -/
def escS (s : ByteArray) : ByteArray := strOf (escL s.data.toList)
theorem escS_size (s : ByteArray) : (escS s).size ≤ 3 * s.size := escL_len s.data.toList
theorem hex_mask (n : Nat) (h : n < 256) : bits BinOp.and .u8 ((n : Nat) : Int) 15 = ((n % 16 : Nat) : Int) := by
  revert n; decide +kernel

end Go.Proofs.YtfpfgdbfigdooaaDoor
