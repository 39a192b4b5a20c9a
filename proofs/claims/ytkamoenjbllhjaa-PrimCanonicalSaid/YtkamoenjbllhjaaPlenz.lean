/-
  How many bytes a number needs in two's complement, and what its first bytes say of that. Nothing is claimed of the program here.
-/
import Derived.Test.YtkamoenjbllhjaaPput
namespace Go.Proofs.Ytkamoenjbllhjaa
open Go.RowKit

theorem blen_pos {x : Nat} (h0 : x ≠ 0) (h : x < 18446744073709551616) : 1 ≤ Lib.bitLen x := by
  rw [Lib.bitLen_half x h0 h]; omega
theorem blen_iff {x k : Nat} (h : x < 18446744073709551616) (hk : k ≤ 64) : Lib.bitLen x ≤ k ↔ x < 2 ^ k := by
  constructor
  · intro hl
    rcases Nat.lt_or_ge x (2 ^ k) with h1 | h1
    · exact h1
    · exfalso
      rw [Lib.bitLen_shift k x h1 h] at hl
      have hp : 0 < 2 ^ k := Nat.two_pow_pos k
      have h2 : 1 ≤ x / 2 ^ k := (Nat.one_le_div_iff hp).2 h1
      have h3 : x / 2 ^ k ≤ x := Nat.div_le_self _ _
      have := blen_pos (x := x / 2 ^ k) (by omega) (by omega)
      omega
  · exact Lib.bitLen_le x k hk
theorem lenZ_iff (v : Int) (h0 : -9223372036854775808 ≤ v) (h1 : v < 9223372036854775808) (m : Nat) (hm : m ≤ 7) :
    lenZ v ≤ m + 1 ↔ -(128 * (256 ^ m : Nat) : Int) ≤ v ∧ v < 128 * (256 ^ m : Nat) := by
  unfold lenZ
  obtain ⟨a, ha⟩ : ∃ a, a = (if v < 0 then -v - 1 else v).toNat := ⟨_, rfl⟩
  rw [← ha]
  have hb : a < 9223372036854775808 := by rw [ha]; split <;> omega
  have e : Lib.bitLen a / 8 + 1 ≤ m + 1 ↔ Lib.bitLen a ≤ 8 * m + 7 := by omega
  rw [e, blen_iff (by omega) (by omega)]
  have ep : (2 : Nat) ^ (8 * m + 7) = 128 * 256 ^ m := by
    rw [Nat.pow_add, Nat.pow_mul, Nat.mul_comm]
  rw [ep]
  generalize 256 ^ m = p
  split at ha <;> omega
/-- Of the bytes of a number that fits into m + 2 bytes, the first one can be left out exactly if it fits into m + 1. -/
theorem trim_iff (v : Int) (h0 : -9223372036854775808 ≤ v) (h1 : v < 9223372036854775808) (m : Nat) (hm : m ≤ 6) (h : lenZ v ≤ m + 2) (x y : Nat)
    (hx : (x : Int) = v / (256 ^ (m + 1) : Nat) % 256) (hy : (y : Int) = v / (256 ^ m : Nat) % 256) :
    (x = 0 ∧ y < 128 ∨ x = 255 ∧ 128 ≤ y) ↔ lenZ v ≤ m + 1 := by
  rw [lenZ_iff v h0 h1 m (by omega)]
  rw [lenZ_iff v h0 h1 (m + 1) (by omega)] at h
  have e1 : v / (256 ^ (m + 1) : Nat) = v / (256 ^ m : Nat) / 256 := by
    rw [Nat.pow_succ, Int.natCast_mul, Int.ediv_ediv_of_nonneg (by exact Int.natCast_nonneg _)]
    rfl
  rw [e1] at hx
  obtain ⟨q, hq⟩ : ∃ q, q = v / (256 ^ m : Nat) := ⟨_, rfl⟩
  rw [← hq] at hx hy
  rcases (by omega : m = 0 ∨ m = 1 ∨ m = 2 ∨ m = 3 ∨ m = 4 ∨ m = 5 ∨ m = 6) with rfl | rfl | rfl | rfl | rfl | rfl | rfl <;> simp at hq h ⊢ <;> omega
end Go.Proofs.Ytkamoenjbllhjaa
