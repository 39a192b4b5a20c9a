/-
  The contract of sizeOf of prim.
-/
import Derived.Test.YtkamoenjbllhjaaPint
namespace Go.Proofs.Ytkamoenjbllhjaa
open Go.RowKit

set_option maxRecDepth 100000 in
theorem size_pos (n : Nat) (w : World) (h : n < 9223372036854775808) (L : Nat) (hL : L = Lib.bitLen n) (hl : L ≤ 63) :
    Calls Try.prog 27 #[.int .i64 (n : Int)] w fun e w' => e = .returned (.int .i64 ((L / 8 + 1 : Nat) : Int)) ∧ w' = w := by
  have d : decide ((n : Int) < 0) = false := by simp
  have HB := Lib.hid hL
  have HH := Lib.hid h
  clear hL
  go_enter Try.func27, Try.ntmps27
  go_wp2_with (go_at_call 30; (with_reducible refine (blen_any n _ (by have := HH.out; omega)).mono ?_); rw [← HB.out]; rintro e w1 ⟨rfl, rfl⟩)
  go_ret
  exact ⟨rfl, rfl⟩
theorem not_i64 (n : Nat) (h : n < 9223372036854775808) : bits BinOp.xor .i64 (-1) (-(n : Int) - 1) = (n : Int) := by
  show IntKind.i64.wrap ((BitVec.ofInt 64 (-1) ^^^ BitVec.ofInt 64 (-(n : Int) - 1)).toNat : Int) = _
  have e : BitVec.ofInt 64 (-1) ^^^ BitVec.ofInt 64 (-(n : Int) - 1) = ~~~ BitVec.ofInt 64 (-(n : Int) - 1) := by
    rw [show BitVec.ofInt 64 (-1) = BitVec.allOnes 64 by decide, BitVec.allOnes_xor]
  rw [e, BitVec.toNat_not, BitVec.toNat_ofInt, wrap_i64]
  have e2 : ((-(n : Int) - 1) % (2 ^ 64 : Nat)).toNat = 18446744073709551615 - n := by
    show ((-(n : Int) - 1) % (18446744073709551616 : Nat)).toNat = _
    omega
  rw [e2]
  show ((18446744073709551616 - 1 - (18446744073709551615 - n) : Nat) + 9223372036854775808 : Int) % 18446744073709551616 - 9223372036854775808 = _
  omega
set_option maxRecDepth 100000 in
theorem size_neg (n : Nat) (w : World) (h : n < 9223372036854775808) (L : Nat) (hL : L = Lib.bitLen n) (hl : L ≤ 63) :
    Calls Try.prog 27 #[.int .i64 (-(n : Int) - 1)] w fun e w' => e = .returned (.int .i64 ((L / 8 + 1 : Nat) : Int)) ∧ w' = w := by
  have d : decide (-(n : Int) - 1 < 0) = true := by simp; omega
  have HB := Lib.hid hL
  have HH := Lib.hid h
  have hx := not_i64 n h
  have hs : IntKind.i64.signed = true := rfl
  clear hL
  go_enter Try.func27, Try.ntmps27
  go_wp2_with (go_at_call 30; (with_reducible refine (blen_any n _ (by have := HH.out; omega)).mono ?_); rw [← HB.out]; rintro e w1 ⟨rfl, rfl⟩)
  go_ret
  exact ⟨rfl, rfl⟩

theorem bitLen_63 {n : Nat} (h : n < 9223372036854775808) : Lib.bitLen n ≤ 63 := Lib.bitLen_le n 63 (by omega) h
theorem size_any (v : Int) (w : World) (h0 : -9223372036854775808 ≤ v) (h1 : v < 9223372036854775808) :
    Calls Try.prog 27 #[.int .i64 v] w fun e w' => e = .returned (.int .i64 ((lenZ v : Nat) : Int)) ∧ w' = w := by
  unfold lenZ
  by_cases hv : v < 0
  · rw [if_pos hv]
    obtain ⟨n, rfl⟩ : ∃ n : Nat, v = -(n : Int) - 1 := ⟨(-v - 1).toNat, by omega⟩
    have e : (-(-(n : Int) - 1) - 1).toNat = n := by omega
    rw [e]
    exact size_neg n w (by omega) _ rfl (bitLen_63 (by omega))
  · rw [if_neg hv]
    obtain ⟨n, rfl⟩ : ∃ n : Nat, v = (n : Int) := ⟨v.toNat, by omega⟩
    exact size_pos n w (by omega) _ rfl (bitLen_63 (by omega))
end Go.Proofs.Ytkamoenjbllhjaa
