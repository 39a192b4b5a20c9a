/-
  Integer and PutInteger undo each other. Nothing is claimed of the program here.
-/
import Derived.Test.YtkamoenjbllhjaaPlenz
import Derived.Test.YtkamoenjbllhjaaPrint
namespace Go.Proofs.Ytkamoenjbllhjaa
open Go.RowKit

theorem putInt_size (v : Int) : (putInt v).size = lenZ v := by unfold putInt; rw [strOf_size, putZ_length]
theorem putInt_at (v : Int) (j : Nat) (h : j < lenZ v) : u8at (putInt v) j = octZ v (lenZ v) j := by
  unfold putInt
  rw [u8at_strOf, show (putZ v (lenZ v)).getD j 0 = UInt8.ofNat (octZ v (lenZ v) j) by simp [putZ, h], ofNat_toNat (octZ_lt _ _ _)]
theorem octZ_int (v : Int) (n j : Nat) : ((octZ v n j : Nat) : Int) = v / (256 ^ (n - 1 - j) : Nat) % 256 := by unfold octZ; omega
theorem div_succ (v : Int) (k : Nat) : v / (256 ^ (k + 1) : Nat) = v / (256 ^ k : Nat) / 256 := by
  rw [Nat.pow_succ, Int.natCast_mul, Int.ediv_ediv_of_nonneg (by exact Int.natCast_nonneg _)]
  rfl
theorem spare_put (v : Int) (h0 : -9223372036854775808 ≤ v) (h1 : v < 9223372036854775808) : spare (putInt v) = false := by
  by_cases h2 : 2 ≤ lenZ v
  · have hl := lenZ_le v h0 h1
    obtain ⟨m, hm⟩ : ∃ m, lenZ v = m + 2 := ⟨lenZ v - 2, by omega⟩
    rw [spare_long (by rw [putInt_size]; exact h2) rfl rfl, putInt_at v 0 (by omega), putInt_at v 1 (by omega)]
    have ht := trim_iff v h0 h1 m (by omega) (by omega) (octZ v (lenZ v) 0) (octZ v (lenZ v) 1) (by rw [octZ_int, hm, show m + 2 - 1 - 0 = m + 1 by omega]) (by rw [octZ_int, hm, show m + 2 - 1 - 1 = m by omega])
    have hn : ¬ (octZ v (lenZ v) 0 = 0 ∧ octZ v (lenZ v) 1 < 128 ∨ octZ v (lenZ v) 0 = 255 ∧ 128 ≤ octZ v (lenZ v) 1) := fun e => by have := ht.1 e; omega
    generalize octZ v (lenZ v) 0 = x at *
    generalize octZ v (lenZ v) 1 = y at *
    simp
    omega
  · exact spare_short (by rw [putInt_size]; omega)
theorem tc_put (v : Int) (h0 : -9223372036854775808 ≤ v) (h1 : v < 9223372036854775808) (k : Nat) (hk : k ≤ lenZ v) : tc (putInt v) k = v / (256 ^ (lenZ v - k) : Nat) := by
  have hl := lenZ_le v h0 h1
  induction k with
  | zero =>
    obtain ⟨m, hm⟩ : ∃ m, lenZ v = m + 1 := ⟨lenZ v - 1, by omega⟩
    have hb := (lenZ_iff v h0 h1 m (by omega)).1 (by omega)
    have hx := octZ_int v (lenZ v) 0
    rw [tc, sgn, putInt_at v 0 (by omega), Nat.sub_zero]
    rw [hm, show m + 1 - 1 - 0 = m by omega] at hx
    rw [hm, div_succ]
    have hp : (0 : Int) < (256 ^ m : Nat) := by exact_mod_cast Nat.pow_pos (by decide)
    have hq1 : v / (256 ^ m : Nat) < 128 := Int.ediv_lt_of_lt_mul hp hb.2
    have hq0 : -128 ≤ v / (256 ^ m : Nat) := (Int.le_ediv_iff_mul_le hp).2 (by rw [Int.neg_mul]; exact hb.1)
    generalize v / (256 ^ m : Nat) = q at *
    generalize octZ v (m + 1) 0 = x at *
    split <;> omega
  | succ k ih =>
    have hx := octZ_int v (lenZ v) k
    rw [tc, ih (by omega), putInt_at v k (by omega), hx]
    obtain ⟨m, hm⟩ : ∃ m, lenZ v = k + 1 + m := ⟨lenZ v - (k + 1), by omega⟩
    rw [hm, show k + 1 + m - k = m + 1 by omega, show k + 1 + m - 1 - k = m by omega, show k + 1 + m - (k + 1) = m by omega, div_succ]
    generalize v / (256 ^ m : Nat) = q
    omega
theorem int_put (v : Int) (h0 : -9223372036854775808 ≤ v) (h1 : v < 9223372036854775808) : intVal (putInt v) = .tuple #[.int .i64 v, .int .i64 0] := by
  have hl := lenZ_le v h0 h1
  have hs := putInt_size v
  rw [int_good (by omega) (spare_put v h0 h1) (by omega), hs, tc_put v h0 h1 _ (Nat.le_refl _), Nat.sub_self, Nat.pow_zero]
  simp

theorem tc_div (c : ByteArray) (k j : Nat) : tc c (k + j) / (256 ^ j : Nat) = tc c k := by
  induction j with
  | zero => simp
  | succ j ih =>
    have := u8at_lt c (k + j)
    rw [Nat.pow_succ, Nat.mul_comm, Int.natCast_mul, ← Int.ediv_ediv_of_nonneg (by decide), show k + (j + 1) = (k + j) + 1 by omega, tc, ← ih]
    congr 1
    show (256 * tc c (k + j) + ((u8at c (k + j) : Nat) : Int)) / 256 = _
    omega
theorem octZ_tc (c : ByteArray) (n j : Nat) (h : j < n) : octZ (tc c n) n j = u8at c j := by
  have hb := u8at_lt c j
  have e := tc_div c (j + 1) (n - 1 - j)
  rw [show j + 1 + (n - 1 - j) = n by omega] at e
  unfold octZ
  rw [e, tc]
  omega
theorem tc_range (c : ByteArray) (h0 : c.size ≠ 0) (h8 : ¬ 8 < c.size) : -9223372036854775808 ≤ tc c c.size ∧ tc c c.size < 9223372036854775808 ∧ lenZ (tc c c.size) ≤ c.size := by
  obtain ⟨m, hm⟩ : ∃ m, c.size = m + 1 := ⟨c.size - 1, by omega⟩
  have hb := tc_bound c m
  rw [hm]
  have hr : -9223372036854775808 ≤ tc c (m + 1) ∧ tc c (m + 1) < 9223372036854775808 := by
    rcases (by omega : m = 0 ∨ m = 1 ∨ m = 2 ∨ m = 3 ∨ m = 4 ∨ m = 5 ∨ m = 6 ∨ m = 7) with rfl | rfl | rfl | rfl | rfl | rfl | rfl | rfl <;> simp at hb ⊢ <;> omega
  exact ⟨hr.1, hr.2, (lenZ_iff _ hr.1 hr.2 m (by omega)).2 hb⟩
theorem len_tc (c : ByteArray) (h0 : c.size ≠ 0) (h8 : ¬ 8 < c.size) (hs : spare c = false) : lenZ (tc c c.size) = c.size := by
  obtain ⟨r0, r1, r2⟩ := tc_range c h0 h8
  have hl := lenZ_le _ r0 r1
  by_cases h2 : 2 ≤ c.size
  · obtain ⟨m, hm⟩ : ∃ m, c.size = m + 2 := ⟨c.size - 2, by omega⟩
    have e0 := octZ_tc c c.size 0 (by omega)
    have e1 := octZ_tc c c.size 1 (by omega)
    have ht := trim_iff (tc c c.size) r0 r1 m (by omega) (by omega) (u8at c 0) (u8at c 1) (by rw [← e0, octZ_int, hm, show m + 2 - 1 - 0 = m + 1 by omega]) (by rw [← e1, octZ_int, hm, show m + 2 - 1 - 1 = m by omega])
    rw [spare_long h2 rfl rfl] at hs
    have hn : ¬ lenZ (tc c c.size) ≤ m + 1 := fun e => by
      have := ht.2 e
      simp at hs
      omega
    omega
  · omega
theorem put_int (c : ByteArray) (h0 : c.size ≠ 0) (h8 : ¬ 8 < c.size) (hs : spare c = false) : putInt (tc c c.size) = c := by
  have hl := len_tc c h0 h8 hs
  apply str_ext
  · rw [putInt_size, hl]
  · intro i hi
    rw [putInt_size] at hi
    rw [putInt_at _ _ hi, hl]
    exact octZ_tc c c.size i (by omega)
end Go.Proofs.Ytkamoenjbllhjaa
