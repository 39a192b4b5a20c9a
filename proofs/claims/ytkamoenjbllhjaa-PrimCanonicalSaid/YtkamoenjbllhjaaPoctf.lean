/-
  The bytes of lists of named bits, bit by bit. Nothing is claimed of the program here.
-/
import Derived.Test.YtkamoenjbllhjaaPrflags
import Derived.Test.YtkamoenjbllhjaaPlenz
namespace Go.Proofs.Ytkamoenjbllhjaa
open Go.RowKit

theorem top_bit (r i : Nat) (h : r ≤ 7) : (128 >>> r).testBit i = decide (i = 7 - r) := by
  rw [Nat.testBit_shiftRight, show (128 : Nat) = 2 ^ 7 from rfl, Nat.testBit_two_pow]
  by_cases e : i = 7 - r
  · rw [decide_eq_true e, decide_eq_true (by omega)]
  · rw [decide_eq_false e, decide_eq_false (by omega)]
theorem octF_bit (m j k i : Nat) : (octF m j k).testBit i = (decide (i ≤ 7) && decide (8 * j + (7 - i) < k) && m.testBit (8 * j + (7 - i))) := by
  induction k with
  | zero => simp [octF]
  | succ k ih =>
    rw [octF]
    by_cases h : k / 8 = j ∧ m.testBit k = true
    · rw [if_pos h, Nat.testBit_or, ih, top_bit _ _ (by omega)]
      by_cases e : i = 7 - k % 8
      · have e2 : 8 * j + (7 - i) = k := by omega
        rw [e2, decide_eq_true e, decide_eq_true (show i ≤ 7 by omega), decide_eq_true (show k < k + 1 by omega), h.2]
        simp
      · rw [decide_eq_false e, Bool.or_false]
        by_cases hi : i ≤ 7
        · by_cases hk : 8 * j + (7 - i) < k
          · rw [decide_eq_true hi, decide_eq_true hk, decide_eq_true (show 8 * j + (7 - i) < k + 1 by omega)]
          · rw [decide_eq_true hi, decide_eq_false hk, decide_eq_false (show ¬ 8 * j + (7 - i) < k + 1 by omega)]
        · rw [decide_eq_false hi]; rfl
    · rw [if_neg h, ih]
      by_cases hi : i ≤ 7
      · by_cases hk : 8 * j + (7 - i) < k
        · rw [decide_eq_true hi, decide_eq_true hk, decide_eq_true (show 8 * j + (7 - i) < k + 1 by omega)]
        · by_cases hk2 : 8 * j + (7 - i) < k + 1
          · have e2 : 8 * j + (7 - i) = k := by omega
            have hb : m.testBit k = false := by
              cases hb : m.testBit k with
              | false => rfl
              | true => exact absurd ⟨by omega, hb⟩ h
            rw [e2, hb]; simp
          · rw [decide_eq_true hi, decide_eq_false hk, decide_eq_false hk2]
      · rw [decide_eq_false hi]; rfl
theorem octF_lt (m j k : Nat) : octF m j k < 256 := by
  apply Nat.lt_pow_two_of_testBit (n := 8)
  intro i hi
  rw [octF_bit, decide_eq_false (by omega)]; rfl
theorem putF_length (m n k : Nat) : (putF m n k).length = n := by simp [putF]
theorem putF_get (m n k j : Nat) (h : j < n) : (putF m n k).getD j 0 = UInt8.ofNat (octF m j k) := by simp [putF, h]
theorem putF_u8 (m n k j : Nat) (h : j < n) : u8at (strOf (putF m n k)) j = octF m j k := by
  rw [u8at_strOf, putF_get m n k j h, ofNat_toNat (octF_lt _ _ _)]
theorem putF_zero (m n : Nat) : putF m n 0 = List.replicate n 0 := by
  apply List.ext_getElem
  · simp [putF]
  · intro i h1 h2
    simp [putF, octF]
theorem putF_skip (m n k : Nat) (h : m.testBit k = false) : putF m n (k + 1) = putF m n k := by
  unfold putF
  apply List.map_congr_left
  intro j _
  rw [octF, if_neg (by rw [h]; simp)]
theorem putF_write (m n k : Nat) (h : m.testBit k = true) : (putF m n k).set (k / 8) (UInt8.ofNat (octF m (k / 8) k ||| 128 >>> (k % 8))) = putF m n (k + 1) := by
  apply List.ext_getElem
  · simp [putF]
  · intro i h1 h2
    rw [List.getElem_set]
    simp only [putF, List.getElem_map, List.getElem_range]
    by_cases e : k / 8 = i
    · rw [if_pos e, octF, if_pos ⟨e, h⟩, e]
    · rw [if_neg e, octF, if_neg (fun x => e x.1)]
/-- What the unused bits of such a list are. -/
theorem putF_unused (m n sz : Nat) (hsz : sz = (n + 7) / 8) : unusedOk (strOf (putF m sz n)) (8 * sz - n) = true := by
  by_cases hu : 8 * sz - n = 0
  · rw [hu]; exact unusedOk_zero _
  · have hs : (strOf (putF m sz n)).size = sz := by rw [strOf_size, putF_length]
    rw [unusedOk_some hu (by rw [hs]; omega), hs, putF_u8 _ _ _ _ (by omega)]
    apply decide_eq_true
    apply Nat.eq_of_testBit_eq
    intro i
    rw [Nat.testBit_mod_two_pow, octF_bit, Nat.zero_testBit]
    by_cases hi : i < 8 * sz - n
    · rw [decide_eq_false (show ¬ 8 * (sz - 1) + (7 - i) < n by omega)]; simp
    · rw [decide_eq_false hi]; simp
end Go.Proofs.Ytkamoenjbllhjaa
