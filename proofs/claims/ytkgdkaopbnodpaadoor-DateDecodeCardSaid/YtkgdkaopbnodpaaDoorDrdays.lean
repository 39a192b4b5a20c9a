/-
  The contracts of the reference's days and before.
-/
import Derived.Test.YtkgdkaopbnodpaaDoorDciv
import Derived.Lib.QuietBelow
namespace Go.Proofs.YtkgdkaopbnodpaaDoor
open Go.RowKit

set_option maxRecDepth 100000 in
set_option maxHeartbeats 1000000 in
theorem rbef_any (y : Nat) (w : World) (h : 1950 ≤ y) (h2 : y ≤ 10000) :
    Calls Tryd.prog 27 #[.int .i64 (y : Int)] w fun e w' => e = .returned (.int .i64 ((bef y : Nat) : Int)) ∧ w' = w := by
  obtain ⟨p, hp⟩ : ∃ p, p = y - 1 := ⟨_, rfl⟩
  have hy : (y : Int) - 1 = (p : Int) := by omega
  have HL := Lib.hid (show 365 * ((y : Int) - 1950) + ((p : Int) / 4 - (p : Int) / 100 + (p : Int) / 400) - 472 = ((bef y : Nat) : Int) by
    rw [← bef_int h, lps_1949, ← hp]
    unfold lps
    omega)
  clear hp
  go_enter Tryd.func27, Tryd.ntmps27
  go_wp2_with fail
  go_ret
  exact ⟨by rw [← HL.out]; rfl, rfl⟩

theorem row_mtab (W : World) (j : Nat) (hj : j < 12) : (W.alloc (.cells #[.int .i64 31, .int .i64 28, .int .i64 31, .int .i64 30, .int .i64 31, .int .i64 30, .int .i64 31, .int .i64 31, .int .i64 30, .int .i64 31, .int .i64 30, .int .i64 31] 3)).cell? ⟨W.heap.size, j, none⟩ = some (.int .i64 ((mtab.getD j 0 : Nat) : Int)) := by
  have h := row_ints W [31, 28, 31, 30, 31, 30, 31, 31, 30, 31, 30, 31] j hj
  rw [show ((mtab.getD j 0 : Nat) : Int) = [31, 28, 31, 30, 31, 30, 31, 31, 30, 31, 30, 31].getD j 0 by
    rcases (by omega : j = 0 ∨ j = 1 ∨ j = 2 ∨ j = 3 ∨ j = 4 ∨ j = 5 ∨ j = 6 ∨ j = 7 ∨ j = 8 ∨ j = 9 ∨ j = 10 ∨ j = 11) with rfl | rfl | rfl | rfl | rfl | rfl | rfl | rfl | rfl | rfl | rfl | rfl <;> rfl]
  exact h
theorem leap_yes1 {y : Nat} (h : y % 4 = 0) (h2 : y % 100 ≠ 0) : leap y = 1 := by unfold leap isLeap; simp [h, h2]
theorem leap_yes2 {y : Nat} (h : y % 400 = 0) : leap y = 1 := by
  have : y % 4 = 0 := by omega
  unfold leap isLeap; simp [h, this]
theorem leap_no1 {y : Nat} (h : y % 4 ≠ 0) : leap y = 0 := by unfold leap isLeap; simp [h]
theorem leap_no2 {y : Nat} (h : y % 100 = 0) (h2 : y % 400 ≠ 0) : leap y = 0 := by unfold leap isLeap; simp [h, h2]
theorem mdays_two {y : Nat} : mdays y 2 = 28 + leap y := by unfold mdays mtab; simp

set_option maxRecDepth 100000 in
set_option maxHeartbeats 1000000 in
theorem rdays_any (y m : Nat) (w : World) (h1 : 1950 ≤ y) (h2 : y ≤ 10000) (h3 : 1 ≤ m) (h4 : m ≤ 12) :
    Calls Tryd.prog 28 #[.int .i64 (y : Int), .int .i64 (m : Int)] w fun e w' => e = .returned (.int .i64 ((mdays y m : Nat) : Int)) ∧ Below w.heap.size w w' := by
  by_cases hm : m = 2
  · subst hm
    rw [mdays_two]
    have hc : (w.alloc (.cells #[.int .i64 31, .int .i64 28, .int .i64 31, .int .i64 30, .int .i64 31, .int .i64 30, .int .i64 31, .int .i64 31, .int .i64 30, .int .i64 31, .int .i64 30, .int .i64 31] 3)).cell? ⟨w.heap.size, 1, none⟩ = some (.int .i64 28) := row_mtab w 1 (by omega)
    show Calls _ _ #[.int .i64 (y : Int), .int .i64 2] _ _
    by_cases g4 : y % 4 = 0
    · have e4 : ((y : Int) % 4 == 0) = true := beq_iff_eq.2 (by omega)
      by_cases g100 : y % 100 = 0
      · have e100 : ((y : Int) % 100 != 0) = false := by simp; omega
        by_cases g400 : y % 400 = 0
        · have e400 : ((y : Int) % 400 == 0) = true := beq_iff_eq.2 (by omega)
          rw [leap_yes2 g400]
          clear g4 g100 g400
          go_enter Tryd.func28, Tryd.ntmps28
          go_wp2_with fail
          go_ret
          exact ⟨rfl, Below.refl _ _⟩
        · have e400 : ((y : Int) % 400 == 0) = false := beq_eq_false_iff_ne.2 (by omega)
          rw [leap_no2 g100 g400]
          clear g4 g100 g400
          go_enter Tryd.func28, Tryd.ntmps28
          go_wp2_with fail
          go_ret
          exact ⟨rfl, belowNew _ _⟩
      · have e100 : ((y : Int) % 100 != 0) = true := by simp; omega
        rw [leap_yes1 g4 g100]
        clear g4 g100
        go_enter Tryd.func28, Tryd.ntmps28
        go_wp2_with fail
        go_ret
        exact ⟨rfl, Below.refl _ _⟩
    · have e4 : ((y : Int) % 4 == 0) = false := beq_eq_false_iff_ne.2 (by omega)
      rw [leap_no1 g4]
      clear g4
      go_enter Tryd.func28, Tryd.ntmps28
      go_wp2_with fail
      go_ret
      exact ⟨rfl, belowNew _ _⟩
  · rw [mdays_not hm]
    have e2 : ((m : Int) == 2) = false := beq_eq_false_iff_ne.2 (by omega)
    obtain ⟨j, hj⟩ : ∃ j, j = m - 1 := ⟨_, rfl⟩
    have hji : (m : Int) - 1 = (j : Int) := by omega
    have hj12 : j < 12 := by omega
    rw [← hj]
    have hc := row_mtab w j hj12
    generalize mtab.getD j 0 = M at hc ⊢
    clear hj hm
    go_enter Tryd.func28, Tryd.ntmps28
    go_wp2_with fail
    go_ret
    exact ⟨rfl, belowNew _ _⟩
end Go.Proofs.YtkgdkaopbnodpaaDoor
