/-
  The contracts of date.leapYears, daysBefore, yearOf, daysOf and within.
-/
import Derived.Test.YtkgdkaopbnodpaaDoorDbase
namespace Go.Proofs.YtkgdkaopbnodpaaDoor
open Go.RowKit

set_option maxRecDepth 100000 in
set_option maxHeartbeats 1000000 in
theorem lps_any (y : Nat) (w : World) (h : y ≤ 1000000) :
    Calls Tryd.prog 39 #[.int .i64 (y : Int)] w fun e w' => e = .returned (.int .i64 ((lps y : Nat) : Int)) ∧ w' = w := by
  have HL := Lib.hid (show (y : Int) / 4 - (y : Int) / 100 + (y : Int) / 400 = ((lps y : Nat) : Int) by unfold lps; omega)
  go_enter Tryd.func39, Tryd.ntmps39
  go_wp2_with fail
  go_ret
  exact ⟨by rw [← HL.out]; rfl, rfl⟩
theorem lps_le (y : Nat) : lps y ≤ y := by unfold lps; omega
theorem lps_1949 : lps 1949 = 472 := by decide
theorem bef_int {y : Nat} (h : 1950 ≤ y) : 365 * ((y : Int) - 1950) + ((lps (y - 1) : Nat) : Int) - ((lps 1949 : Nat) : Int) = ((bef y : Nat) : Int) := by
  have h2 := lps_mono (y - 1950)
  have e2 : 1949 + (y - 1950) = y - 1 := by omega
  rw [e2] at h2
  unfold bef
  omega

set_option maxRecDepth 100000 in
set_option maxHeartbeats 1000000 in
theorem bef_any (y : Nat) (w : World) (h : 1950 ≤ y) (h2 : y ≤ 10000) :
    Calls Tryd.prog 25 #[.int .i64 (y : Int)] w fun e w' => e = .returned (.int .i64 ((bef y : Nat) : Int)) ∧ w' = w := by
  have HL := Lib.hid (bef_int h)
  have hy : (y : Int) - 1 = ((y - 1 : Nat) : Int) := by omega
  have hle := lps_le (y - 1)
  have hc1 := fun w => lps_any (y - 1) w (by omega)
  have hc2 : ∀ w : World, Calls Tryd.prog 39 #[.int .i64 1949] w fun e w' => e = .returned (.int .i64 472) ∧ w' = w := fun w => lps_any 1949 w (by omega)
  rw [lps_1949] at HL
  have HC1 := Lib.hid hc1
  have HC2 := Lib.hid hc2
  generalize lps (y - 1) = L at HC1 HL hle
  clear hc1 hc2
  go_enter Tryd.func25, Tryd.ntmps25
  go_wp2_with (first
    | (go_at_call 39; (with_reducible refine (HC1.out _).mono ?_); rintro e w1 ⟨rfl, rfl⟩)
    | (go_at_call 39; (with_reducible refine (HC2.out _).mono ?_); rintro e w1 ⟨rfl, rfl⟩))
  go_ret
  exact ⟨by rw [← HL.out]; rfl, rfl⟩

set_option maxRecDepth 100000 in
set_option maxHeartbeats 1000000 in
theorem within_any (a b c : Int) (w : World) :
    Calls Tryd.prog 40 #[.int .i64 a, .int .i64 b, .int .i64 c] w fun e w' => e = .returned (.bool (decide (b ≤ a ∧ a ≤ c))) ∧ w' = w := by
  by_cases h1 : b ≤ a
  · have d1 : decide (b ≤ a) = true := decide_eq_true h1
    by_cases h2 : a ≤ c
    · have d2 : decide (a ≤ c) = true := decide_eq_true h2
      have HD := Lib.hid (show decide (b ≤ a ∧ a ≤ c) = true from decide_eq_true ⟨h1, h2⟩)
      clear h1 h2
      go_enter Tryd.func40, Tryd.ntmps40
      go_wp2_with fail
      go_ret
      exact ⟨by rw [HD.out]; rfl, rfl⟩
    · have d2 : decide (a ≤ c) = false := decide_eq_false h2
      have HD := Lib.hid (show decide (b ≤ a ∧ a ≤ c) = false from decide_eq_false fun h => h2 h.2)
      clear h1 h2
      go_enter Tryd.func40, Tryd.ntmps40
      go_wp2_with fail
      go_ret
      exact ⟨by rw [HD.out]; rfl, rfl⟩
  · have d1 : decide (b ≤ a) = false := decide_eq_false h1
    have HD := Lib.hid (show decide (b ≤ a ∧ a ≤ c) = false from decide_eq_false fun h => h1 h.1)
    clear h1
    go_enter Tryd.func40, Tryd.ntmps40
    go_wp2_with fail
    go_ret
    exact ⟨by rw [HD.out]; rfl, rfl⟩

theorem mdays_not {y m : Nat} (h : m ≠ 2) : mdays y m = mtab.getD (m - 1) 0 := by unfold mdays; rw [if_neg h]; rfl
theorem mtab_le (j : Nat) : mtab.getD j 0 ≤ 31 := by
  unfold mtab
  rcases (by omega : j = 0 ∨ j = 1 ∨ j = 2 ∨ j = 3 ∨ j = 4 ∨ j = 5 ∨ j = 6 ∨ j = 7 ∨ j = 8 ∨ j = 9 ∨ j = 10 ∨ j = 11 ∨ 12 ≤ j) with rfl | rfl | rfl | rfl | rfl | rfl | rfl | rfl | rfl | rfl | rfl | rfl | h
  all_goals try (simp; done)
  rw [List.getD_eq_getElem?_getD, List.getElem?_eq_none (by simpa using h)]
  simp
set_option maxRecDepth 100000 in
set_option maxHeartbeats 1000000 in
theorem mdays_any (y m : Nat) (w : World) (hT : Mon w) (h1 : 1950 ≤ y) (h2 : y ≤ 9999) (h3 : 1 ≤ m) (h4 : m ≤ 12) :
    Calls Tryd.prog 26 #[.int .i64 (y : Int), .int .i64 (m : Int)] w fun e w' => e = .returned (.int .i64 ((mdays y m : Nat) : Int)) ∧ w' = w := by
  obtain ⟨j, rfl⟩ : ∃ j, m = j + 1 := ⟨m - 1, by omega⟩
  have hj : j < 12 := by omega
  have hc := hT j hj
  by_cases hm : j = 1
  · subst hm
    have hy : (y : Int) - 1 = ((y - 1 : Nat) : Int) := by omega
    have hle := lps_le y
    have hle1 := lps_le (y - 1)
    have HL := Lib.hid (show (28 : Int) + (((lps y : Nat) : Int) - ((lps (y - 1) : Nat) : Int)) = ((mdays y 2 : Nat) : Int) by
      have := lps_succ y (by omega)
      unfold mdays mtab
      simp
      omega)
    have HC1 := Lib.hid (fun w => lps_any y w (by omega))
    have HC2 := Lib.hid (fun w => lps_any (y - 1) w (by omega))
    generalize lps (y - 1) = L at HC2 HL hle1
    generalize lps y = M at HC1 HL hle
    have hc2 : w.cell? ⟨0, 1, none⟩ = some (.int .i64 28) := hc
    clear hc
    show Calls _ _ #[.int .i64 (y : Int), .int .i64 2] _ _
    go_enter Tryd.func26, Tryd.ntmps26
    go_wp2_with (first
      | (go_at_call 39; (with_reducible refine (HC1.out _).mono ?_); rintro e w1 ⟨rfl, rfl⟩)
      | (go_at_call 39; (with_reducible refine (HC2.out _).mono ?_); rintro e w1 ⟨rfl, rfl⟩))
    go_ret
    exact ⟨by rw [← HL.out]; rfl, rfl⟩
  · have d1 : (((j + 1 : Nat) : Int) == 2) = false := beq_eq_false_iff_ne.2 (by omega)
    have HL := Lib.hid (mdays_not (y := y) (m := j + 1) (by omega))
    have hc2 : w.cell? ⟨0, j, none⟩ = some (.int .i64 ((mtab.getD j 0 : Nat) : Int)) := hc
    have hle := mtab_le j
    simp only [Nat.add_sub_cancel] at HL
    generalize mtab.getD j 0 = M at HL hc2 hle
    clear hc hm
    go_enter Tryd.func26, Tryd.ntmps26
    go_wp2_with fail
    go_ret
    exact ⟨by rw [HL.out]; rfl, rfl⟩

set_option maxRecDepth 100000 in
set_option maxHeartbeats 1000000 in
theorem yearOf_any (n y : Nat) (w : World) (h1 : 1950 ≤ y) (h2 : y ≤ 9999) (h3 : bef y ≤ n) (h4 : n < bef (y + 1)) (h5 : n < 2940202) :
    Calls Tryd.prog 24 #[.int .i64 (n : Int)] w fun e w' => e = .returned (.int .i64 ((y : Nat) : Int)) ∧ w' = w := by
  have HLO := Lib.hid h3
  have HHI := Lib.hid h4
  clear h3 h4
  go_enter Tryd.func24, Tryd.ntmps24
  go_wp2_with fail
  go_loopw [3] (fun i wr => ∃ z : Nat, 1950 ≤ z ∧ z ≤ y ∧ i = .int .i64 (z : Int) ∧ wr = w) (fun i _ => y - (intOf i).toNat)
  case atStart =>
    refine ⟨1950 + n / 366, by omega, ?_, by go_num, rfl⟩
    have := bef_le 1950 (n / 366) (by omega)
    rw [bef_first] at this
    rcases Nat.lt_or_ge y (1950 + n / 366) with hl | hl
    · have := bef_lt h1 hl
      have := HHI.out
      omega
    · exact hl
  case round =>
    obtain ⟨z, hz1, hz2, rfl, rfl⟩ := hrel
    obtain ⟨z1, hz1e⟩ : ∃ z1, z1 = z + 1 := ⟨_, rfl⟩
    have hz' : (z : Int) + 1 = (z1 : Int) := by omega
    have HC := Lib.hid (fun w => bef_any z1 w (by omega) (by omega))
    have HZ := Lib.hid hz1e
    by_cases hlt : z < y
    · have hd : decide (((bef z1 : Nat) : Int) ≤ (n : Int)) = true := by
        have := bef_lt hz1 hlt
        have := HLO.out
        rw [hz1e]
        exact decide_eq_true (by omega)
      have hdn : decide (bef z1 ≤ n) = (decide (((bef z1 : Nat) : Int) ≤ (n : Int))) := by simp
      rw [hd] at hdn
      generalize bef z1 = M at HC hd hdn
      clear hz1e
      go_wp2_with (go_at_call 25; (with_reducible refine (HC.out _).mono ?_); rintro e w1 ⟨rfl, rfl⟩)
      go_roundw
      case rel => exact ⟨z1, by have := HZ.out; omega, by have := HZ.out; omega, rfl, trivial⟩
      case measure => have := HZ.out; simp [intOf]; omega
    · obtain rfl : z = y := by omega
      have hd : decide (((bef z1 : Nat) : Int) ≤ (n : Int)) = false := by
        rw [hz1e]
        have := HHI.out
        exact decide_eq_false (by omega)
      have hdn : decide (bef z1 ≤ n) = (decide (((bef z1 : Nat) : Int) ≤ (n : Int))) := by simp
      rw [hd] at hdn
      generalize bef z1 = M at HC hd hdn
      clear hz1e
      go_wp2_with (go_at_call 25; (with_reducible refine (HC.out _).mono ?_); rintro e w1 ⟨rfl, rfl⟩)
      go_ret
      exact ⟨rfl, rfl⟩
end Go.Proofs.YtkgdkaopbnodpaaDoor
