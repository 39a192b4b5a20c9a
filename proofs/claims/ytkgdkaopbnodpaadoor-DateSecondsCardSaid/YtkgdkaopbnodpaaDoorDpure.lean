/-
  Dates and times as numbers: the days of years and months, the time of a date, that each determines the other, and the texts of a date. Nothing is claimed of the program here.
-/
import Derived.Lib.Hide
namespace Go.Proofs.YtkgdkaopbnodpaaDoor

/-! ### Years and months -/
/-- The leap years from 1 to y. -/
def lps (y : Nat) : Nat := y / 4 - y / 100 + y / 400
def isLeap (y : Nat) : Bool := y % 4 == 0 && (y % 100 != 0 || y % 400 == 0)
def leap (y : Nat) : Nat := if isLeap y then 1 else 0
def mtab : List Nat := [31, 28, 31, 30, 31, 30, 31, 31, 30, 31, 30, 31]
/-- The days of month m of year y. -/
def mdays (y m : Nat) : Nat := mtab.getD (m - 1) 0 + (if m = 2 then leap y else 0)
/-- The days from the beginning of 1950 to that of year y. -/
def bef (y : Nat) : Nat := 365 * (y - 1950) + lps (y - 1) - lps 1949
/-- The days of year y ahead of month m. -/
def msum (y : Nat) : Nat → Nat
  | 0 => 0
  | 1 => 0
  | m + 2 => msum y (m + 1) + mdays y (m + 1)
theorem leap_le (y : Nat) : leap y ≤ 1 := by unfold leap; split <;> omega
theorem lps_mono (y : Nat) : lps 1949 ≤ lps (1949 + y) := by unfold lps; omega
theorem lps_succ (y : Nat) (h : 1 ≤ y) : lps y = lps (y - 1) + leap y := by
  unfold leap isLeap
  by_cases h4 : y % 4 = 0
  · by_cases h100 : y % 100 = 0
    · by_cases h400 : y % 400 = 0
      · simp [h4, h400]; unfold lps; omega
      · simp [h100, h400]; unfold lps; omega
    · simp [h4, h100]; unfold lps; omega
  · simp [h4]; unfold lps; omega
theorem bef_first : bef 1950 = 0 := by decide
theorem bef_succ (y : Nat) (h : 1950 ≤ y) : bef (y + 1) = bef y + 365 + leap y := by
  have h1 := lps_succ y (by omega)
  obtain ⟨k, rfl⟩ : ∃ k, y = 1950 + k := ⟨y - 1950, by omega⟩
  have h2 := lps_mono k
  unfold bef
  have e1 : 1950 + k + 1 - 1 = 1950 + k := by omega
  have e2 : 1950 + k - 1 = 1949 + k := by omega
  rw [e2] at h1
  rw [e1, e2]
  omega
theorem bef_next (y : Nat) (h : 1950 ≤ y) : bef y + 365 ≤ bef (y + 1) ∧ bef (y + 1) ≤ bef y + 366 := by
  have := bef_succ y h
  have := leap_le y
  omega
theorem step_add (f : Nat → Nat) (hf : ∀ y, 1950 ≤ y → f y + 365 ≤ f (y + 1)) (y k : Nat) (h : 1950 ≤ y) : f y + 365 * k ≤ f (y + k) := by
  induction k with
  | zero => exact Nat.le_refl _
  | succ k ih =>
    have hs := hf (y + k) (Nat.le_trans h (Nat.le_add_right y k))
    rw [← Nat.add_assoc y, Nat.mul_succ, ← Nat.add_assoc (f y)]
    generalize f (y + k + 1) = A at hs ⊢
    generalize f (y + k) = B at hs ih
    generalize 365 * k = M at ih ⊢
    omega
theorem step_le (f : Nat → Nat) (hf : ∀ y, 1950 ≤ y → f (y + 1) ≤ f y + 366) (y k : Nat) (h : 1950 ≤ y) : f (y + k) ≤ f y + 366 * k := by
  induction k with
  | zero => exact Nat.le_refl _
  | succ k ih =>
    have hs := hf (y + k) (Nat.le_trans h (Nat.le_add_right y k))
    rw [← Nat.add_assoc y, Nat.mul_succ, ← Nat.add_assoc (f y)]
    generalize f (y + k + 1) = A at hs ⊢
    generalize f (y + k) = B at hs ih
    generalize 366 * k = M at ih ⊢
    omega
theorem bef_add (y k : Nat) (h : 1950 ≤ y) : bef y + 365 * k ≤ bef (y + k) := step_add bef (fun y h => (bef_next y h).1) y k h
theorem bef_le (y k : Nat) (h : 1950 ≤ y) : bef (y + k) ≤ bef y + 366 * k := step_le bef (fun y h => (bef_next y h).2) y k h
theorem bef_lt {y z : Nat} (h : 1950 ≤ y) (hz : y < z) : bef (y + 1) ≤ bef z := by
  have := bef_add (y + 1) (z - (y + 1)) (by omega)
  have e : y + 1 + (z - (y + 1)) = z := by omega
  rw [e] at this
  omega
theorem year_one {y z n : Nat} (hy : 1950 ≤ y) (hz : 1950 ≤ z) (h1 : bef y ≤ n) (h2 : n < bef (y + 1)) (h3 : bef z ≤ n) (h4 : n < bef (z + 1)) : y = z := by
  rcases Nat.lt_trichotomy y z with h | h | h
  · have := bef_lt hy h; omega
  · exact h
  · have := bef_lt hz h; omega
theorem bef_end : bef 10000 = 2940202 := by decide
theorem mdays_pos {y m : Nat} (h1 : 1 ≤ m) (h2 : m ≤ 12) : 28 ≤ mdays y m ∧ mdays y m ≤ 31 := by
  have := leap_le y
  unfold mdays mtab
  rcases (by omega : m = 1 ∨ m = 2 ∨ m = 3 ∨ m = 4 ∨ m = 5 ∨ m = 6 ∨ m = 7 ∨ m = 8 ∨ m = 9 ∨ m = 10 ∨ m = 11 ∨ m = 12) with rfl | rfl | rfl | rfl | rfl | rfl | rfl | rfl | rfl | rfl | rfl | rfl <;> simp <;> omega
theorem msum_succ (y m : Nat) (h : 1 ≤ m) : msum y (m + 1) = msum y m + mdays y m := by
  obtain ⟨k, rfl⟩ : ∃ k, m = k + 1 := ⟨m - 1, by omega⟩
  rfl
theorem msum_one (y : Nat) : msum y 1 = 0 := rfl
theorem msum_end (y : Nat) : msum y 13 = 365 + leap y := by
  simp [msum, mdays, mtab]
  omega
theorem msum_le {y m k : Nat} (h : 1 ≤ m) (hk : m ≤ k) : msum y m ≤ msum y k := by
  induction k with
  | zero => omega
  | succ k ih =>
    rcases Nat.lt_or_ge k m with h1 | h1
    · have : m = k + 1 := by omega
      rw [this]; exact Nat.le_refl _
    · have := ih h1
      rw [msum_succ y k (by omega)]
      omega
theorem month_one {y m k d e : Nat} (hm : 1 ≤ m) (hk : 1 ≤ k) (hd : d < mdays y m) (he : e < mdays y k) (h : msum y m + d = msum y k + e) : m = k := by
  rcases Nat.lt_trichotomy m k with hl | hl | hl
  · have h1 := msum_le (y := y) (m := m + 1) (by omega) hl
    rw [msum_succ y m hm] at h1
    omega
  · exact hl
  · have h1 := msum_le (y := y) (m := k + 1) (by omega) hl
    rw [msum_succ y k hk] at h1
    omega

/-! ### Dates -/
structure Dt where
  y : Nat
  m : Nat
  d : Nat
  h : Nat
  n : Nat
  s : Nat
structure Ok (x : Dt) : Prop where
  y1 : 1950 ≤ x.y
  y2 : x.y ≤ 9999
  m1 : 1 ≤ x.m
  m2 : x.m ≤ 12
  d1 : 1 ≤ x.d
  d2 : x.d ≤ mdays x.y x.m
  h2 : x.h ≤ 23
  n2 : x.n ≤ 59
  s2 : x.s ≤ 59
def dayOf (x : Dt) : Nat := bef x.y + msum x.y x.m + (x.d - 1)
def secs (x : Dt) : Nat := 86400 * dayOf x + 3600 * x.h + 60 * x.n + x.s
theorem day_lt {x : Dt} (h : Ok x) : bef x.y ≤ dayOf x ∧ dayOf x < bef (x.y + 1) := by
  have h1 := bef_succ x.y h.y1
  have h2 := msum_le (y := x.y) (m := x.m + 1) (k := 13) (by omega) (by have := h.m2; omega)
  rw [msum_succ _ _ h.m1, msum_end] at h2
  have := h.d1
  have := h.d2
  unfold dayOf
  omega
theorem day_max {x : Dt} (h : Ok x) : dayOf x < 2940202 := by
  have h1 := (day_lt h).2
  have h2 := bef_add (x.y + 1) (9999 - x.y) (by have := h.y1; omega)
  have e : x.y + 1 + (9999 - x.y) = 10000 := by have := h.y2; omega
  rw [e, bef_end] at h2
  omega
theorem secs_max {x : Dt} (h : Ok x) : secs x ≤ 254033452799 := by
  have := day_max h
  have := h.h2
  have := h.n2
  have := h.s2
  unfold secs
  omega
theorem day_one {x z : Dt} (h : Ok x) (k : Ok z) (e : dayOf x = dayOf z) : x.y = z.y ∧ x.m = z.m ∧ x.d = z.d := by
  have hy : x.y = z.y := year_one h.y1 k.y1 (day_lt h).1 (day_lt h).2 (by rw [e]; exact (day_lt k).1) (by rw [e]; exact (day_lt k).2)
  have hh := h.d1
  have hk := k.d1
  have hh2 := h.d2
  have hk2 := k.d2
  unfold dayOf at e
  rw [hy] at e hh2
  have hm : x.m = z.m := month_one (y := z.y) (d := x.d - 1) (e := z.d - 1) h.m1 k.m1 (by omega) (by omega) (by omega)
  rw [hm] at e
  exact ⟨hy, hm, by omega⟩
theorem secs_inj {x z : Dt} (h : Ok x) (k : Ok z) (e : secs x = secs z) : x = z := by
  have hh := h.h2
  have hn := h.n2
  have hs := h.s2
  have kh := k.h2
  have kn := k.n2
  have ks := k.s2
  unfold secs at e
  have e1 : dayOf x = dayOf z := by omega
  obtain ⟨a, b, c⟩ := day_one h k e1
  have e2 : x.h = z.h := by omega
  have e3 : x.n = z.n := by omega
  have e4 : x.s = z.s := by omega
  cases x; cases z
  simp_all
theorem year_ex (n : Nat) (h : n < 2940202) : ∃ y, 1950 ≤ y ∧ y ≤ 9999 ∧ bef y ≤ n ∧ n < bef (y + 1) := by
  have H : ∀ k, k ≤ 8050 → n < bef (1950 + k) → ∃ y, 1950 ≤ y ∧ y < 1950 + k ∧ bef y ≤ n ∧ n < bef (y + 1) := by
    intro k
    induction k with
    | zero => intro _ h0; rw [bef_first] at h0; omega
    | succ k ih =>
      intro hk hn
      rcases Nat.lt_or_ge n (bef (1950 + k)) with hl | hl
      · obtain ⟨y, a, b, c⟩ := ih (by omega) hl
        exact ⟨y, a, by omega, c⟩
      · exact ⟨1950 + k, by omega, by omega, hl, hn⟩
  obtain ⟨y, a, b, c, d⟩ := H 8050 (by omega) (by rw [show 1950 + 8050 = 10000 from rfl, bef_end]; exact h)
  exact ⟨y, a, by omega, c, d⟩
theorem month_ex (y r : Nat) (h : r < 365 + leap y) : ∃ m, 1 ≤ m ∧ m ≤ 12 ∧ msum y m ≤ r ∧ r < msum y (m + 1) := by
  have H : ∀ k, k ≤ 12 → r < msum y (1 + k) → ∃ m, 1 ≤ m ∧ m < 1 + k ∧ msum y m ≤ r ∧ r < msum y (m + 1) := by
    intro k
    induction k with
    | zero => intro _ h0; rw [msum_one] at h0; omega
    | succ k ih =>
      intro hk hn
      rcases Nat.lt_or_ge r (msum y (1 + k)) with hl | hl
      · obtain ⟨m, a, b, c⟩ := ih (by omega) hl
        exact ⟨m, a, by omega, c⟩
      · exact ⟨1 + k, by omega, by omega, hl, hn⟩
  obtain ⟨m, a, b, c, d⟩ := H 12 (by omega) (by rw [show 1 + 12 = 13 from rfl, msum_end]; exact h)
  exact ⟨m, a, by omega, c, d⟩
/-- Each time is that of one date. -/
theorem civ_ex (t : Nat) (h : t ≤ 254033452799) : ∃ x, Ok x ∧ secs x = t := by
  obtain ⟨y, y1, y2, y3, y4⟩ := year_ex (t / 86400) (by omega)
  have hs := bef_succ y y1
  obtain ⟨m, m1, m2, m3, m4⟩ := month_ex y (t / 86400 - bef y) (by omega)
  rw [msum_succ y m m1] at m4
  refine ⟨⟨y, m, t / 86400 - bef y - msum y m + 1, t % 86400 / 3600, t % 3600 / 60, t % 60⟩, ⟨y1, y2, m1, m2, by simp, by simp; omega, by simp; omega, by simp; omega, by simp; omega⟩, ?_⟩
  unfold secs dayOf
  simp
  omega
end Go.Proofs.YtkgdkaopbnodpaaDoor
