/-
  The contract of date.Civil.
-/
import Derived.Test.YtkgdkaopbnodpaaDoorDsecs
namespace Go.Proofs.YtkgdkaopbnodpaaDoor
open Go.RowKit

theorem dtRes2 {fn : Func} {p u : Tmp} (h : fn.results = #[.cell p 27, .tmp u]) (tmps : Array Value) (w w0 : World) (a b c d e f : Value)
    (hp : tmps.getD p undef = .pointer (some ⟨w0.heap.size, 0, none⟩)) (hg : w.heap[w0.heap.size]? = some (.cells #[a, b, c, d, e, f] 27 (0, 0))) :
    (results fn tmps).run Tryd.prog w = .ok (.tuple #[.agg #[a, b, c, d, e, f], tmps.getD u undef]) w :=
  results_cell_row2 h tmps w w0.heap.size 27 #[a, b, c, d, e, f] (0, 0) _ hp hg Tryd.underlying27 rfl dtSize

set_option maxRecDepth 100000 in
set_option maxHeartbeats 4000000 in
theorem civ_no {t : Int} (h : t < 0 ∨ 254033452799 < t) (w : World) :
    Calls Tryd.prog 10 #[.int .i64 t] w fun E w' => E = .returned (.tuple #[dt0, .int .i64 1]) ∧ Below w.heap.size w w' := by
  by_cases h1 : t < 0
  · have d1 : decide (t < 0) = true := decide_eq_true h1
    clear h h1
    go_enter Tryd.func10, Tryd.ntmps10
    go_wp2_with fail
    exact bodyPost_ret (dtRes2 rfl _ _ w _ _ _ _ _ _ rfl (dtNew w _ _)) rfl ⟨rfl, belowNew _ _⟩
  · have d1 : decide (t < 0) = false := decide_eq_false h1
    have d2 : decide (254033452799 < t) = true := decide_eq_true (by omega)
    clear h h1
    go_enter Tryd.func10, Tryd.ntmps10
    go_wp2_with fail
    exact bodyPost_ret (dtRes2 rfl _ _ w _ _ _ _ _ _ rfl (dtNew w _ _)) rfl ⟨rfl, belowNew _ _⟩

/-- The numbers by which Civil finds the date. -/
theorem civ_nums {x : Dt} (h : Ok x) : ∃ n r : Nat, n = dayOf x ∧ r = 3600 * x.h + 60 * x.n + x.s ∧ ((secs x : Nat) : Int) / 86400 = (n : Int) ∧ ((secs x : Nat) : Int) % 86400 = (r : Int) ∧ (r : Int) / 3600 = (x.h : Int) ∧ (r : Int) % 3600 / 60 = (x.n : Int) ∧ (r : Int) % 60 = (x.s : Int) ∧ r < 86400 ∧ n < 2940202 := by
  have := h.h2
  have := h.n2
  have := h.s2
  have := day_max h
  refine ⟨dayOf x, 3600 * x.h + 60 * x.n + x.s, rfl, rfl, ?_⟩
  unfold secs
  omega

set_option maxRecDepth 100000 in
set_option maxHeartbeats 4000000 in
theorem civ_yes {x : Dt} (h : Ok x) (w : World) (hT : Mon w) :
    Calls Tryd.prog 10 #[.int .i64 ((secs x : Nat) : Int)] w fun E w' => E = .returned (.tuple #[dtV x, .int .i64 0]) ∧ Below w.heap.size w w' := by
  obtain ⟨n, r, hn, hr, q1, q2, q3, q4, q5, hr2, hn2⟩ := civ_nums h
  have hmax := secs_max h
  have hdl := day_lt h
  have HY := Lib.hid (fun w => yearOf_any n x.y w h.y1 h.y2 (by rw [hn]; exact hdl.1) (by rw [hn]; exact hdl.2) hn2)
  have HB := Lib.hid (fun w => bef_any x.y w h.y1 (by have := h.y2; omega))
  have hnb : (n : Int) - ((bef x.y : Nat) : Int) + 1 = ((msum x.y x.m + x.d : Nat) : Int) := by
    have := h.d1
    rw [hn]; unfold dayOf; omega
  have hbn : bef x.y ≤ n := by rw [hn]; exact hdl.1
  have HT := Lib.hid (hT.alloc (.cells (dtc 0 0 0 0 0 0) 27))
  generalize secs x = T at q1 q2 hmax ⊢
  generalize bef x.y = B at HB hnb hbn
  obtain ⟨y, m, d, hh, mi, s⟩ := x
  obtain ⟨y1, y2, m1, m2, d1, d2, h2, n2, s2⟩ := h
  simp only at y1 y2 m1 m2 d1 d2 h2 n2 s2 HY HB hnb q3 q4 q5 hr
  clear hn hr hdl hT
  have HD2 := Lib.hid d2
  have hml : msum y m + d ≤ 400 := by
    have h1 := msum_le (y := y) m1 (show m ≤ 13 by omega)
    rw [msum_end] at h1
    have := leap_le y
    have := (mdays_pos (y := y) m1 m2).2
    omega
  have HMS := Lib.hid (show ∀ k, 1 ≤ k → k < m → msum y k + mdays y k ≤ msum y m from fun k h1 h2 => by
    rw [← msum_succ y k h1]
    exact msum_le (by omega) h2)
  have HMM := Lib.hid (show ∀ k, 1 ≤ k → k ≤ 12 → mdays y k ≤ 31 from fun k h1 h2 => (mdays_pos h1 h2).2)
  have HSS := Lib.hid (show ∀ k, 1 ≤ k → msum y (k + 1) = msum y k + mdays y k from fun k h1 => msum_succ y k h1)
  have t1 : decide ((T : Int) < 0) = false := decide_eq_false (by omega)
  have t2 : decide (254033452799 < (T : Int)) = false := decide_eq_false (by omega)
  have Q3 := Lib.hid q3
  have Q4 := Lib.hid q4
  have Q5 := Lib.hid q5
  clear d2 q3 q4 q5
  go_enter Tryd.func10, Tryd.ntmps10
  go_wp2_with (first
    | (go_at_call 24; (with_reducible refine (HY.out _).mono ?_); rintro E w1 ⟨rfl, rfl⟩)
    | (go_at_call 25; (with_reducible refine (HB.out _).mono ?_); rintro E w1 ⟨rfl, rfl⟩))
  go_loopw [7, 8] (fun i t wr => ∃ k D : Nat, 1 ≤ k ∧ k ≤ m ∧ i = .int .i64 (k : Int) ∧ t = .int .i64 (D : Int) ∧ D + msum y k = msum y m + d ∧ wr = w.alloc (.cells (dtc 0 0 0 0 0 0) 27)) (fun i _ _ => m - (intOf i).toNat)
  case atStart => exact ⟨1, msum y m + d, by omega, by omega, rfl, by go_num, by rw [msum_one]; rfl, rfl⟩
  case round =>
    obtain ⟨k, D, hk1, hk2, rfl, rfl, hD, rfl⟩ := hrel
    have HD := Lib.hid hD
    have hD400 : D ≤ 400 := by omega
    clear hD
    have HM := Lib.hid (fun w hT => mdays_any y k w hT y1 y2 hk1 (by omega))
    have hmm := HMM.out k hk1 (by omega)
    by_cases hlt : k < m
    · have hms := HMS.out k hk1 hlt
      have hdd : mdays y k < D := by have := HD.out; omega
      have e1 : decide (((mdays y k : Nat) : Int) < (D : Int)) = true := decide_eq_true (by omega)
      have e2 : decide (mdays y k < D) = true := decide_eq_true hdd
      have HSK := Lib.hid (HSS.out k hk1)
      obtain ⟨k1, hk1e⟩ : ∃ k1, k1 = k + 1 := ⟨_, rfl⟩
      rw [← hk1e] at HSK
      have HK := Lib.hid hk1e
      clear hk1e hms
      generalize mdays y k = M at hmm HM hdd e1 e2 HSK
      obtain ⟨D1, hD1⟩ : ∃ D1, D1 = D - M := ⟨_, rfl⟩
      have hDi : (D : Int) - (M : Int) = (D1 : Int) := by omega
      have HDD := Lib.hid (show D1 + M = D by omega)
      clear hD1 hdd
      go_wp2_with (first
        | (go_at_call 26; (with_reducible refine (HM.out _ HT.out).mono ?_); rintro E w1 ⟨rfl, rfl⟩))
      go_roundw
      case rel => exact ⟨k1, D1, by have := HK.out; omega, by have := HK.out; omega, by rw [HK.out]; go_num, rfl, by have := HSK.out; have := HD.out; have := HDD.out; omega, trivial⟩
      case measure => simp [intOf]; omega
    · obtain rfl : k = m := by omega
      have hdd : D = d := by have := HD.out; omega
      subst hdd
      have e1 : decide (((mdays y k : Nat) : Int) < (D : Int)) = false := decide_eq_false (by have := HD2.out; omega)
      have e2 : decide (mdays y k < D) = false := decide_eq_false (by have := HD2.out; omega)
      generalize mdays y k = M at hmm HM e1 e2
      have q3 := Q3.out
      have q4 := Q4.out
      have q5 := Q5.out
      clear hnb q1 q2
      go_wp2_with (first
        | (go_at_call 26; (with_reducible refine (HM.out _ HT.out).mono ?_); rintro E w1 ⟨rfl, rfl⟩))
      exact bodyPost_ret (dtRes2 rfl _ _ w _ _ _ _ _ _ rfl (dtNew w _ _)) rfl ⟨rfl, belowNew _ _⟩
end Go.Proofs.YtkgdkaopbnodpaaDoor
