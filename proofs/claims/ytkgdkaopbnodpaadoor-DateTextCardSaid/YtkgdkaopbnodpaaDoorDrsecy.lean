/-
  The contract of the reference's Seconds for a date.
-/
import Derived.Test.YtkgdkaopbnodpaaDoorDrsecs
namespace Go.Proofs.YtkgdkaopbnodpaaDoor
open Go.RowKit

set_option maxRecDepth 100000 in
set_option maxHeartbeats 4000000 in
theorem rsecs_yes {x : Dt} (h : Ok x) (w : World) :
    Calls Tryd.prog 14 #[dtV x] w fun E w' => E = .returned (.tuple #[.int .i64 ((secs x : Nat) : Int), .int .i64 0]) ∧ Below w.heap.size w w' := by
  obtain ⟨y, m, d, hh, mi, s⟩ := x
  obtain ⟨y1, y2, m1, m2, d1, d2, h2, n2, s2⟩ := h
  simp only at y1 y2 m1 m2 d1 d2 h2 n2 s2
  have hdm := (mdays_pos (y := y) m1 m2).2
  have hd31 : d ≤ 31 := by omega
  have HC := Lib.hid (fun w => rbef_any y w y1 (by omega))
  have hbl : bef y ≤ 2940202 := by
    have := bef_add y (10000 - y) y1
    rw [show y + (10000 - y) = 10000 by omega, bef_end] at this
    omega
  have HS := Lib.hid (show secs ⟨y, m, d, hh, mi, s⟩ = 86400 * (bef y + msum y m + (d - 1)) + 3600 * hh + 60 * mi + s from rfl)
  have HMS := Lib.hid (show ∀ k, 1 ≤ k → k ≤ 12 → msum y (k + 1) = msum y k + mdays y k from fun k h1 _ => msum_succ y k h1)
  have HML := Lib.hid (show ∀ k, 1 ≤ k → k ≤ 12 → msum y k ≤ 366 from fun k h1 h2 => by
    have := msum_le (y := y) h1 (show k ≤ 13 by omega)
    rw [msum_end] at this
    have := leap_le y
    omega)
  have HMM := Lib.hid (show ∀ k, 1 ≤ k → k ≤ 12 → mdays y k ≤ 31 from fun k h1 h2 => (mdays_pos h1 h2).2)
  have HCD := Lib.hid (show ∀ W : World, ∀ dd os, Calls Tryd.prog 28 #[.int .i64 (y : Int), .int .i64 (m : Int)] (Sort.grow (redrawn W dd) os) fun E w'' => E = .returned (.int .i64 ((mdays y m : Nat) : Int)) ∧ ∃ p : Regrown, w'' = Sort.grow (redrawn W p.d) p.os from fun W dd os => Calls.regrown_of (rdays_any y m _ (by omega) (by omega) (by omega) (by omega)))
  have q0 : decide ((y : Int) < 1950) = false := decide_eq_false (by omega)
  have q1 : decide (9999 < (y : Int)) = false := decide_eq_false (by omega)
  have q2 : decide ((m : Int) < 1) = false := decide_eq_false (by omega)
  have q3 : decide (12 < (m : Int)) = false := decide_eq_false (by omega)
  have q4 : decide ((d : Int) < 1) = false := decide_eq_false (by omega)
  have q5 : decide (((mdays y m : Nat) : Int) < (d : Int)) = false := decide_eq_false (by omega)
  have q5n : decide (mdays y m < d) = false := decide_eq_false (by omega)
  have q6 : decide ((hh : Int) < 0) = false := decide_eq_false (by omega)
  have q7 : decide (23 < (hh : Int)) = false := decide_eq_false (by omega)
  have q8 : decide ((mi : Int) < 0) = false := decide_eq_false (by omega)
  have q9 : decide (59 < (mi : Int)) = false := decide_eq_false (by omega)
  have q10 : decide ((s : Int) < 0) = false := decide_eq_false (by omega)
  have q11 : decide (59 < (s : Int)) = false := decide_eq_false (by omega)
  generalize bef y = B at HC HS hbl
  generalize secs ⟨y, m, d, hh, mi, s⟩ = S at HS
  have HMMM := Lib.hid (show ∃ M, M = mdays y m from ⟨_, rfl⟩)
  generalize mdays y m = Mm at HCD q5 q5n
  clear hdm d2 HMMM
  obtain ⟨c0, c1, c2, c3, c4, c5⟩ := dt_cell (dtNew w (dtc y m d hh mi s) 27)
  have HB0 := Lib.hid (belowNew w (.cells (dtc y m d hh mi s) 27))
  go_enter Tryd.func14, Tryd.ntmps14
  go_wp2_with fail
  generalize w.alloc (.cells (dtc y m d hh mi s) 27) = W at c0 c1 c2 c3 c4 c5 HB0 ⊢
  have k0 := cell_regrown c0
  have k1 := cell_regrown c1
  have k2 := cell_regrown c2
  have k3 := cell_regrown c3
  have k4 := cell_regrown c4
  have k5 := cell_regrown c5
  clear c0 c1 c2 c3 c4 c5
  refine wp_region_quiet_below (by kernel_rfl) (by kernel_rfl) ?_
  repeat (go_big_quiet_step (exact HCD.out W _ _))
  refine wpQuiet_nil ?_
  intro _ hw'
  obtain ⟨⟨dq, osq⟩, hw''⟩ := hw'
  subst hw''
  have HBZ := Lib.hid (HB0.out.trans ((below_regrown W dq osq).mono HB0.out.size))
  replace k0 := k0 dq osq
  replace k1 := k1 dq osq
  replace k2 := k2 dq osq
  replace k3 := k3 dq osq
  replace k4 := k4 dq osq
  replace k5 := k5 dq osq
  generalize Sort.grow (redrawn W dq) osq = W1 at k0 k1 k2 k3 k4 k5 HBZ ⊢
  clear q0 q1 q2 q3 q4 q5 q5n q6 q7 q8 q9 q10 q11 HCD
  go_wp2_with fail
  go_quiet ((go_at_call 27; with_reducible refine Calls.quiet_of_same (HC.out _)))
  have HB2 := Lib.hid (Below.drawn HBZ.out nq)
  replace k0 : (W1.drewN nq).cell? ⟨w.heap.size, 0, none⟩ = _ := k0
  replace k1 : (W1.drewN nq).cell? ⟨w.heap.size, 1, none⟩ = _ := k1
  replace k2 : (W1.drewN nq).cell? ⟨w.heap.size, 2, none⟩ = _ := k2
  replace k3 : (W1.drewN nq).cell? ⟨w.heap.size, 3, none⟩ = _ := k3
  replace k4 : (W1.drewN nq).cell? ⟨w.heap.size, 4, none⟩ = _ := k4
  replace k5 : (W1.drewN nq).cell? ⟨w.heap.size, 5, none⟩ = _ := k5
  generalize W1.drewN nq = W2 at HB2 k0 k1 k2 k3 k4 k5 ⊢
  have hlt2 := block_lt_of_cell k0
  have K0 := Lib.hid k0
  have K1 := Lib.hid k1
  have K3 := Lib.hid k3
  have K4 := Lib.hid k4
  have K5 := Lib.hid k5
  have HL2 := Lib.hid hlt2
  clear k0 k1 k2 k3 k4 k5 hlt2
  go_wp2_with fail
  go_loopw [4, 5] (fun t i wr => ∃ k : Nat, 1 ≤ k ∧ k ≤ m ∧ i = .int .i64 (k : Int) ∧ t = .int .i64 ((B : Int) + (d : Int) - 1 + ((msum y k : Nat) : Int)) ∧ Below W2.heap.size W2 wr) (fun _ i _ => m - (intOf i).toNat)
  case atStart => exact ⟨1, by omega, by omega, rfl, by rw [msum_one]; simp, Below.refl _ _⟩
  case round =>
    obtain ⟨k, hk1, hk2, rfl, rfl, hb⟩ := hrel
    have hml := HML.out k hk1 (by omega)
    have e0 := (hb.cell (p := ⟨w.heap.size, 0, none⟩) HL2.out).trans K0.out
    have e1 := (hb.cell (p := ⟨w.heap.size, 1, none⟩) HL2.out).trans K1.out
    have HBR := Lib.hid hb
    by_cases hlt : k < m
    · have e1 : decide ((k : Int) < (m : Int)) = true := decide_eq_true (by omega)
      have e2 : decide (k < m) = true := decide_eq_true hlt
      have hmm := HMM.out k hk1 (by omega)
      have HM := Lib.hid (rdays_any y k wr y1 (by omega) hk1 (by omega))
      have HN := Lib.hid (HMS.out k hk1 (by omega))
      obtain ⟨k1, hk1e⟩ : ∃ k1, k1 = k + 1 := ⟨_, rfl⟩
      rw [← hk1e] at HN
      have HK := Lib.hid hk1e
      clear hk1e hb
      generalize msum y k = P at hml HN ⊢
      generalize mdays y k = M at hmm HM HN
      go_wp2_with (go_at_call 28; (with_reducible refine HM.out.mono ?_); rintro E w2 ⟨rfl, hb2⟩; have HB3 := Lib.hid (below_next HBR.out hb2); clear hb2)
      go_roundw
      case rel => exact ⟨k1, by have := HK.out; omega, by have := HK.out; omega, by rw [HK.out]; go_num, by rw [HN.out]; go_num, HB3.out⟩
      case measure => simp [intOf]; omega
    · obtain rfl : k = m := by omega
      have e3 := (hb.cell (p := ⟨w.heap.size, 3, none⟩) HL2.out).trans K3.out
      have e4 := (hb.cell (p := ⟨w.heap.size, 4, none⟩) HL2.out).trans K4.out
      have e5 := (hb.cell (p := ⟨w.heap.size, 5, none⟩) HL2.out).trans K5.out
      have e6 : decide ((k : Int) < (k : Int)) = false := by simp
      have e7 : decide (k < k) = false := by simp
      clear hb
      generalize msum y k = P at hml HS ⊢
      go_wp2_with fail
      go_ret2
      have hfin : 86400 * ((B : Int) + (d : Int) - 1 + (P : Int)) + 3600 * (hh : Int) + 60 * (mi : Int) + (s : Int) = ((S : Nat) : Int) := by rw [HS.out]; omega
      exact ⟨by rw [← hfin]; rfl, HB2.out.trans (HBR.out.mono HB2.out.size)⟩
end Go.Proofs.YtkgdkaopbnodpaaDoor
