/-
  The contract of the reference's Seconds.
-/
import Derived.Test.YtkgdkaopbnodpaaDoorDrdays
namespace Go.Proofs.YtkgdkaopbnodpaaDoor
open Go.RowKit

theorem notOk {a b c d e f : Int} {p : Prop} (hp : p) (h : OkI a b c d e f → ¬ p) : ¬ OkI a b c d e f := fun k => h k hp
set_option maxRecDepth 100000 in
set_option maxHeartbeats 16000000 in
theorem rsecs_no {a b c d e f : Int} (h : ¬ OkI a b c d e f) (w : World) :
    Calls Tryd.prog 14 #[dtv a b c d e f] w fun E w' => E = .returned (.tuple #[.int .i64 0, .int .i64 12]) ∧ Below w.heap.size w w' := by
  have HN := Lib.hid h
  clear h
  obtain ⟨c0, c1, c2, c3, c4, c5⟩ := dt_cell (dtNew w (dtc a b c d e f) 27)
  have HB0 := Lib.hid (belowNew w (.cells (dtc a b c d e f) 27))
  by_cases g0 : a < 1950
  · have q0 : decide (a < 1950) = true := decide_eq_true g0
    clear g0
    go_enter Tryd.func14, Tryd.ntmps14
    go_wp2_with fail
    generalize w.alloc (.cells (dtc a b c d e f) 27) = W at c0 c1 c2 c3 c4 c5 HB0 ⊢
    have k0 := cell_regrown c0
    have k1 := cell_regrown c1
    have k2 := cell_regrown c2
    have k3 := cell_regrown c3
    have k4 := cell_regrown c4
    have k5 := cell_regrown c5
    clear c0 c1 c2 c3 c4 c5
    refine wp_region_quiet_below (by kernel_rfl) (by kernel_rfl) ?_
    repeat (go_big_quiet_step (fail))
    refine wpQuiet_nil ?_
    intro _ hw'
    obtain ⟨⟨dq, osq⟩, hw''⟩ := hw'
    subst hw''
    have HBZ := Lib.hid (HB0.out.trans ((below_regrown W dq osq).mono HB0.out.size))
    go_wp2_with fail
    go_ret2
    exact ⟨rfl, HBZ.out⟩
  · have q0 : decide (a < 1950) = false := decide_eq_false g0
    by_cases g1 : 9999 < a
    · have q1 : decide (9999 < a) = true := decide_eq_true g1
      clear g0 g1
      go_enter Tryd.func14, Tryd.ntmps14
      go_wp2_with fail
      generalize w.alloc (.cells (dtc a b c d e f) 27) = W at c0 c1 c2 c3 c4 c5 HB0 ⊢
      have k0 := cell_regrown c0
      have k1 := cell_regrown c1
      have k2 := cell_regrown c2
      have k3 := cell_regrown c3
      have k4 := cell_regrown c4
      have k5 := cell_regrown c5
      clear c0 c1 c2 c3 c4 c5
      refine wp_region_quiet_below (by kernel_rfl) (by kernel_rfl) ?_
      repeat (go_big_quiet_step (fail))
      refine wpQuiet_nil ?_
      intro _ hw'
      obtain ⟨⟨dq, osq⟩, hw''⟩ := hw'
      subst hw''
      have HBZ := Lib.hid (HB0.out.trans ((below_regrown W dq osq).mono HB0.out.size))
      go_wp2_with fail
      go_ret2
      exact ⟨rfl, HBZ.out⟩
    · have q1 : decide (9999 < a) = false := decide_eq_false g1
      by_cases g2 : b < 1
      · have q2 : decide (b < 1) = true := decide_eq_true g2
        clear g0 g1 g2
        go_enter Tryd.func14, Tryd.ntmps14
        go_wp2_with fail
        generalize w.alloc (.cells (dtc a b c d e f) 27) = W at c0 c1 c2 c3 c4 c5 HB0 ⊢
        have k0 := cell_regrown c0
        have k1 := cell_regrown c1
        have k2 := cell_regrown c2
        have k3 := cell_regrown c3
        have k4 := cell_regrown c4
        have k5 := cell_regrown c5
        clear c0 c1 c2 c3 c4 c5
        refine wp_region_quiet_below (by kernel_rfl) (by kernel_rfl) ?_
        repeat (go_big_quiet_step (fail))
        refine wpQuiet_nil ?_
        intro _ hw'
        obtain ⟨⟨dq, osq⟩, hw''⟩ := hw'
        subst hw''
        have HBZ := Lib.hid (HB0.out.trans ((below_regrown W dq osq).mono HB0.out.size))
        go_wp2_with fail
        go_ret2
        exact ⟨rfl, HBZ.out⟩
      · have q2 : decide (b < 1) = false := decide_eq_false g2
        by_cases g3 : 12 < b
        · have q3 : decide (12 < b) = true := decide_eq_true g3
          clear g0 g1 g2 g3
          go_enter Tryd.func14, Tryd.ntmps14
          go_wp2_with fail
          generalize w.alloc (.cells (dtc a b c d e f) 27) = W at c0 c1 c2 c3 c4 c5 HB0 ⊢
          have k0 := cell_regrown c0
          have k1 := cell_regrown c1
          have k2 := cell_regrown c2
          have k3 := cell_regrown c3
          have k4 := cell_regrown c4
          have k5 := cell_regrown c5
          clear c0 c1 c2 c3 c4 c5
          refine wp_region_quiet_below (by kernel_rfl) (by kernel_rfl) ?_
          repeat (go_big_quiet_step (fail))
          refine wpQuiet_nil ?_
          intro _ hw'
          obtain ⟨⟨dq, osq⟩, hw''⟩ := hw'
          subst hw''
          have HBZ := Lib.hid (HB0.out.trans ((below_regrown W dq osq).mono HB0.out.size))
          go_wp2_with fail
          go_ret2
          exact ⟨rfl, HBZ.out⟩
        · have q3 : decide (12 < b) = false := decide_eq_false g3
          by_cases g4 : c < 1
          · have q4 : decide (c < 1) = true := decide_eq_true g4
            clear g0 g1 g2 g3 g4
            go_enter Tryd.func14, Tryd.ntmps14
            go_wp2_with fail
            generalize w.alloc (.cells (dtc a b c d e f) 27) = W at c0 c1 c2 c3 c4 c5 HB0 ⊢
            have k0 := cell_regrown c0
            have k1 := cell_regrown c1
            have k2 := cell_regrown c2
            have k3 := cell_regrown c3
            have k4 := cell_regrown c4
            have k5 := cell_regrown c5
            clear c0 c1 c2 c3 c4 c5
            refine wp_region_quiet_below (by kernel_rfl) (by kernel_rfl) ?_
            repeat (go_big_quiet_step (fail))
            refine wpQuiet_nil ?_
            intro _ hw'
            obtain ⟨⟨dq, osq⟩, hw''⟩ := hw'
            subst hw''
            have HBZ := Lib.hid (HB0.out.trans ((below_regrown W dq osq).mono HB0.out.size))
            go_wp2_with fail
            go_ret2
            exact ⟨rfl, HBZ.out⟩
          · have q4 : decide (c < 1) = false := decide_eq_false g4
            obtain ⟨y, rfl⟩ : ∃ y : Nat, a = (y : Int) := ⟨a.toNat, by omega⟩
            obtain ⟨m, rfl⟩ : ∃ m : Nat, b = (m : Int) := ⟨b.toNat, by omega⟩
            have cD : ∀ dd os, Calls Tryd.prog 28 #[.int .i64 (y : Int), .int .i64 (m : Int)] (Sort.grow (redrawn (w.alloc (.cells (dtc (y : Int) (m : Int) c d e f) 27)) dd) os) fun E w'' => E = .returned (.int .i64 ((mdays y m : Nat) : Int)) ∧ ∃ p : Regrown, w'' = Sort.grow (redrawn (w.alloc (.cells (dtc (y : Int) (m : Int) c d e f) 27)) p.d) p.os := fun dd os => Calls.regrown_of (rdays_any y m _ (by omega) (by omega) (by omega) (by omega))
            by_cases g5 : ((mdays y m : Nat) : Int) < c
            · have q5 : decide (((mdays y m : Nat) : Int) < c) = true := decide_eq_true g5
              generalize mdays y m = M at *
              clear g0 g1 g2 g3 g4 g5
              go_enter Tryd.func14, Tryd.ntmps14
              go_wp2_with fail
              generalize w.alloc (.cells (dtc (y : Int) (m : Int) c d e f) 27) = W at c0 c1 c2 c3 c4 c5 HB0 cD ⊢
              have k0 := cell_regrown c0
              have k1 := cell_regrown c1
              have k2 := cell_regrown c2
              have k3 := cell_regrown c3
              have k4 := cell_regrown c4
              have k5 := cell_regrown c5
              clear c0 c1 c2 c3 c4 c5
              refine wp_region_quiet_below (by kernel_rfl) (by kernel_rfl) ?_
              repeat (go_big_quiet_step (exact cD _ _))
              refine wpQuiet_nil ?_
              intro _ hw'
              obtain ⟨⟨dq, osq⟩, hw''⟩ := hw'
              subst hw''
              have HBZ := Lib.hid (HB0.out.trans ((below_regrown W dq osq).mono HB0.out.size))
              go_wp2_with fail
              go_ret2
              exact ⟨rfl, HBZ.out⟩
            · have q5 : decide (((mdays y m : Nat) : Int) < c) = false := decide_eq_false g5
              by_cases g6 : d < 0
              · have q6 : decide (d < 0) = true := decide_eq_true g6
                generalize mdays y m = M at *
                clear g0 g1 g2 g3 g4 g5 g6
                go_enter Tryd.func14, Tryd.ntmps14
                go_wp2_with fail
                generalize w.alloc (.cells (dtc (y : Int) (m : Int) c d e f) 27) = W at c0 c1 c2 c3 c4 c5 HB0 cD ⊢
                have k0 := cell_regrown c0
                have k1 := cell_regrown c1
                have k2 := cell_regrown c2
                have k3 := cell_regrown c3
                have k4 := cell_regrown c4
                have k5 := cell_regrown c5
                clear c0 c1 c2 c3 c4 c5
                refine wp_region_quiet_below (by kernel_rfl) (by kernel_rfl) ?_
                repeat (go_big_quiet_step (exact cD _ _))
                refine wpQuiet_nil ?_
                intro _ hw'
                obtain ⟨⟨dq, osq⟩, hw''⟩ := hw'
                subst hw''
                have HBZ := Lib.hid (HB0.out.trans ((below_regrown W dq osq).mono HB0.out.size))
                go_wp2_with fail
                go_ret2
                exact ⟨rfl, HBZ.out⟩
              · have q6 : decide (d < 0) = false := decide_eq_false g6
                by_cases g7 : 23 < d
                · have q7 : decide (23 < d) = true := decide_eq_true g7
                  generalize mdays y m = M at *
                  clear g0 g1 g2 g3 g4 g5 g6 g7
                  go_enter Tryd.func14, Tryd.ntmps14
                  go_wp2_with fail
                  generalize w.alloc (.cells (dtc (y : Int) (m : Int) c d e f) 27) = W at c0 c1 c2 c3 c4 c5 HB0 cD ⊢
                  have k0 := cell_regrown c0
                  have k1 := cell_regrown c1
                  have k2 := cell_regrown c2
                  have k3 := cell_regrown c3
                  have k4 := cell_regrown c4
                  have k5 := cell_regrown c5
                  clear c0 c1 c2 c3 c4 c5
                  refine wp_region_quiet_below (by kernel_rfl) (by kernel_rfl) ?_
                  repeat (go_big_quiet_step (exact cD _ _))
                  refine wpQuiet_nil ?_
                  intro _ hw'
                  obtain ⟨⟨dq, osq⟩, hw''⟩ := hw'
                  subst hw''
                  have HBZ := Lib.hid (HB0.out.trans ((below_regrown W dq osq).mono HB0.out.size))
                  go_wp2_with fail
                  go_ret2
                  exact ⟨rfl, HBZ.out⟩
                · have q7 : decide (23 < d) = false := decide_eq_false g7
                  by_cases g8 : e < 0
                  · have q8 : decide (e < 0) = true := decide_eq_true g8
                    generalize mdays y m = M at *
                    clear g0 g1 g2 g3 g4 g5 g6 g7 g8
                    go_enter Tryd.func14, Tryd.ntmps14
                    go_wp2_with fail
                    generalize w.alloc (.cells (dtc (y : Int) (m : Int) c d e f) 27) = W at c0 c1 c2 c3 c4 c5 HB0 cD ⊢
                    have k0 := cell_regrown c0
                    have k1 := cell_regrown c1
                    have k2 := cell_regrown c2
                    have k3 := cell_regrown c3
                    have k4 := cell_regrown c4
                    have k5 := cell_regrown c5
                    clear c0 c1 c2 c3 c4 c5
                    refine wp_region_quiet_below (by kernel_rfl) (by kernel_rfl) ?_
                    repeat (go_big_quiet_step (exact cD _ _))
                    refine wpQuiet_nil ?_
                    intro _ hw'
                    obtain ⟨⟨dq, osq⟩, hw''⟩ := hw'
                    subst hw''
                    have HBZ := Lib.hid (HB0.out.trans ((below_regrown W dq osq).mono HB0.out.size))
                    go_wp2_with fail
                    go_ret2
                    exact ⟨rfl, HBZ.out⟩
                  · have q8 : decide (e < 0) = false := decide_eq_false g8
                    by_cases g9 : 59 < e
                    · have q9 : decide (59 < e) = true := decide_eq_true g9
                      generalize mdays y m = M at *
                      clear g0 g1 g2 g3 g4 g5 g6 g7 g8 g9
                      go_enter Tryd.func14, Tryd.ntmps14
                      go_wp2_with fail
                      generalize w.alloc (.cells (dtc (y : Int) (m : Int) c d e f) 27) = W at c0 c1 c2 c3 c4 c5 HB0 cD ⊢
                      have k0 := cell_regrown c0
                      have k1 := cell_regrown c1
                      have k2 := cell_regrown c2
                      have k3 := cell_regrown c3
                      have k4 := cell_regrown c4
                      have k5 := cell_regrown c5
                      clear c0 c1 c2 c3 c4 c5
                      refine wp_region_quiet_below (by kernel_rfl) (by kernel_rfl) ?_
                      repeat (go_big_quiet_step (exact cD _ _))
                      refine wpQuiet_nil ?_
                      intro _ hw'
                      obtain ⟨⟨dq, osq⟩, hw''⟩ := hw'
                      subst hw''
                      have HBZ := Lib.hid (HB0.out.trans ((below_regrown W dq osq).mono HB0.out.size))
                      go_wp2_with fail
                      go_ret2
                      exact ⟨rfl, HBZ.out⟩
                    · have q9 : decide (59 < e) = false := decide_eq_false g9
                      by_cases g10 : f < 0
                      · have q10 : decide (f < 0) = true := decide_eq_true g10
                        generalize mdays y m = M at *
                        clear g0 g1 g2 g3 g4 g5 g6 g7 g8 g9 g10
                        go_enter Tryd.func14, Tryd.ntmps14
                        go_wp2_with fail
                        generalize w.alloc (.cells (dtc (y : Int) (m : Int) c d e f) 27) = W at c0 c1 c2 c3 c4 c5 HB0 cD ⊢
                        have k0 := cell_regrown c0
                        have k1 := cell_regrown c1
                        have k2 := cell_regrown c2
                        have k3 := cell_regrown c3
                        have k4 := cell_regrown c4
                        have k5 := cell_regrown c5
                        clear c0 c1 c2 c3 c4 c5
                        refine wp_region_quiet_below (by kernel_rfl) (by kernel_rfl) ?_
                        repeat (go_big_quiet_step (exact cD _ _))
                        refine wpQuiet_nil ?_
                        intro _ hw'
                        obtain ⟨⟨dq, osq⟩, hw''⟩ := hw'
                        subst hw''
                        have HBZ := Lib.hid (HB0.out.trans ((below_regrown W dq osq).mono HB0.out.size))
                        go_wp2_with fail
                        go_ret2
                        exact ⟨rfl, HBZ.out⟩
                      · have q10 : decide (f < 0) = false := decide_eq_false g10
                        by_cases g11 : 59 < f
                        · have q11 : decide (59 < f) = true := decide_eq_true g11
                          generalize mdays y m = M at *
                          clear g0 g1 g2 g3 g4 g5 g6 g7 g8 g9 g10 g11
                          go_enter Tryd.func14, Tryd.ntmps14
                          go_wp2_with fail
                          generalize w.alloc (.cells (dtc (y : Int) (m : Int) c d e f) 27) = W at c0 c1 c2 c3 c4 c5 HB0 cD ⊢
                          have k0 := cell_regrown c0
                          have k1 := cell_regrown c1
                          have k2 := cell_regrown c2
                          have k3 := cell_regrown c3
                          have k4 := cell_regrown c4
                          have k5 := cell_regrown c5
                          clear c0 c1 c2 c3 c4 c5
                          refine wp_region_quiet_below (by kernel_rfl) (by kernel_rfl) ?_
                          repeat (go_big_quiet_step (exact cD _ _))
                          refine wpQuiet_nil ?_
                          intro _ hw'
                          obtain ⟨⟨dq, osq⟩, hw''⟩ := hw'
                          subst hw''
                          have HBZ := Lib.hid (HB0.out.trans ((below_regrown W dq osq).mono HB0.out.size))
                          go_wp2_with fail
                          go_ret2
                          exact ⟨rfl, HBZ.out⟩
                        · have q11 : decide (59 < f) = false := decide_eq_false g11
                          exact absurd (okI_of ⟨by omega, by omega⟩ ⟨by omega, by omega⟩ ⟨by omega, by simp only [Int.toNat_natCast]; omega⟩ ⟨by omega, by omega⟩ ⟨by omega, by omega⟩ ⟨by omega, by omega⟩) HN.out
end Go.Proofs.YtkgdkaopbnodpaaDoor
