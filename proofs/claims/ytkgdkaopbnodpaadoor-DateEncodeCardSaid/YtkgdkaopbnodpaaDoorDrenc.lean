/-
  The contract of the reference's EncodeTime.
-/
import Derived.Test.YtkgdkaopbnodpaaDoorDrwrap
import Derived.Test.YtkgdkaopbnodpaaDoorDdec
namespace Go.Proofs.YtkgdkaopbnodpaaDoor
open Go.RowKit

theorem wrap23 (x : Dt) (W : World) (cap : Nat) :
    Calls Tryd.prog 37 #[.int .i64 23, .slice (some ⟨W.heap.size, 0, none⟩) 1 cap] (W.alloc (.cells #[.string (strOf (txtU x))] 9)) fun E w' => E = .returned (.tuple #[.string (strOf (23 :: 13 :: txtU x)), .int .i64 0]) ∧ Below (W.alloc (.cells #[.string (strOf (txtU x))] 9)).heap.size (W.alloc (.cells #[.string (strOf (txtU x))] 9)) w' :=
  rwrap1 23 (by decide) (txtU x) (by rw [txtU_len]; omega) _ cap _ (row_strs W [strOf (txtU x)] 0 (by simp))
theorem wrap24 (x : Dt) (W : World) (cap : Nat) :
    Calls Tryd.prog 37 #[.int .i64 24, .slice (some ⟨W.heap.size, 0, none⟩) 1 cap] (W.alloc (.cells #[.string (strOf (txtL x))] 9)) fun E w' => E = .returned (.tuple #[.string (strOf (24 :: 15 :: txtL x)), .int .i64 0]) ∧ Below (W.alloc (.cells #[.string (strOf (txtL x))] 9)).heap.size (W.alloc (.cells #[.string (strOf (txtL x))] 9)) w' :=
  rwrap1 24 (by decide) (txtL x) (by rw [txtL_len]; omega) _ cap _ (row_strs W [strOf (txtL x)] 0 (by simp))

set_option maxRecDepth 100000 in
set_option maxHeartbeats 1000000 in
theorem renc_no {t : Int} (h : t < 0 ∨ 254033452799 < t) (w : World) :
    Calls Tryd.prog 19 #[.int .i64 t] w fun E w' => E = .returned (.tuple #[.string ⟨#[]⟩, .int .i64 1]) ∧ Below w.heap.size w w' := by
  have HC := Lib.hid (fun w => rciv_no h w)
  clear h
  go_enter Tryd.func19, Tryd.ntmps19
  go_wp2_with (go_at_call 11; (with_reducible refine (HC.out _).mono ?_); rintro E w1 ⟨rfl, hb1⟩; have HB1 := Lib.hid hb1; clear hb1)
  go_ret2
  exact ⟨rfl, below_next HB1.out (belowNew _ _)⟩
set_option maxRecDepth 100000 in
set_option maxHeartbeats 4000000 in
theorem renc_yes {x : Dt} (h : Ok x) (w : World) :
    Calls Tryd.prog 19 #[.int .i64 ((secs x : Nat) : Int)] w fun E w' => E = .returned (.tuple #[.string (strOf (encT x)), .int .i64 0]) ∧ Below w.heap.size w w' := by
  have HC := Lib.hid (fun w => rciv_yes h w)
  have hd := mdays_pos (y := x.y) h.m1 h.m2
  have a := h.y2
  have b := h.m2
  have c := h.d2
  have d := h.h2
  have e := h.n2
  have f := h.s2
  have g := h.y1
  have HP2 := Lib.hid (fun W dd os => rpad2q (v := x.m) (by omega) W dd os)
  have HP3 := Lib.hid (fun W dd os => rpad2q (v := x.d) (by omega) W dd os)
  have HP4 := Lib.hid (fun W dd os => rpad2q (v := x.h) (by omega) W dd os)
  have HP5 := Lib.hid (fun W dd os => rpad2q (v := x.n) (by omega) W dd os)
  have HP6 := Lib.hid (fun W dd os => rpad2q (v := x.s) (by omega) W dd os)
  have HX := Lib.hid (show txtR x = d2 x.m ++ d2 x.d ++ d2 x.h ++ d2 x.n ++ d2 x.s ++ [90] from rfl)
  have hw23 := wrap23 x
  have hw24 := wrap24 x
  obtain ⟨yy, hyy⟩ : ∃ yy, yy = x.y % 100 := ⟨_, rfl⟩
  have hyi : (x.y : Int) % 100 = (yy : Int) := by omega
  have hyb : yy < 100 := by omega
  have HPY := Lib.hid (fun w => rpad2 hyb w)
  have HPL := Lib.hid (fun w => rpad4 (v := x.y) (by omega) (by omega) w)
  have eU : txtU x = d2 x.y ++ txtR x := rfl
  have eL : txtL x = d4 x.y ++ txtR x := rfl
  have eY : d2 yy = d2 x.y := by rw [hyy, d2_mod]
  rw [eY] at HPY
  have lr : (txtR x).length = 11 := rfl
  have sU := add_list (d2 x.y) (txtR x) (by rw [lr, d2_len]; omega)
  have sL := add_list (d4 x.y) (txtR x) (by rw [lr, d4_len]; omega)
  rw [← eU] at sU
  rw [← eL] at sL
  have l2 := d2_len x.m
  have l3 := d2_len x.d
  have l4 := d2_len x.h
  have l5 := d2_len x.n
  have l6 := d2_len x.s
  have HEN := Lib.hid (show (x.y ≤ 2049 → encT x = 23 :: 13 :: txtU x) ∧ (¬ x.y ≤ 2049 → encT x = 24 :: 15 :: txtL x) from ⟨fun h => if_pos h, fun h => if_neg h⟩)
  have HW23 := Lib.hid hw23
  have HW24 := Lib.hid hw24
  clear eU eL eY hyy hw23 hw24
  generalize encT x = EN at HEN ⊢
  generalize secs x = T at HC ⊢
  generalize txtU x = TU at sU HEN HW23
  generalize txtL x = TL at sL HEN HW24
  generalize d2 x.m = M at HP2 HX l2
  generalize d2 x.d = D at HP3 HX l3
  generalize d2 x.h = H at HP4 HX l4
  generalize d2 x.n = N at HP5 HX l5
  generalize d2 x.s = S at HP6 HX l6
  generalize d2 x.y = Y2 at HPY sU
  generalize d4 x.y = Y4 at HPL sL
  rw [HX.out] at sU sL
  have s1 := add_list M D (by omega)
  have s2 := add_list (M ++ D) H (by simp only [List.length_append]; omega)
  have s3 := add_list (M ++ D ++ H) N (by simp only [List.length_append]; omega)
  have s4 := add_list (M ++ D ++ H ++ N) S (by simp only [List.length_append]; omega)
  have s5 := add_one (M ++ D ++ H ++ N ++ S) 90 (by simp only [List.length_append]; omega)
  generalize M ++ D ++ H ++ N ++ S ++ [90] = R5 at s5 sU sL
  generalize M ++ D ++ H ++ N ++ S = R4 at s4 s5
  generalize M ++ D ++ H ++ N = R3 at s3 s4
  generalize M ++ D ++ H = R2 at s2 s3
  generalize M ++ D = R1 at s1 s2
  have HY := Lib.hid (show x.y ≤ 2049 ∨ ¬ x.y ≤ 2049 from Classical.em _)
  clear HX l2 l3 l4 l5 l6 hd b c d e f h lr
  go_enter Tryd.func19, Tryd.ntmps19
  go_wp2_with (first
    | (go_at_call 11; (with_reducible refine (HC.out _).mono ?_); rintro E w1 ⟨rfl, hb1⟩; have HB1 := Lib.hid hb1; clear hb1))
  obtain ⟨c0, c1, c2, c3, c4, c5⟩ := dt_cell (dtNew w1 (dtc x.y x.m x.d x.h x.n x.s) 27)
  have HB2 := Lib.hid (below_next HB1.out (belowNew w1 (.cells (dtc x.y x.m x.d x.h x.n x.s) 27)))
  generalize w1.alloc (.cells (dtc x.y x.m x.d x.h x.n x.s) 27) = W at c0 c1 c2 c3 c4 c5 HB2 ⊢
  have k0 := cell_regrown c0
  have k1 := cell_regrown c1
  have k2 := cell_regrown c2
  have k3 := cell_regrown c3
  have k4 := cell_regrown c4
  have k5 := cell_regrown c5
  clear c0 c1 c2 c3 c4 c5
  refine wp_region_quiet_below (by kernel_rfl) (by kernel_rfl) ?_
  repeat (go_big_quiet_step (first | with_reducible exact HP2.out W _ _ | with_reducible exact HP3.out W _ _ | with_reducible exact HP4.out W _ _ | with_reducible exact HP5.out W _ _ | with_reducible exact HP6.out W _ _))
  refine wpQuiet_nil ?_
  intro _ hw'
  obtain ⟨⟨dq, osq⟩, hw''⟩ := hw'
  subst hw''
  have HB3 := Lib.hid (HB2.out.trans ((below_regrown W dq osq).mono HB2.out.size))
  replace k0 := k0 dq osq
  generalize Sort.grow (redrawn W dq) osq = W2 at k0 HB3 ⊢
  clear k1 k2 k3 k4 k5 s1 s2 s3 s4 s5
  rcases HY.out with hy | hy
  · have HE := Lib.hid (HEN.out.1 hy)
    have q1 : decide ((x.y : Int) < 2050) = true := decide_eq_true (by omega)
    clear hy sL
    go_wp2_with (first
      | (go_at_call 36; (with_reducible refine (HPY.out _).mono ?_); rintro E w3 ⟨rfl, hb3⟩; have HB4 := Lib.hid (below_next HB3.out hb3); clear hb3)
      | (go_at_call 37; (with_reducible refine (HW23.out w3 _).mono ?_); rintro E w4 ⟨rfl, hb4⟩; have HB5 := Lib.hid (below_next (below_next HB4.out (belowNew _ _)) hb4); clear hb4))
    go_ret2
    exact ⟨by rw [HE.out]; rfl, HB5.out⟩
  · have HE := Lib.hid (HEN.out.2 hy)
    have q1 : decide ((x.y : Int) < 2050) = false := decide_eq_false (by omega)
    clear hy sU
    go_wp2_with (first
      | (go_at_call 36; (with_reducible refine (HPL.out _).mono ?_); rintro E w3 ⟨rfl, hb3⟩; have HB4 := Lib.hid (below_next HB3.out hb3); clear hb3)
      | (go_at_call 37; (with_reducible refine (HW24.out w3 _).mono ?_); rintro E w4 ⟨rfl, hb4⟩; have HB5 := Lib.hid (below_next (below_next HB4.out (belowNew _ _)) hb4); clear hb4))
    go_ret2
    exact ⟨by rw [HE.out]; rfl, HB5.out⟩
end Go.Proofs.YtkgdkaopbnodpaaDoor
