/-
  The contract of the reference's FormatTime.
-/
import Derived.Test.YtkgdkaopbnodpaaDoorDdigs
namespace Go.Proofs.YtkgdkaopbnodpaaDoor
open Go.RowKit

theorem rpad2 {v : Nat} (h : v < 100) (w : World) :
    Calls Tryd.prog 36 #[.int .i64 (v : Int), .int .i64 2] w fun E w' => E = .returned (.string (strOf (d2 v))) ∧ Below w.heap.size w w' := by
  have := rpad_any v 2 w (by omega) (by omega)
  rwa [pad_two h] at this
theorem rpad4 {v : Nat} (h : 1000 ≤ v) (h2 : v < 10000) (w : World) :
    Calls Tryd.prog 36 #[.int .i64 (v : Int), .int .i64 4] w fun E w' => E = .returned (.string (strOf (d4 v))) ∧ Below w.heap.size w w' := by
  have := rpad_any v 4 w (by omega) (by omega)
  rwa [pad_four h h2] at this
theorem rpad2q {v : Nat} (h : v < 100) (W : World) (dd : Nat) (os : Array Obj) :
    Calls Tryd.prog 36 #[.int .i64 (v : Int), .int .i64 2] (Sort.grow (redrawn W dd) os) fun E w'' => E = .returned (.string (strOf (d2 v))) ∧ ∃ p : Regrown, w'' = Sort.grow (redrawn W p.d) p.os := Calls.regrown_of (rpad2 h _)
theorem rpad4q {v : Nat} (h : 1000 ≤ v) (h2 : v < 10000) (W : World) (dd : Nat) (os : Array Obj) :
    Calls Tryd.prog 36 #[.int .i64 (v : Int), .int .i64 4] (Sort.grow (redrawn W dd) os) fun E w'' => E = .returned (.string (strOf (d4 v))) ∧ ∃ p : Regrown, w'' = Sort.grow (redrawn W p.d) p.os := Calls.regrown_of (rpad4 h h2 _)
theorem add_list (a b : List UInt8) (h : a.length + b.length ≤ 1000) (w : World) : (Op.stringOp .add (strOf a) (strOf b)).run Tryd.prog w = .ok (.string (strOf (a ++ b))) w := by
  rw [run_string_add_sum w _ _ (by rw [strOf_size, strOf_size]; omega), str_cat]
theorem add_one (a : List UInt8) (c : UInt8) (h : a.length ≤ 1000) (w : World) : (Op.stringOp .add (strOf a) ⟨#[c]⟩).run Tryd.prog w = .ok (.string (strOf (a ++ [c]))) w := by
  rw [show (⟨#[c]⟩ : ByteArray) = strOf [c] from rfl]
  rw [run_string_add_sum w _ _ (by rw [strOf_size, strOf_size]; simp; omega), str_cat]
theorem d2_len (n : Nat) : (d2 n).length = 2 := rfl
theorem d4_len (n : Nat) : (d4 n).length = 4 := rfl

set_option maxRecDepth 100000 in
set_option maxHeartbeats 1000000 in
theorem rfmt_no {t : Int} (h : t < 0 ∨ 254033452799 < t) (w : World) :
    Calls Tryd.prog 21 #[.int .i64 t] w fun E w' => E = .returned (.tuple #[.string ⟨#[]⟩, .int .i64 1]) ∧ Below w.heap.size w w' := by
  have HC := Lib.hid (fun w => rciv_no h w)
  clear h
  go_enter Tryd.func21, Tryd.ntmps21
  go_wp2_with (go_at_call 11; (with_reducible refine (HC.out _).mono ?_); rintro E w1 ⟨rfl, hb1⟩; have HB1 := Lib.hid hb1; clear hb1)
  go_ret2
  exact ⟨rfl, below_next HB1.out (belowNew _ _)⟩
set_option maxRecDepth 100000 in
set_option maxHeartbeats 4000000 in
theorem rfmt_yes {x : Dt} (h : Ok x) (w : World) :
    Calls Tryd.prog 21 #[.int .i64 ((secs x : Nat) : Int)] w fun E w' => E = .returned (.tuple #[.string (strOf (txtT x)), .int .i64 0]) ∧ Below w.heap.size w w' := by
  have HC := Lib.hid (fun w => rciv_yes h w)
  have hd := mdays_pos (y := x.y) h.m1 h.m2
  have a := h.y2
  have b := h.m2
  have c := h.d2
  have d := h.h2
  have e := h.n2
  have f := h.s2
  have g := h.y1
  have HP1 := Lib.hid (fun W dd os => rpad4q (v := x.y) (by omega) (by omega) W dd os)
  have HP2 := Lib.hid (fun W dd os => rpad2q (v := x.m) (by omega) W dd os)
  have HP3 := Lib.hid (fun W dd os => rpad2q (v := x.d) (by omega) W dd os)
  have HP4 := Lib.hid (fun W dd os => rpad2q (v := x.h) (by omega) W dd os)
  have HP5 := Lib.hid (fun W dd os => rpad2q (v := x.n) (by omega) W dd os)
  have HP6 := Lib.hid (fun W dd os => rpad2q (v := x.s) (by omega) W dd os)
  have HX := Lib.hid (show txtT x = d4 x.y ++ [45] ++ d2 x.m ++ [45] ++ d2 x.d ++ [32] ++ d2 x.h ++ [58] ++ d2 x.n ++ [58] ++ d2 x.s from rfl)
  have l1 := d4_len x.y
  have l2 := d2_len x.m
  have l3 := d2_len x.d
  have l4 := d2_len x.h
  have l5 := d2_len x.n
  have l6 := d2_len x.s
  generalize secs x = T at HC ⊢
  generalize d4 x.y = Y at HP1 HX l1
  generalize d2 x.m = M at HP2 HX l2
  generalize d2 x.d = D at HP3 HX l3
  generalize d2 x.h = H at HP4 HX l4
  generalize d2 x.n = N at HP5 HX l5
  generalize d2 x.s = S at HP6 HX l6
  rw [HX.out]
  have s1 := add_one Y 45 (by omega)
  have s2 := add_list (Y ++ [45]) M (by simp only [List.length_append, List.length_cons, List.length_nil]; omega)
  have s3 := add_one (Y ++ [45] ++ M) 45 (by simp only [List.length_append, List.length_cons, List.length_nil]; omega)
  have s4 := add_list (Y ++ [45] ++ M ++ [45]) D (by simp only [List.length_append, List.length_cons, List.length_nil]; omega)
  have s5 := add_one (Y ++ [45] ++ M ++ [45] ++ D) 32 (by simp only [List.length_append, List.length_cons, List.length_nil]; omega)
  have s6 := add_list (Y ++ [45] ++ M ++ [45] ++ D ++ [32]) H (by simp only [List.length_append, List.length_cons, List.length_nil]; omega)
  have s7 := add_one (Y ++ [45] ++ M ++ [45] ++ D ++ [32] ++ H) 58 (by simp only [List.length_append, List.length_cons, List.length_nil]; omega)
  have s8 := add_list (Y ++ [45] ++ M ++ [45] ++ D ++ [32] ++ H ++ [58]) N (by simp only [List.length_append, List.length_cons, List.length_nil]; omega)
  have s9 := add_one (Y ++ [45] ++ M ++ [45] ++ D ++ [32] ++ H ++ [58] ++ N) 58 (by simp only [List.length_append, List.length_cons, List.length_nil]; omega)
  have s10 := add_list (Y ++ [45] ++ M ++ [45] ++ D ++ [32] ++ H ++ [58] ++ N ++ [58]) S (by simp only [List.length_append, List.length_cons, List.length_nil]; omega)
  generalize Y ++ [45] ++ M ++ [45] ++ D ++ [32] ++ H ++ [58] ++ N ++ [58] ++ S = R10 at s10 ⊢
  generalize Y ++ [45] ++ M ++ [45] ++ D ++ [32] ++ H ++ [58] ++ N ++ [58] = R9 at s9 s10
  generalize Y ++ [45] ++ M ++ [45] ++ D ++ [32] ++ H ++ [58] ++ N = R8 at s8 s9
  generalize Y ++ [45] ++ M ++ [45] ++ D ++ [32] ++ H ++ [58] = R7 at s7 s8
  generalize Y ++ [45] ++ M ++ [45] ++ D ++ [32] ++ H = R6 at s6 s7
  generalize Y ++ [45] ++ M ++ [45] ++ D ++ [32] = R5 at s5 s6
  generalize Y ++ [45] ++ M ++ [45] ++ D = R4 at s4 s5
  generalize Y ++ [45] ++ M ++ [45] = R3 at s3 s4
  generalize Y ++ [45] ++ M = R2 at s2 s3
  generalize Y ++ [45] = R1 at s1 s2
  clear HX l1 l2 l3 l4 l5 l6 hd a b c d e f g h
  go_enter Tryd.func21, Tryd.ntmps21
  go_wp2_with (first
    | (go_at_call 11; (with_reducible refine (HC.out _).mono ?_); rintro E w1 ⟨rfl, hb1⟩; have HB1 := Lib.hid hb1; clear hb1))
  obtain ⟨c0, c1, c2, c3, c4, c5⟩ := dt_cell (dtNew w1 (dtc x.y x.m x.d x.h x.n x.s) 27)
  have HB2 := Lib.hid (below_next HB1.out (belowNew w1 (.cells (dtc x.y x.m x.d x.h x.n x.s) 27)))
  generalize w1.alloc (.cells (dtc x.y x.m x.d x.h x.n x.s) 27) = W at c0 c1 c2 c3 c4 c5 HB2 ⊢
  have k0 := cell_regrown c0
  have k1 := cell_regrown c1
  have k2 := cell_regrown c2
  have k3 := cell_regrown c3
  have k4 := cell_regrown c4
  have k5 := cell_regrown c5
  clear c0 c1 c2 c3 c4 c5
  refine wp_region_quiet_below (by kernel_rfl) (by kernel_rfl) ?_
  repeat (go_big_quiet_step (first | with_reducible exact HP1.out W _ _ | with_reducible exact HP2.out W _ _ | with_reducible exact HP3.out W _ _ | with_reducible exact HP4.out W _ _ | with_reducible exact HP5.out W _ _ | with_reducible exact HP6.out W _ _))
  refine wpQuiet_nil ?_
  intro _ hw'
  obtain ⟨⟨dq, osq⟩, hw''⟩ := hw'
  subst hw''
  go_wp2_with fail
  go_ret2
  exact ⟨rfl, HB2.out.trans ((below_regrown W dq osq).mono HB2.out.size)⟩
end Go.Proofs.YtkgdkaopbnodpaaDoor
