/-
  The walks of the reference's DecodeTime.
-/
import Derived.Test.YtkgdkaopbnodpaaDoorDrparse
namespace Go.Proofs.YtkgdkaopbnodpaaDoor
open Go.RowKit

set_option maxRecDepth 100000 in
set_option maxHeartbeats 1000000 in
theorem rdec_tag {tag : Int} (h1 : tag ≠ 23) (h2 : tag ≠ 24) (s : ByteArray) (w : World) :
    Calls Tryd.prog 17 #[.int .i64 tag, .string s] w fun E w' => E = .returned (.tuple #[.int .i64 0, .int .i64 5]) ∧ Below w.heap.size w w' := by
  have e1 : (tag != 23) = true := by simpa using h1
  have e2 : (tag != 24) = true := by simpa using h2
  clear h1 h2
  go_enter Tryd.func17, Tryd.ntmps17
  go_wp2_with fail
  go_ret2
  exact ⟨rfl, Below.refl _ _⟩
set_option maxRecDepth 100000 in
set_option maxHeartbeats 4000000 in
theorem rdecU_len {s : ByteArray} (hs : s.size ≠ 13) (w : World) :
    Calls Tryd.prog 17 #[.int .i64 23, .string s] w fun E w' => E = .returned (.tuple #[.int .i64 0, .int .i64 12]) ∧ Below w.heap.size w w' := by
  have e1 : ((s.size : Int) != 13) = true := by simp; omega
  clear hs
  go_enter Tryd.func17, Tryd.ntmps17
  go_wp2_with fail
  go_ret2
  exact ⟨rfl, Below.refl _ _⟩
set_option maxRecDepth 100000 in
set_option maxHeartbeats 4000000 in
theorem rdecU_last {s : ByteArray} (hs : s.size = 13) (hl : u8at s 12 ≠ 90) (w : World) :
    Calls Tryd.prog 17 #[.int .i64 23, .string s] w fun E w' => E = .returned (.tuple #[.int .i64 0, .int .i64 12]) ∧ Below w.heap.size w w' := by
  have hi := fun w => run_index_u8 (P := Tryd.prog) Tryd.underlying9 s 12 (by omega) 12 rfl w
  have e1 : ((s.size : Int) != 13) = false := by rw [hs]; rfl
  have e2 : (((u8at s 12 : Nat) : Int) != 90) = true := by simp; omega
  generalize u8at s 12 = z at hi e2
  clear hl
  go_enter Tryd.func17, Tryd.ntmps17
  go_wp2_with fail
  go_ret2
  exact ⟨rfl, Below.refl _ _⟩
set_option maxRecDepth 100000 in
set_option maxHeartbeats 4000000 in
theorem rdecU_dig {s : ByteArray} (hs : s.size = 13) (hl : u8at s 12 = 90) (hd : digI (sub s.data.toList 0 12) = -1) (w : World) :
    Calls Tryd.prog 17 #[.int .i64 23, .string s] w fun E w' => E = .returned (.tuple #[.int .i64 0, .int .i64 12]) ∧ Below w.heap.size w w' := by
  have hi := fun w => run_index_u8 (P := Tryd.prog) Tryd.underlying9 s 12 (by omega) 12 rfl w
  rw [hl] at hi
  have H0 := Lib.hid (fun w => dig_sub s 0 12 (by omega) w)
  rw [hd] at H0
  have e1 : ((s.size : Int) != 13) = false := by rw [hs]; rfl
  clear hl hd
  go_enter Tryd.func17, Tryd.ntmps17
  go_wp2_with (go_at_call 33; (with_reducible refine (H0.out _).mono ?_); rintro E w1 ⟨rfl, rfl⟩)
  go_ret2
  exact ⟨rfl, Below.refl _ _⟩
set_option maxRecDepth 100000 in
set_option maxHeartbeats 4000000 in
theorem rdecU_new {s : ByteArray} (hs : s.size = 13) (hl : u8at s 12 = 90) {A Y : Nat} (hd : digI (sub s.data.toList 0 12) = (A : Int)) (hy : digI (sub s.data.toList 0 2) = (Y : Int)) (hyb : Y < 10000) (h50 : 50 ≤ Y)
    {b c d e f : Int} (h1 : b = digI (sub s.data.toList 2 4)) (h2 : c = digI (sub s.data.toList 4 6)) (h3 : d = digI (sub s.data.toList 6 8)) (h4 : e = digI (sub s.data.toList 8 10)) (h5 : f = digI (sub s.data.toList 10 12))
    {v1 v2 : Value} (hS : ∀ w, Calls Tryd.prog 14 #[dtv ((Y : Int) + 1900) b c d e f] w fun E w' => E = .returned (.tuple #[v1, v2]) ∧ Below w.heap.size w w')
    (w : World) :
    Calls Tryd.prog 17 #[.int .i64 23, .string s] w fun E w' => E = .returned (.tuple #[v1, v2]) ∧ Below w.heap.size w w' := by
  have hi := fun w => run_index_u8 (P := Tryd.prog) Tryd.underlying9 s 12 (by omega) 12 rfl w
  rw [hl] at hi
  have H0 := Lib.hid (fun w => dig_sub s 0 12 (by omega) w)
  rw [hd] at H0
  have HY := Lib.hid (fun w => dig_sub s 0 2 (by omega) w)
  rw [hy] at HY
  have e0 : decide ((A : Int) < 0) = false := decide_eq_false (by omega)
  have e1 : ((s.size : Int) != 13) = false := by rw [hs]; rfl
  obtain ⟨Z, hZ⟩ : ∃ Z, Z = Y + 1900 := ⟨_, rfl⟩
  have q1 : (Y : Int) + 1900 = (Z : Int) := by omega
  have e2 : decide (50 ≤ (Y : Int)) = true := decide_eq_true (by omega)
  rw [q1] at hS
  clear hZ h50
  have H1 := Lib.hid (fun w => dig_sub s 2 4 (by omega) w)
  rw [← h1] at H1
  have H2 := Lib.hid (fun w => dig_sub s 4 6 (by omega) w)
  rw [← h2] at H2
  have H3 := Lib.hid (fun w => dig_sub s 6 8 (by omega) w)
  rw [← h3] at H3
  have H4 := Lib.hid (fun w => dig_sub s 8 10 (by omega) w)
  rw [← h4] at H4
  have H5 := Lib.hid (fun w => dig_sub s 10 12 (by omega) w)
  rw [← h5] at H5
  have HSQ := Lib.hid (show ∀ W : World, ∀ dd os, Calls Tryd.prog 14 #[dtv (Z : Int) b c d e f] (Sort.grow (redrawn W dd) os) fun E w'' => E = .returned (.tuple #[v1, v2]) ∧ ∃ p : Regrown, w'' = Sort.grow (redrawn W p.d) p.os from fun W dd os => Calls.regrown_of (hS _))
  have Q1 := Lib.hid (show ∀ W : World, ∀ dd os, Calls Tryd.prog 33 #[.string (s.extract 2 4)] (Sort.grow (redrawn W dd) os) fun E w'' => E = .returned (.int .i64 b) ∧ ∃ p : Regrown, w'' = Sort.grow (redrawn W p.d) p.os from fun W dd os => (H1.out _).mono fun _ _ ⟨h1, h2⟩ => ⟨h1, ⟨dd, os⟩, h2⟩)
  have Q2 := Lib.hid (show ∀ W : World, ∀ dd os, Calls Tryd.prog 33 #[.string (s.extract 4 6)] (Sort.grow (redrawn W dd) os) fun E w'' => E = .returned (.int .i64 c) ∧ ∃ p : Regrown, w'' = Sort.grow (redrawn W p.d) p.os from fun W dd os => (H2.out _).mono fun _ _ ⟨h1, h2⟩ => ⟨h1, ⟨dd, os⟩, h2⟩)
  have Q3 := Lib.hid (show ∀ W : World, ∀ dd os, Calls Tryd.prog 33 #[.string (s.extract 6 8)] (Sort.grow (redrawn W dd) os) fun E w'' => E = .returned (.int .i64 d) ∧ ∃ p : Regrown, w'' = Sort.grow (redrawn W p.d) p.os from fun W dd os => (H3.out _).mono fun _ _ ⟨h1, h2⟩ => ⟨h1, ⟨dd, os⟩, h2⟩)
  have Q4 := Lib.hid (show ∀ W : World, ∀ dd os, Calls Tryd.prog 33 #[.string (s.extract 8 10)] (Sort.grow (redrawn W dd) os) fun E w'' => E = .returned (.int .i64 e) ∧ ∃ p : Regrown, w'' = Sort.grow (redrawn W p.d) p.os from fun W dd os => (H4.out _).mono fun _ _ ⟨h1, h2⟩ => ⟨h1, ⟨dd, os⟩, h2⟩)
  have Q5 := Lib.hid (show ∀ W : World, ∀ dd os, Calls Tryd.prog 33 #[.string (s.extract 10 12)] (Sort.grow (redrawn W dd) os) fun E w'' => E = .returned (.int .i64 f) ∧ ∃ p : Regrown, w'' = Sort.grow (redrawn W p.d) p.os from fun W dd os => (H5.out _).mono fun _ _ ⟨h1, h2⟩ => ⟨h1, ⟨dd, os⟩, h2⟩)
  clear h1 h2 h3 h4 h5 H1 H2 H3 H4 H5 hS hl hd hy
  go_enter Tryd.func17, Tryd.ntmps17
  go_wp2_with (first
    | (go_at_call 33; (with_reducible refine (H0.out _).mono ?_); rintro E w1 ⟨rfl, rfl⟩)
    | (go_at_call 33; (with_reducible refine (HY.out _).mono ?_); rintro E w1 ⟨rfl, rfl⟩))
  refine wp_region_quiet_below (by kernel_rfl) (by kernel_rfl) ?_
  repeat (go_big_quiet_step (first | with_reducible exact Q1.out _ _ _ | with_reducible exact Q2.out _ _ _ | with_reducible exact Q3.out _ _ _ | with_reducible exact Q4.out _ _ _ | with_reducible exact Q5.out _ _ _ | with_reducible exact HSQ.out _ _ _))
  refine wpQuiet_nil ?_
  intro _ hw'
  obtain ⟨⟨dq, osq⟩, hw''⟩ := hw'
  subst hw''
  go_wp2_with fail
  go_ret2
  exact ⟨rfl, below_regrown _ dq osq⟩
set_option maxRecDepth 100000 in
set_option maxHeartbeats 4000000 in
theorem rdecU_old {s : ByteArray} (hs : s.size = 13) (hl : u8at s 12 = 90) {A Y : Nat} (hd : digI (sub s.data.toList 0 12) = (A : Int)) (hy : digI (sub s.data.toList 0 2) = (Y : Int)) (hyb : Y < 10000) (h50 : Y < 50)
    {b c d e f : Int} (h1 : b = digI (sub s.data.toList 2 4)) (h2 : c = digI (sub s.data.toList 4 6)) (h3 : d = digI (sub s.data.toList 6 8)) (h4 : e = digI (sub s.data.toList 8 10)) (h5 : f = digI (sub s.data.toList 10 12))
    {v1 v2 : Value} (hS : ∀ w, Calls Tryd.prog 14 #[dtv ((Y : Int) + 2000) b c d e f] w fun E w' => E = .returned (.tuple #[v1, v2]) ∧ Below w.heap.size w w')
    (w : World) :
    Calls Tryd.prog 17 #[.int .i64 23, .string s] w fun E w' => E = .returned (.tuple #[v1, v2]) ∧ Below w.heap.size w w' := by
  have hi := fun w => run_index_u8 (P := Tryd.prog) Tryd.underlying9 s 12 (by omega) 12 rfl w
  rw [hl] at hi
  have H0 := Lib.hid (fun w => dig_sub s 0 12 (by omega) w)
  rw [hd] at H0
  have HY := Lib.hid (fun w => dig_sub s 0 2 (by omega) w)
  rw [hy] at HY
  have e0 : decide ((A : Int) < 0) = false := decide_eq_false (by omega)
  have e1 : ((s.size : Int) != 13) = false := by rw [hs]; rfl
  obtain ⟨Z, hZ⟩ : ∃ Z, Z = Y + 2000 := ⟨_, rfl⟩
  have q1 : (Y : Int) + 2000 = (Z : Int) := by omega
  have e2 : decide (50 ≤ (Y : Int)) = false := decide_eq_false (by omega)
  rw [q1] at hS
  clear hZ h50
  have H1 := Lib.hid (fun w => dig_sub s 2 4 (by omega) w)
  rw [← h1] at H1
  have H2 := Lib.hid (fun w => dig_sub s 4 6 (by omega) w)
  rw [← h2] at H2
  have H3 := Lib.hid (fun w => dig_sub s 6 8 (by omega) w)
  rw [← h3] at H3
  have H4 := Lib.hid (fun w => dig_sub s 8 10 (by omega) w)
  rw [← h4] at H4
  have H5 := Lib.hid (fun w => dig_sub s 10 12 (by omega) w)
  rw [← h5] at H5
  have HSQ := Lib.hid (show ∀ W : World, ∀ dd os, Calls Tryd.prog 14 #[dtv (Z : Int) b c d e f] (Sort.grow (redrawn W dd) os) fun E w'' => E = .returned (.tuple #[v1, v2]) ∧ ∃ p : Regrown, w'' = Sort.grow (redrawn W p.d) p.os from fun W dd os => Calls.regrown_of (hS _))
  have Q1 := Lib.hid (show ∀ W : World, ∀ dd os, Calls Tryd.prog 33 #[.string (s.extract 2 4)] (Sort.grow (redrawn W dd) os) fun E w'' => E = .returned (.int .i64 b) ∧ ∃ p : Regrown, w'' = Sort.grow (redrawn W p.d) p.os from fun W dd os => (H1.out _).mono fun _ _ ⟨h1, h2⟩ => ⟨h1, ⟨dd, os⟩, h2⟩)
  have Q2 := Lib.hid (show ∀ W : World, ∀ dd os, Calls Tryd.prog 33 #[.string (s.extract 4 6)] (Sort.grow (redrawn W dd) os) fun E w'' => E = .returned (.int .i64 c) ∧ ∃ p : Regrown, w'' = Sort.grow (redrawn W p.d) p.os from fun W dd os => (H2.out _).mono fun _ _ ⟨h1, h2⟩ => ⟨h1, ⟨dd, os⟩, h2⟩)
  have Q3 := Lib.hid (show ∀ W : World, ∀ dd os, Calls Tryd.prog 33 #[.string (s.extract 6 8)] (Sort.grow (redrawn W dd) os) fun E w'' => E = .returned (.int .i64 d) ∧ ∃ p : Regrown, w'' = Sort.grow (redrawn W p.d) p.os from fun W dd os => (H3.out _).mono fun _ _ ⟨h1, h2⟩ => ⟨h1, ⟨dd, os⟩, h2⟩)
  have Q4 := Lib.hid (show ∀ W : World, ∀ dd os, Calls Tryd.prog 33 #[.string (s.extract 8 10)] (Sort.grow (redrawn W dd) os) fun E w'' => E = .returned (.int .i64 e) ∧ ∃ p : Regrown, w'' = Sort.grow (redrawn W p.d) p.os from fun W dd os => (H4.out _).mono fun _ _ ⟨h1, h2⟩ => ⟨h1, ⟨dd, os⟩, h2⟩)
  have Q5 := Lib.hid (show ∀ W : World, ∀ dd os, Calls Tryd.prog 33 #[.string (s.extract 10 12)] (Sort.grow (redrawn W dd) os) fun E w'' => E = .returned (.int .i64 f) ∧ ∃ p : Regrown, w'' = Sort.grow (redrawn W p.d) p.os from fun W dd os => (H5.out _).mono fun _ _ ⟨h1, h2⟩ => ⟨h1, ⟨dd, os⟩, h2⟩)
  clear h1 h2 h3 h4 h5 H1 H2 H3 H4 H5 hS hl hd hy
  go_enter Tryd.func17, Tryd.ntmps17
  go_wp2_with (first
    | (go_at_call 33; (with_reducible refine (H0.out _).mono ?_); rintro E w1 ⟨rfl, rfl⟩)
    | (go_at_call 33; (with_reducible refine (HY.out _).mono ?_); rintro E w1 ⟨rfl, rfl⟩))
  refine wp_region_quiet_below (by kernel_rfl) (by kernel_rfl) ?_
  repeat (go_big_quiet_step (first | with_reducible exact Q1.out _ _ _ | with_reducible exact Q2.out _ _ _ | with_reducible exact Q3.out _ _ _ | with_reducible exact Q4.out _ _ _ | with_reducible exact Q5.out _ _ _ | with_reducible exact HSQ.out _ _ _))
  refine wpQuiet_nil ?_
  intro _ hw'
  obtain ⟨⟨dq, osq⟩, hw''⟩ := hw'
  subst hw''
  go_wp2_with fail
  go_ret2
  exact ⟨rfl, below_regrown _ dq osq⟩
set_option maxRecDepth 100000 in
set_option maxHeartbeats 4000000 in
theorem rdecL_len {s : ByteArray} (hs : s.size ≠ 15) (w : World) :
    Calls Tryd.prog 17 #[.int .i64 24, .string s] w fun E w' => E = .returned (.tuple #[.int .i64 0, .int .i64 12]) ∧ Below w.heap.size w w' := by
  have e1 : ((s.size : Int) != 15) = true := by simp; omega
  clear hs
  go_enter Tryd.func17, Tryd.ntmps17
  go_wp2_with fail
  go_ret2
  exact ⟨rfl, Below.refl _ _⟩
set_option maxRecDepth 100000 in
set_option maxHeartbeats 4000000 in
theorem rdecL_last {s : ByteArray} (hs : s.size = 15) (hl : u8at s 14 ≠ 90) (w : World) :
    Calls Tryd.prog 17 #[.int .i64 24, .string s] w fun E w' => E = .returned (.tuple #[.int .i64 0, .int .i64 12]) ∧ Below w.heap.size w w' := by
  have hi := fun w => run_index_u8 (P := Tryd.prog) Tryd.underlying9 s 14 (by omega) 14 rfl w
  have e1 : ((s.size : Int) != 15) = false := by rw [hs]; rfl
  have e2 : (((u8at s 14 : Nat) : Int) != 90) = true := by simp; omega
  generalize u8at s 14 = z at hi e2
  clear hl
  go_enter Tryd.func17, Tryd.ntmps17
  go_wp2_with fail
  go_ret2
  exact ⟨rfl, Below.refl _ _⟩
set_option maxRecDepth 100000 in
set_option maxHeartbeats 4000000 in
theorem rdecL_dig {s : ByteArray} (hs : s.size = 15) (hl : u8at s 14 = 90) (hd : digI (sub s.data.toList 0 14) = -1) (w : World) :
    Calls Tryd.prog 17 #[.int .i64 24, .string s] w fun E w' => E = .returned (.tuple #[.int .i64 0, .int .i64 12]) ∧ Below w.heap.size w w' := by
  have hi := fun w => run_index_u8 (P := Tryd.prog) Tryd.underlying9 s 14 (by omega) 14 rfl w
  rw [hl] at hi
  have H0 := Lib.hid (fun w => dig_sub s 0 14 (by omega) w)
  rw [hd] at H0
  have e1 : ((s.size : Int) != 15) = false := by rw [hs]; rfl
  clear hl hd
  go_enter Tryd.func17, Tryd.ntmps17
  go_wp2_with (go_at_call 33; (with_reducible refine (H0.out _).mono ?_); rintro E w1 ⟨rfl, rfl⟩)
  go_ret2
  exact ⟨rfl, Below.refl _ _⟩
set_option maxRecDepth 100000 in
set_option maxHeartbeats 4000000 in
theorem rdecL_early {s : ByteArray} (hs : s.size = 15) (hl : u8at s 14 = 90) {A Y : Nat} (hd : digI (sub s.data.toList 0 14) = (A : Int)) (hy : digI (sub s.data.toList 0 4) = (Y : Int)) (hyb : Y < 10000) (h50 : Y < 2050)
    (w : World) :
    Calls Tryd.prog 17 #[.int .i64 24, .string s] w fun E w' => E = .returned (.tuple #[.int .i64 0, .int .i64 12]) ∧ Below w.heap.size w w' := by
  have hi := fun w => run_index_u8 (P := Tryd.prog) Tryd.underlying9 s 14 (by omega) 14 rfl w
  rw [hl] at hi
  have H0 := Lib.hid (fun w => dig_sub s 0 14 (by omega) w)
  rw [hd] at H0
  have HY := Lib.hid (fun w => dig_sub s 0 4 (by omega) w)
  rw [hy] at HY
  have e0 : decide ((A : Int) < 0) = false := decide_eq_false (by omega)
  have e1 : ((s.size : Int) != 15) = false := by rw [hs]; rfl
  have e2 : decide ((Y : Int) < 2050) = true := decide_eq_true (by omega)
  clear h50
  clear hl hd hy
  go_enter Tryd.func17, Tryd.ntmps17
  go_wp2_with (first
    | (go_at_call 33; (with_reducible refine (H0.out _).mono ?_); rintro E w1 ⟨rfl, rfl⟩)
    | (go_at_call 33; (with_reducible refine (HY.out _).mono ?_); rintro E w1 ⟨rfl, rfl⟩))
  go_ret2
  exact ⟨rfl, Below.refl _ _⟩
set_option maxRecDepth 100000 in
set_option maxHeartbeats 4000000 in
theorem rdecL_late {s : ByteArray} (hs : s.size = 15) (hl : u8at s 14 = 90) {A Y : Nat} (hd : digI (sub s.data.toList 0 14) = (A : Int)) (hy : digI (sub s.data.toList 0 4) = (Y : Int)) (hyb : Y < 10000) (h50 : 2050 ≤ Y)
    {b c d e f : Int} (h1 : b = digI (sub s.data.toList 4 6)) (h2 : c = digI (sub s.data.toList 6 8)) (h3 : d = digI (sub s.data.toList 8 10)) (h4 : e = digI (sub s.data.toList 10 12)) (h5 : f = digI (sub s.data.toList 12 14))
    {v1 v2 : Value} (hS : ∀ w, Calls Tryd.prog 14 #[dtv (Y : Int) b c d e f] w fun E w' => E = .returned (.tuple #[v1, v2]) ∧ Below w.heap.size w w')
    (w : World) :
    Calls Tryd.prog 17 #[.int .i64 24, .string s] w fun E w' => E = .returned (.tuple #[v1, v2]) ∧ Below w.heap.size w w' := by
  have hi := fun w => run_index_u8 (P := Tryd.prog) Tryd.underlying9 s 14 (by omega) 14 rfl w
  rw [hl] at hi
  have H0 := Lib.hid (fun w => dig_sub s 0 14 (by omega) w)
  rw [hd] at H0
  have HY := Lib.hid (fun w => dig_sub s 0 4 (by omega) w)
  rw [hy] at HY
  have e0 : decide ((A : Int) < 0) = false := decide_eq_false (by omega)
  have e1 : ((s.size : Int) != 15) = false := by rw [hs]; rfl
  have e2 : decide ((Y : Int) < 2050) = false := decide_eq_false (by omega)
  clear h50
  have H1 := Lib.hid (fun w => dig_sub s 4 6 (by omega) w)
  rw [← h1] at H1
  have H2 := Lib.hid (fun w => dig_sub s 6 8 (by omega) w)
  rw [← h2] at H2
  have H3 := Lib.hid (fun w => dig_sub s 8 10 (by omega) w)
  rw [← h3] at H3
  have H4 := Lib.hid (fun w => dig_sub s 10 12 (by omega) w)
  rw [← h4] at H4
  have H5 := Lib.hid (fun w => dig_sub s 12 14 (by omega) w)
  rw [← h5] at H5
  have HSQ := Lib.hid (show ∀ W : World, ∀ dd os, Calls Tryd.prog 14 #[dtv (Y : Int) b c d e f] (Sort.grow (redrawn W dd) os) fun E w'' => E = .returned (.tuple #[v1, v2]) ∧ ∃ p : Regrown, w'' = Sort.grow (redrawn W p.d) p.os from fun W dd os => Calls.regrown_of (hS _))
  have Q1 := Lib.hid (show ∀ W : World, ∀ dd os, Calls Tryd.prog 33 #[.string (s.extract 4 6)] (Sort.grow (redrawn W dd) os) fun E w'' => E = .returned (.int .i64 b) ∧ ∃ p : Regrown, w'' = Sort.grow (redrawn W p.d) p.os from fun W dd os => (H1.out _).mono fun _ _ ⟨h1, h2⟩ => ⟨h1, ⟨dd, os⟩, h2⟩)
  have Q2 := Lib.hid (show ∀ W : World, ∀ dd os, Calls Tryd.prog 33 #[.string (s.extract 6 8)] (Sort.grow (redrawn W dd) os) fun E w'' => E = .returned (.int .i64 c) ∧ ∃ p : Regrown, w'' = Sort.grow (redrawn W p.d) p.os from fun W dd os => (H2.out _).mono fun _ _ ⟨h1, h2⟩ => ⟨h1, ⟨dd, os⟩, h2⟩)
  have Q3 := Lib.hid (show ∀ W : World, ∀ dd os, Calls Tryd.prog 33 #[.string (s.extract 8 10)] (Sort.grow (redrawn W dd) os) fun E w'' => E = .returned (.int .i64 d) ∧ ∃ p : Regrown, w'' = Sort.grow (redrawn W p.d) p.os from fun W dd os => (H3.out _).mono fun _ _ ⟨h1, h2⟩ => ⟨h1, ⟨dd, os⟩, h2⟩)
  have Q4 := Lib.hid (show ∀ W : World, ∀ dd os, Calls Tryd.prog 33 #[.string (s.extract 10 12)] (Sort.grow (redrawn W dd) os) fun E w'' => E = .returned (.int .i64 e) ∧ ∃ p : Regrown, w'' = Sort.grow (redrawn W p.d) p.os from fun W dd os => (H4.out _).mono fun _ _ ⟨h1, h2⟩ => ⟨h1, ⟨dd, os⟩, h2⟩)
  have Q5 := Lib.hid (show ∀ W : World, ∀ dd os, Calls Tryd.prog 33 #[.string (s.extract 12 14)] (Sort.grow (redrawn W dd) os) fun E w'' => E = .returned (.int .i64 f) ∧ ∃ p : Regrown, w'' = Sort.grow (redrawn W p.d) p.os from fun W dd os => (H5.out _).mono fun _ _ ⟨h1, h2⟩ => ⟨h1, ⟨dd, os⟩, h2⟩)
  clear h1 h2 h3 h4 h5 H1 H2 H3 H4 H5 hS hl hd hy
  go_enter Tryd.func17, Tryd.ntmps17
  go_wp2_with (first
    | (go_at_call 33; (with_reducible refine (H0.out _).mono ?_); rintro E w1 ⟨rfl, rfl⟩)
    | (go_at_call 33; (with_reducible refine (HY.out _).mono ?_); rintro E w1 ⟨rfl, rfl⟩))
  refine wp_region_quiet_below (by kernel_rfl) (by kernel_rfl) ?_
  repeat (go_big_quiet_step (first | with_reducible exact Q1.out _ _ _ | with_reducible exact Q2.out _ _ _ | with_reducible exact Q3.out _ _ _ | with_reducible exact Q4.out _ _ _ | with_reducible exact Q5.out _ _ _ | with_reducible exact HSQ.out _ _ _))
  refine wpQuiet_nil ?_
  intro _ hw'
  obtain ⟨⟨dq, osq⟩, hw''⟩ := hw'
  subst hw''
  go_wp2_with fail
  go_ret2
  exact ⟨rfl, below_regrown _ dq osq⟩
end Go.Proofs.YtkgdkaopbnodpaaDoor
