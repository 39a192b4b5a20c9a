/-
  The contract of the reference's ParseTime.
-/
import Derived.Test.YtkgdkaopbnodpaaDoorDrenc
namespace Go.Proofs.YtkgdkaopbnodpaaDoor
open Go.RowKit

/-- A part of a text. -/
def sub (l : List UInt8) (i j : Nat) : List UInt8 := (l.drop i).take (j - i)
theorem sub_ext (b : ByteArray) (i j : Nat) : (b.extract i j).data.toList = sub b.data.toList i j := by
  rw [ByteArray.data_extract, Array.toList_extract, List.extract_eq_take_drop]; rfl
theorem dig_sub (s : ByteArray) (i j : Nat) (hj : j ≤ i + 18) (w : World) :
    Calls Tryd.prog 33 #[.string (s.extract i j)] w fun E w' => E = .returned (.int .i64 (digI (sub s.data.toList i j))) ∧ w' = w := by
  have := rdigs_any (s.extract i j) w (by rw [ByteArray.size_extract]; omega)
  rwa [sub_ext] at this

set_option maxRecDepth 100000 in
set_option maxHeartbeats 1000000 in
theorem rpar_len {s : ByteArray} (hs : s.size ≠ 19) (w : World) :
    Calls Tryd.prog 23 #[.string s] w fun E w' => E = .returned (.tuple #[.int .i64 0, .int .i64 12]) ∧ Below w.heap.size w w' := by
  have e1 : ((s.size : Int) != 19) = true := by simp; omega
  clear hs
  go_enter Tryd.func23, Tryd.ntmps23
  go_wp2_with fail
  go_ret2
  exact ⟨rfl, Below.refl _ _⟩
/-- How ParseTime ends, behind Seconds and FormatTime. -/
def ParEnd (s : ByteArray) (t er : Int) (v : Value) : Prop :=
  (er = 12 ∧ v = .tuple #[.int .i64 0, .int .i64 12]) ∨
  (er = 0 ∧ (∀ w, Calls Tryd.prog 21 #[.int .i64 t] w fun E w' => E = .returned (.tuple #[.string s, .int .i64 0]) ∧ Below w.heap.size w w') ∧ v = .tuple #[.int .i64 t, .int .i64 0]) ∨
  (er = 0 ∧ (∃ X : ByteArray, X ≠ s ∧ ∀ w, Calls Tryd.prog 21 #[.int .i64 t] w fun E w' => E = .returned (.tuple #[.string X, .int .i64 0]) ∧ Below w.heap.size w w') ∧ v = .tuple #[.int .i64 0, .int .i64 12])
set_option maxRecDepth 100000 in
set_option maxHeartbeats 8000000 in
theorem rpar_core {s : ByteArray} (hs : s.size = 19) {a b c d e f t er : Int} {v : Value}
    (h1 : a = digI (sub s.data.toList 0 4)) (h2 : b = digI (sub s.data.toList 5 7)) (h3 : c = digI (sub s.data.toList 8 10)) (h4 : d = digI (sub s.data.toList 11 13)) (h5 : e = digI (sub s.data.toList 14 16)) (h6 : f = digI (sub s.data.toList 17 19))
    (hS : ∀ w, Calls Tryd.prog 14 #[dtv a b c d e f] w fun E w' => E = .returned (.tuple #[.int .i64 t, .int .i64 er]) ∧ Below w.heap.size w w') (hE : ParEnd s t er v) (w : World) :
    Calls Tryd.prog 23 #[.string s] w fun E w' => E = .returned v ∧ Below w.heap.size w w' := by
  have e1 : ((s.size : Int) != 19) = false := by rw [hs]; rfl
  have H1 := Lib.hid (fun w => dig_sub s 0 4 (by omega) w)
  have H2 := Lib.hid (fun w => dig_sub s 5 7 (by omega) w)
  have H3 := Lib.hid (fun w => dig_sub s 8 10 (by omega) w)
  have H4 := Lib.hid (fun w => dig_sub s 11 13 (by omega) w)
  have H5 := Lib.hid (fun w => dig_sub s 14 16 (by omega) w)
  have H6 := Lib.hid (fun w => dig_sub s 17 19 (by omega) w)
  rw [← h1] at H1
  rw [← h2] at H2
  rw [← h3] at H3
  rw [← h4] at H4
  rw [← h5] at H5
  rw [← h6] at H6
  have HS := Lib.hid hS
  have HE := Lib.hid hE
  clear h1 h2 h3 h4 h5 h6 hS hE
  go_enter Tryd.func23, Tryd.ntmps23
  go_upto_region 3 with fail
  go_region_with (first
    | (go_at_call 33; (with_reducible refine (H1.out _).mono ?_); rintro E w1 ⟨rfl, rfl⟩)
    | (go_at_call 33; (with_reducible refine (H2.out _).mono ?_); rintro E w1 ⟨rfl, rfl⟩)
    | (go_at_call 33; (with_reducible refine (H3.out _).mono ?_); rintro E w1 ⟨rfl, rfl⟩)
    | (go_at_call 33; (with_reducible refine (H4.out _).mono ?_); rintro E w1 ⟨rfl, rfl⟩)
    | (go_at_call 33; (with_reducible refine (H5.out _).mono ?_); rintro E w1 ⟨rfl, rfl⟩)
    | (go_at_call 33; (with_reducible refine (H6.out _).mono ?_); rintro E w1 ⟨rfl, rfl⟩))
  all_goals
    have HB0 := Lib.hid (show Below w.heap.size w (w.alloc (.cells (dtc a b c d e f) 27)).drew from (belowNew w _).drew)
    have hh := HE.out
    rcases hh with ⟨rfl, rfl⟩ | ⟨rfl, hF, rfl⟩ | ⟨rfl, ⟨X, hX, hF⟩, rfl⟩
    · clear H1 H2 H3 H4 H5 H6 HE
      go_wp2_with (go_at_call 14; (with_reducible refine (HS.out _).mono ?_); rintro E w2 ⟨rfl, hb2⟩; have HB2 := Lib.hid (below_next HB0.out hb2); clear hb2)
      go_ret2
      exact ⟨rfl, HB2.out⟩
    · have HF := Lib.hid hF
      have c1 : (s.toList != s.toList) = false := by simp
      have c2 : (s.toList == s.toList) = true := by simp
      clear H1 H2 H3 H4 H5 H6 HE hF
      go_wp2_with (first
        | (go_at_call 14; (with_reducible refine (HS.out _).mono ?_); rintro E w2 ⟨rfl, hb2⟩; have HB2 := Lib.hid (below_next HB0.out hb2); clear hb2)
        | (go_at_call 21; (with_reducible refine (HF.out _).mono ?_); rintro E w3 ⟨rfl, hb3⟩; have HB3 := Lib.hid (below_next HB2.out hb3); clear hb3))
      go_ret2
      exact ⟨rfl, HB3.out⟩
    · have HF := Lib.hid hF
      have c0 : X.toList ≠ s.toList := fun h => hX (list_inj (by rw [← toList_eq_list, ← toList_eq_list, h]))
      have c1 : (X.toList != s.toList) = true := by simpa using c0
      have c2 : (X.toList == s.toList) = false := by simpa using c0
      clear H1 H2 H3 H4 H5 H6 HE hF hX c0
      go_wp2_with (first
        | (go_at_call 14; (with_reducible refine (HS.out _).mono ?_); rintro E w2 ⟨rfl, hb2⟩; have HB2 := Lib.hid (below_next HB0.out hb2); clear hb2)
        | (go_at_call 21; (with_reducible refine (HF.out _).mono ?_); rintro E w3 ⟨rfl, hb3⟩; have HB3 := Lib.hid (below_next HB2.out hb3); clear hb3))
      go_ret2
      exact ⟨rfl, HB3.out⟩
end Go.Proofs.YtkgdkaopbnodpaaDoor
