/-
  The walk of the law PrimCanonical: for every string it returns true, and leaves all that was there as it was.
-/
import Derived.Test.YtkamoenjbllhjaaPflback
import Derived.Test.YtkamoenjbllhjaaPback
import Derived.Test.YtkamoenjbllhjaaPboollaw
namespace Go.Proofs.Ytkamoenjbllhjaa
open Go.RowKit

theorem bol_ways (c : ByteArray) : (∃ v, bolVal c = .tuple #[.bool v, .int .i64 0] ∧ putBol v = c) ∨ bolVal c = .tuple #[.bool false, .int .i64 7] := by
  by_cases h0 : c = ⟨#[0]⟩
  · subst h0; exact .inl ⟨false, bol_zero, rfl⟩
  · by_cases h1 : c = ⟨#[255]⟩
    · subst h1; exact .inl ⟨true, bol_one, rfl⟩
    · exact .inr (bol_bad h0 h1)
theorem int_ways (c : ByteArray) : (∃ v, intVal c = .tuple #[.int .i64 v, .int .i64 0] ∧ putInt v = c ∧ -9223372036854775808 ≤ v ∧ v < 9223372036854775808) ∨ ∃ n : Nat, intVal c = .tuple #[.int .i64 0, .int .i64 (n : Int)] ∧ n ≠ 0 := by
  by_cases h0 : c.size = 0
  · obtain rfl := empty_of_size h0; exact .inr ⟨7, int_empty, by decide⟩
  · cases hs : spare c with
    | true => exact .inr ⟨7, int_spare hs, by decide⟩
    | false =>
      by_cases h8 : 8 < c.size
      · exact .inr ⟨1, int_long h0 hs h8, by decide⟩
      · obtain ⟨r0, r1, _⟩ := tc_range c h0 h8
        exact .inl ⟨_, int_good h0 hs h8, put_int c h0 h8 hs, r0, r1⟩
theorem bits_ways (c : ByteArray) : (∃ s u, bitsVal c = .tuple #[.string s, .int .i64 u, .int .i64 0] ∧ putBitsVal s u = .tuple #[.string c, .int .i64 0] ∧ s.size ≤ c.size) ∨ bitsVal c = .tuple #[.string ⟨#[]⟩, .int .i64 0, .int .i64 7] := by
  rcases bitsErr_cases c with h | h
  · exact .inl ⟨bitsStr c, _, by unfold bitsVal; rw [h]; rfl, pbits_back h, bitsStr_size c⟩
  · refine .inr ?_
    unfold bitsVal bitsStr bitsNum
    rw [h]; rfl
theorem flags_ways (c : ByteArray) : (∃ m : Int, flagsVal c = .tuple #[.int .i64 m, .int .i64 0] ∧ putFlagsVal m = .tuple #[.string c, .int .i64 0]) ∨ ∃ n : Nat, flagsVal c = .tuple #[.int .i64 0, .int .i64 (n : Int)] ∧ n ≠ 0 := by
  by_cases h : flagsErr c = 0
  · exact .inl ⟨_, by unfold flagsVal; rw [h]; rfl, put_flags h⟩
  · refine .inr ⟨flagsErr c, ?_, h⟩
    unfold flagsVal flagsMask
    rw [if_neg h]; rfl

set_option maxRecDepth 100000 in
set_option maxHeartbeats 20000000 in
theorem canlaw_core (c : ByteArray) (w : World) (hc : c.size ≤ 60) :
    Calls Try.prog 8 #[.string c] w fun e w' => e = .returned (.bool true) ∧ Below w.heap.size w w' := by
  have dc : decide ((60 : Int) < (c.size : Int)) = false := by simp; omega
  have HB := Lib.hid (Below.refl w.heap.size w)
  have HV := Lib.hid (fun w => bol_any c w)
  have HI := Lib.hid (fun w => int_any c w)
  have HT := Lib.hid (fun w => bits_any c w (by omega))
  have HF := Lib.hid (fun w => flags_any c w (by omega))
  obtain ⟨w0, hw0⟩ : ∃ w0, w0 = w := ⟨_, rfl⟩
  rcases bol_ways c with ⟨v, h1, h2⟩ | h1
  all_goals rcases int_ways c with ⟨z, i1, i2, i3, i4⟩ | ⟨n, i1, i2⟩
  all_goals rcases bits_ways c with ⟨s, u, b1, b2, b3⟩ | b1
  all_goals rcases flags_ways c with ⟨m, f1, f2⟩ | ⟨q, f1, f2⟩
  all_goals rw [h1] at HV
  all_goals rw [i1] at HI
  all_goals rw [b1] at HT
  all_goals rw [f1] at HF
  all_goals try (have PV := Lib.hid (fun w => putBol_any v w); rw [h2] at PV; clear h2)
  all_goals try (have PI := Lib.hid (fun w => put_any z w i3 i4); rw [i2] at PI; clear i2 i3 i4)
  all_goals try (have PT := Lib.hid (fun w => pbits_any s u w (by omega)); rw [b2] at PT; clear b2 b3)
  all_goals try (have PF := Lib.hid (fun w => pflags_any m w); rw [f2] at PF; clear f2)
  all_goals try (have di : ((n : Int) == 0) = false := beq_eq_false_iff_ne.2 (by omega))
  all_goals try (have dq : ((q : Int) == 0) = false := beq_eq_false_iff_ne.2 (by omega))
  all_goals try clear i2
  all_goals try clear f2
  all_goals clear h1 i1 b1 f1 hc hw0
  all_goals
    go_enter Try.func8, Try.ntmps8
    go_wp2_with (first | (go_at_call 10; (with_reducible refine (HV.out _).mono ?_); rintro e w1 ⟨rfl, rfl⟩) | (go_at_call 12; (with_reducible refine (PV.out _).mono ?_); rintro e w1 ⟨rfl, rfl⟩) | (go_at_call 14; (with_reducible refine (HI.out _).mono ?_); rintro e w1 ⟨rfl, rfl⟩) | (go_at_call 16; (with_reducible refine (PI.out _).mono ?_); rintro e w1 ⟨rfl, hb1⟩; replace HB := Lib.hid (below_next HB.out hb1); clear hb1) | (go_at_call 18; (with_reducible refine (HT.out _).mono ?_); rintro e w1 ⟨rfl, hb1⟩; replace HB := Lib.hid (below_next HB.out hb1); clear hb1) | (go_at_call 20; (with_reducible refine (PT.out _).mono ?_); rintro e w1 ⟨rfl, hb1⟩; replace HB := Lib.hid (below_next HB.out hb1); clear hb1) | (go_at_call 22; (with_reducible refine (HF.out _).mono ?_); rintro e w1 ⟨rfl, hb1⟩; replace HB := Lib.hid (below_next HB.out hb1); clear hb1) | (go_at_call 24; (with_reducible refine (PF.out _).mono ?_); rintro e w1 ⟨rfl, hb1⟩; replace HB := Lib.hid (below_next HB.out hb1); clear hb1) | (go_at_call 9; (with_reducible refine (awake_any _).mono ?_); rintro e w1 ⟨rfl, hb1⟩; replace HB := Lib.hid (below_next HB.out hb1); clear hb1))
    go_ret
    exact ⟨rfl, HB.out⟩
set_option maxRecDepth 100000 in
theorem canlaw (c : ByteArray) (w : World) :
    Calls Try.prog 8 #[.string c] w fun e w' => e = .returned (.bool true) ∧ Below w.heap.size w w' := by
  by_cases hc : 60 < c.size
  · have d : decide ((60 : Int) < (c.size : Int)) = true := by simp; omega
    clear hc
    go_enter Try.func8, Try.ntmps8
    go_wp2_with (go_at_call 9; (with_reducible refine (awake_any _).mono ?_); rintro e w1 ⟨rfl, hb1⟩; have HB1 := Lib.hid hb1; clear hb1)
    go_ret
    exact ⟨rfl, HB1.out⟩
  · exact canlaw_core c w (by omega)
end Go.Proofs.Ytkamoenjbllhjaa
