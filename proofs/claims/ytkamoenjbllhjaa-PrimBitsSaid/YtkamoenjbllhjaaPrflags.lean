/-
  The contract of the reference's Flags.
-/
import Derived.Test.YtkamoenjbllhjaaPflags
namespace Go.Proofs.Ytkamoenjbllhjaa
open Go.RowKit

theorem cast_bit (x s : Nat) : ((x : Int) / 2 ^ s).tmod 2 = ((x / 2 ^ s % 2 : Nat) : Int) := by
  rw [show (x : Int) / 2 ^ s = ((x / 2 ^ s : Nat) : Int) by norm_cast, Int.tmod_eq_emod_of_nonneg (Int.natCast_nonneg _)]
  norm_cast
theorem bit_one (x s : Nat) : (((x : Int) / 2 ^ s).tmod 2 == 1) = x.testBit s := by
  rw [cast_bit, Nat.testBit_eq_decide_div_mod_eq]
  have : x / 2 ^ s % 2 < 2 := Nat.mod_lt _ (by decide)
  rcases (by omega : x / 2 ^ s % 2 = 0 ∨ x / 2 ^ s % 2 = 1) with h | h <;> rw [h] <;> rfl
theorem bit_zero (x s : Nat) : (((x : Int) / 2 ^ s).tmod 2 == 0) = !x.testBit s := by
  rw [cast_bit, Nat.testBit_eq_decide_div_mod_eq]
  have : x / 2 ^ s % 2 < 2 := Nat.mod_lt _ (by decide)
  rcases (by omega : x / 2 ^ s % 2 = 0 ∨ x / 2 ^ s % 2 = 1) with h | h <;> rw [h] <;> rfl

set_option maxRecDepth 100000 in
set_option maxHeartbeats 1000000 in
theorem rflags_err (c : ByteArray) (w : World) (hs : c.size ≤ 1099511627776) (he : bitsErr c = 7) :
    Calls Try.prog 23 #[.string c] w fun e w' => e = .returned (flagsVal c) ∧ Below w.heap.size w w' := by
  have hv : bitsVal c = .tuple #[.string ⟨#[]⟩, .int .i64 0, .int .i64 7] := by unfold bitsVal bitsStr bitsNum; rw [he]; rfl
  rw [flags_bad (by omega), he]
  have HBC := Lib.hid (fun w => rbits_any c w hs)
  rw [hv] at HBC
  clear hv he
  go_enter Try.func23, Try.ntmps23
  go_wp2_with (go_at_call 19; (with_reducible refine (HBC.out _).mono ?_); rintro e w1 ⟨rfl, hb1⟩; have HB1 := Lib.hid hb1; clear hb1)
  go_ret2
  exact ⟨rfl, HB1.out⟩
set_option maxRecDepth 100000 in
set_option maxHeartbeats 4000000 in
theorem rflags_core (c B : ByteArray) (u n : Nat) (w : World) (hs : c.size ≤ 1099511627776) (he : bitsErr c = 0) (hB : B = bitsStr c) (hu : u = bitsNum c) (hn : n = flagsNum c) :
    Calls Try.prog 23 #[.string c] w fun e w' => e = .returned (flagsVal c) ∧ Below w.heap.size w w' := by
  have hv : bitsVal c = .tuple #[.string B, .int .i64 (u : Int), .int .i64 0] := by unfold bitsVal; rw [he, hB, hu]; rfl
  obtain ⟨hu7, hu8⟩ := bitsNum_ok he
  rw [← hB, ← hu] at hu8
  rw [← hu] at hu7
  have hBs : B.size ≤ 1099511627776 := by rw [hB]; exact Nat.le_trans (bitsStr_size c) hs
  have hnn : n = 8 * B.size - u := by rw [hn, flagsNum, hB, hu]
  have en : 8 * (B.size : Int) - (u : Int) = (n : Int) := by omega
  have HBC := Lib.hid (fun w => rbits_any c w hs)
  rw [hv] at HBC
  by_cases h0 : n = 0
  · have hfv := flags_good he (.inl (by rw [← hn]; exact h0)) (by rw [← hn]; omega)
    rw [← hn, ← hB, h0] at hfv
    rw [hfv]
    rw [h0] at en
    have d0 : decide ((0 : Int) < 0) = false := by decide
    clear hfv hn hB hu he hv hnn
    go_enter Try.func23, Try.ntmps23
    go_wp2_with (go_at_call 19; (with_reducible refine (HBC.out _).mono ?_); rintro e w1 ⟨rfl, hb1⟩; have HB1 := Lib.hid hb1; clear hb1)
    go_loopw [8, 9] (fun m i wr => m = .int .i64 0 ∧ i = .int .i64 0 ∧ wr = w1) (fun _ i _ => (intOf i).toNat)
    case atStart => exact ⟨rfl, rfl, rfl⟩
    case round =>
      obtain ⟨rfl, rfl, rfl⟩ := hrel
      go_wp2_with fail
      go_ret2
      exact ⟨rfl, HB1.out⟩
  · have hB0 : B.size ≠ 0 := by omega
    have hB1 : 1 ≤ B.size := by omega
    have xl := last_u8 B hB0
    have hbd : bitAt B (n - 1) = (u8at B (B.size - 1)).testBit u := by
      unfold bitAt
      rw [show (n - 1) / 8 = B.size - 1 by omega, show 7 - (n - 1) % 8 = u by omega]
    have hz := bit_zero (u8at B (B.size - 1)) u
    rw [← hbd] at hz
    have hxl := u8at_lt B (B.size - 1)
    generalize u8at B (B.size - 1) = x at xl hz hxl
    have d0 : decide ((0 : Int) < (n : Int)) = true := by simp; omega
    have dn : decide (0 < n) = true := by simp; omega
    clear hbd
    cases hbit : bitAt B (n - 1) with
    | false =>
      rw [flags_zero he (by omega) (by rw [← hn, ← hB]; exact hbit)]
      rw [hbit] at hz
      simp only [Bool.not_false] at hz
      clear hn hB hu he hv hnn hbit h0 hB0
      go_enter Try.func23, Try.ntmps23
      go_wp2_with (go_at_call 19; (with_reducible refine (HBC.out _).mono ?_); rintro e w1 ⟨rfl, hb1⟩; have HB1 := Lib.hid hb1; clear hb1)
      go_ret2
      exact ⟨rfl, HB1.out⟩
    | true =>
      rw [hbit] at hz
      simp only [Bool.not_true] at hz
      by_cases hlong : 16 < n
      · rw [flags_long he (.inr (by rw [← hn, ← hB]; exact hbit)) (by rw [← hn]; exact hlong)]
        have d16 : decide ((16 : Int) < (n : Int)) = true := by simp; omega
        clear hn hB hu he hv hnn hbit h0 hlong hB0
        go_enter Try.func23, Try.ntmps23
        go_wp2_with (go_at_call 19; (with_reducible refine (HBC.out _).mono ?_); rintro e w1 ⟨rfl, hb1⟩; have HB1 := Lib.hid hb1; clear hb1)
        go_ret2
        exact ⟨rfl, HB1.out⟩
      · have hfv := flags_good he (.inr (by rw [← hn, ← hB]; exact hbit)) (by rw [← hn]; exact hlong)
        rw [← hn, ← hB] at hfv
        rw [hfv]
        have d16 : decide ((16 : Int) < (n : Int)) = false := by simp; omega
        have hn16 : n ≤ 16 := by omega
        have HNN := Lib.hid hnn
        clear hnn hfv hn hB hu he hv hbit h0 hlong hB0
        go_enter Try.func23, Try.ntmps23
        go_wp2_with (go_at_call 19; (with_reducible refine (HBC.out _).mono ?_); rintro e w1 ⟨rfl, hb1⟩; have HB1 := Lib.hid hb1; clear hb1)
        go_loopw [8, 9] (fun m i wr => ∃ k : Nat, k ≤ n ∧ i = .int .i64 (k : Int) ∧ m = .int .i64 ((maskAt B k : Nat) : Int) ∧ wr = w1) (fun _ i _ => n - (intOf i).toNat)
        case atStart => exact ⟨0, by omega, rfl, rfl, rfl⟩
        case round =>
          obtain ⟨k, hk, rfl, rfl, rfl⟩ := hrel
          by_cases hlt : k < n
          · have hd : decide ((k : Int) < (n : Int)) = true := by simp; omega
            obtain ⟨q, hq⟩ : ∃ q, q = k / 8 := ⟨_, rfl⟩
            obtain ⟨r, hr⟩ : ∃ r, r = k % 8 := ⟨_, rfl⟩
            obtain ⟨s, hs⟩ : ∃ s, s = 7 - r := ⟨_, rfl⟩
            have hqB : q < B.size := by have := HNN.out; omega
            have xk := fun w => run_index_u8 (P := Try.prog) Try.underlying9 B q hqB (q : Int) rfl w
            have e1 : (k : Int) / 8 = (q : Int) := by omega
            have e2 : (k : Int) % 8 = (r : Int) := by omega
            have e3 : 7 - (r : Int) = (s : Int) := by omega
            have hs7 : s ≤ 7 := by omega
            have ho := bit_one (u8at B q) s
            have hyl := u8at_lt B q
            rw [show (u8at B q).testBit s = bitAt B k by rw [hs, hr, hq]; rfl] at ho
            generalize u8at B q = y at xk hyl ho
            have hml := maskAt_lt B k
            have hms : maskAt B (k + 1) = if bitAt B k then maskAt B k ||| 2 ^ k else maskAt B k := rfl
            generalize maskAt B k = m at hml hms
            cases hbk : bitAt B k with
            | false =>
              rw [hbk] at hms ho
              have HMS := Lib.hid hms
              clear hms hbk hml hq hr hs
              go_wp2_with fail
              go_roundw
              case rel => exact ⟨k + 1, by omega, by go_num, by rw [HMS.out]; rfl, trivial⟩
              case measure => simp [intOf]; omega
            | true =>
              rw [hbk] at hms ho
              have HMS := Lib.hid hms
              have HOR := Lib.hid (or_mask hml (by omega : k ≤ 15))
              clear hms hbk hml hq hr hs
              go_wp2_with fail
              go_roundw
              case rel => exact ⟨k + 1, by omega, by go_num, by rw [HMS.out, HOR.out]; simp, trivial⟩
              case measure => simp [intOf]; omega
          · have ek : k = n := by omega
            subst ek
            have hd : decide ((k : Int) < (k : Int)) = false := by simp
            go_wp2_with fail
            go_ret2
            exact ⟨rfl, HB1.out⟩
theorem rflags_any (c : ByteArray) (w : World) (hs : c.size ≤ 1099511627776) :
    Calls Try.prog 23 #[.string c] w fun e w' => e = .returned (flagsVal c) ∧ Below w.heap.size w w' := by
  rcases bitsErr_cases c with h | h
  · exact rflags_core c _ _ _ w hs h rfl rfl rfl
  · exact rflags_err c w hs h
end Go.Proofs.Ytkamoenjbllhjaa
