/-
  The contract of tlv.readLength: what the octets say, and that nothing has changed.
-/
import Derived.Test.YtgpockpfefjjkaaTlen
namespace Go.Proofs.Ytgpockpfefjjkaa
open Go.RowKit

theorem nonempty_list {c : ByteArray} (h : c.size ≠ 0) : c.toList.isEmpty = false := by
  rw [ByteArray.toList_eq]
  cases e : c.data.toList with
  | nil => exact absurd (show c.data.toList.length = 0 by rw [e]; rfl) h
  | cons => rfl

set_option maxRecDepth 100000 in
theorem readLength_empty (w : World) :
    Calls Try.prog 41 #[.string ⟨#[]⟩] w fun e w' => e = .returned (.tuple #[.int .i64 0, .int .i64 0, .int .i64 3]) ∧ w' = w := by
  go_enter Try.func41, Try.ntmps41
  go_wp2_with fail
  refine bodyPost_ret (results_tmp3 rfl _ _ _) rfl ?_
  exact ⟨rfl, rfl⟩
set_option maxRecDepth 100000 in
theorem readLength_short (c : ByteArray) (w : World) (h0 : c.size ≠ 0) (f : Nat) (hf : u8at c 0 = f) (h : f < 128) :
    Calls Try.prog 41 #[.string c] w fun e w' => e = .returned (.tuple #[.int .i64 (f : Nat), .int .i64 1, .int .i64 0]) ∧ w' = w := by
  have he := nonempty_list h0
  have x0 := fun w => run_index_u8 (P := Try.prog) Try.underlying9 c 0 (by omega) (0 : Int) rfl w
  rw [hf] at x0
  have d1 : decide ((f : Int) < 128) = true := by simp; omega
  clear hf h0
  go_enter Try.func41, Try.ntmps41
  go_wp2_with fail
  refine bodyPost_ret (results_tmp3 rfl _ _ _) rfl ?_
  exact ⟨rfl, rfl⟩
set_option maxRecDepth 100000 in
theorem readLength_bad (c : ByteArray) (w : World) (h0 : c.size ≠ 0) (f : Nat) (hf : u8at c 0 = f) (h : f = 128 ∨ 131 < f) :
    Calls Try.prog 41 #[.string c] w fun e w' => e = .returned (.tuple #[.int .i64 0, .int .i64 0, .int .i64 6]) ∧ w' = w := by
  have he := nonempty_list h0
  have x0 := fun w => run_index_u8 (P := Try.prog) Try.underlying9 c 0 (by omega) (0 : Int) rfl w
  rw [hf] at x0
  have hf2 : f < 256 := by rw [← hf]; exact u8at_lt c 0
  have d1 : decide ((f : Int) < 128) = false := by simp; omega
  clear hf h0
  rcases h with rfl | h
  · go_enter Try.func41, Try.ntmps41
    go_wp2_with fail
    refine bodyPost_ret (results_tmp3 rfl _ _ _) rfl ?_
    exact ⟨rfl, rfl⟩
  · have d2 : decide (1 + (f : Int) - 128 = 1) = false := by simp; omega
    have d3 : decide (4 < 1 + (f : Int) - 128) = true := by simp; omega
    go_enter Try.func41, Try.ntmps41
    go_wp2_with fail
    refine bodyPost_ret (results_tmp3 rfl _ _ _) rfl ?_
    exact ⟨rfl, rfl⟩
set_option maxRecDepth 100000 in
theorem readLength_cut (c : ByteArray) (w : World) (h0 : c.size ≠ 0) (f : Nat) (hf : u8at c 0 = f) (h1 : 128 < f) (h2 : f ≤ 131) (h3 : c.size < 1 + (f - 128)) :
    Calls Try.prog 41 #[.string c] w fun e w' => e = .returned (.tuple #[.int .i64 0, .int .i64 0, .int .i64 3]) ∧ w' = w := by
  have he := nonempty_list h0
  have x0 := fun w => run_index_u8 (P := Try.prog) Try.underlying9 c 0 (by omega) (0 : Int) rfl w
  rw [hf] at x0
  have d1 : decide ((f : Int) < 128) = false := by simp; omega
  have d2 : decide (1 + (f : Int) - 128 = 1) = false := by simp; omega
  have d3 : decide (4 < 1 + (f : Int) - 128) = false := by simp; omega
  have d4 : decide ((c.size : Int) < 1 + (f : Int) - 128) = true := by simp; omega
  clear hf h0
  go_enter Try.func41, Try.ntmps41
  go_wp2_with fail
  refine bodyPost_ret (results_tmp3 rfl _ _ _) rfl ?_
  exact ⟨rfl, rfl⟩
theorem or8 (a b : Nat) (ha : a < 65536) (hb : b < 256) : bits BinOp.or .i64 ((a : Int) * 256) (b : Int) = ((256 * a + b : Nat) : Int) := by
  have e : (a : Int) * 256 = ((256 * a : Nat) : Int) := by omega
  have h : 256 * a ||| b = 256 * a + b := (Nat.two_pow_add_eq_or_of_lt (i := 8) hb a).symm
  rw [e]
  show IntKind.i64.wrap ((BitVec.ofInt 64 ((256 * a : Nat) : Int) ||| BitVec.ofInt 64 (b : Int)).toNat : Int) = _
  rw [BitVec.toNat_or, BitVec.ofInt_natCast, BitVec.toNat_ofNat, BitVec.ofInt_natCast, BitVec.toNat_ofNat, Nat.mod_eq_of_lt (by omega), Nat.mod_eq_of_lt (by omega), h]
  simp [IntKind.wrap, IntKind.bits, IntKind.signed]
  omega
theorem lsz_cases (v : Nat) : (v < 128 ∧ lsz v = 1) ∨ (128 ≤ v ∧ v < 256 ∧ lsz v = 2) ∨ (256 ≤ v ∧ v < 65536 ∧ lsz v = 3) ∨ (65536 ≤ v ∧ lsz v = 4) := by
  by_cases h1 : v < 128
  · exact .inl ⟨h1, lsz1 h1⟩
  · by_cases h2 : v < 256
    · exact .inr (.inl ⟨by omega, h2, lsz2 (by omega) h2⟩)
    · by_cases h3 : v < 65536
      · exact .inr (.inr (.inl ⟨by omega, h3, lsz3 (by omega) h3⟩))
      · exact .inr (.inr (.inr ⟨by omega, lsz4 (by omega)⟩))
theorem least_one : least 1 = 128 := rfl
theorem least_two : least 2 = 256 := rfl
theorem least_three : least 3 = 65536 := rfl
theorem least_ok {v k : Nat} (h1 : 0 < k) (h2 : k ≤ 3) (h : lsz v = 1 + k) : ¬ v < least k := by
  have := lsz_cases v
  rcases (by omega : k = 1 ∨ k = 2 ∨ k = 3) with rfl | rfl | rfl
  · rw [least_one]; omega
  · rw [least_two]; omega
  · rw [least_three]; omega
theorem least_bad {v k : Nat} (h1 : 0 < k) (h2 : k ≤ 3) (hv : v < 256 ^ k) (h : ¬ lsz v = 1 + k) : v < least k := by
  have := lsz_cases v
  rcases (by omega : k = 1 ∨ k = 2 ∨ k = 3) with rfl | rfl | rfl
  · rw [least_one]; omega
  · rw [least_two]; omega
  · rw [least_three]; omega
set_option maxRecDepth 100000 in
theorem readLength_long (c : ByteArray) (w : World) (h0 : c.size ≠ 0) (f : Nat) (hf : u8at c 0 = f) (h1 : 128 < f) (h2 : f ≤ 131) (h3 : 1 + (f - 128) ≤ c.size) (v : Nat) (hv : v = be c 1 (f - 128)) (R : Value)
    (hR : R = if v < least (f - 128) ∨ 131072 < v then .tuple #[.int .i64 0, .int .i64 0, .int .i64 6] else .tuple #[.int .i64 (v : Nat), .int .i64 (1 + (f - 128) : Nat), .int .i64 0]) :
    Calls Try.prog 41 #[.string c] w fun e w' => e = .returned R ∧ w' = w := by
  have he := nonempty_list h0
  have x0 := fun w => run_index_u8 (P := Try.prog) Try.underlying9 c 0 (by omega) (0 : Int) rfl w
  rw [hf] at x0
  obtain ⟨k, rfl⟩ : ∃ k, f = 128 + k := ⟨f - 128, by omega⟩
  have ek : 128 + k - 128 = k := by omega
  rw [ek] at hv hR h3
  have hkI : 1 + (128 + (k : Int)) - 128 = 1 + (k : Int) := by omega
  have d1 : decide (128 + (k : Int) < 128) = false := by simp; omega
  have d2 : decide (1 + (k : Int) = 1) = false := by simp; omega
  have d3 : decide (4 < 1 + (k : Int)) = false := by simp; omega
  have d4 : decide ((c.size : Int) < 1 + (k : Int)) = false := by simp; omega
  have HV := Lib.hid hv
  have HR := Lib.hid hR
  have h1' : 0 < k := by omega
  have h2' : k ≤ 3 := by omega
  clear hf h0 hv hR ek h1 h2
  go_enter Try.func41, Try.ntmps41
  go_wp2_with fail
  go_loopw [7, 8] (fun l i wr => ∃ j : Nat, j ≤ k ∧ i = .int .i64 (1 + (j : Int)) ∧ l = .int .i64 (be c 1 j : Nat) ∧ wr = w) (fun _ i _ => 10 - (intOf i).toNat)
  case atStart => exact ⟨0, by omega, rfl, rfl, rfl⟩
  case round =>
    obtain ⟨j, hj, rfl, rfl, rfl⟩ := hrel
    by_cases hlt : j < k
    · have hd : decide (1 + (j : Int) < 1 + (k : Int)) = true := by simp; omega
      have xj := fun w => run_index_u8 (P := Try.prog) Try.underlying9 c (1 + j) (by omega) (1 + (j : Int)) (by omega) w
      have hyl := u8at_lt c (1 + j)
      generalize ey : u8at c (1 + j) = y at xj hyl
      have hxl : be c 1 j < 65536 := Nat.lt_of_lt_of_le (be_lt c 1 j) (by rcases (by omega : j = 0 ∨ j = 1 ∨ j = 2) with rfl | rfl | rfl <;> decide)
      generalize ex : be c 1 j = x at hxl ⊢
      have HEY := Lib.hid ey
      have HEX := Lib.hid ex
      clear ey ex
      go_wp2_with fail
      go_roundw
      case rel =>
        refine ⟨j + 1, by omega, by go_num, ?_, trivial⟩
        rw [or8 x y hxl hyl, ← HEX.out, ← HEY.out]
        rfl
      case measure => simp [intOf]; omega
    · have ej : j = k := by omega
      subst ej
      have hd : decide (1 + (j : Int) < 1 + (j : Int)) = false := by simp
      rw [← HV.out]
      by_cases hm : 131072 < v
      · have dm : decide (131072 < (v : Int)) = true := by simp; omega
        have HM := Lib.hid hm
        clear hm
        go_wp2_with fail
        refine bodyPost_ret (results_tmp3 rfl _ _ _) rfl ?_
        refine ⟨?_, rfl⟩
        rw [HR.out, if_pos (Or.inr HM.out)]
        rfl
      · have dm : decide (131072 < (v : Int)) = false := by simp; omega
        by_cases hs : lsz v = 1 + j
        · have ds : (((lsz v : Nat) : Int) != 1 + (j : Int)) = false := by simp; omega
          have HS := Lib.hid hs
          have HM := Lib.hid hm
          clear hs hm
          go_wp2_with (go_at_call 48; (with_reducible refine (lengthSize_any _ _).mono ?_); rintro e w1 ⟨rfl, rfl⟩)
          refine bodyPost_ret (results_tmp3 rfl _ _ _) rfl ?_
          refine ⟨?_, rfl⟩
          rw [HR.out, if_neg (fun h => h.elim (least_ok h1' h2' HS.out) HM.out)]
          rfl
        · have ds : (((lsz v : Nat) : Int) != 1 + (j : Int)) = true := by simp; omega
          have HS := Lib.hid hs
          have HM := Lib.hid hm
          clear hs hm
          go_wp2_with (go_at_call 48; (with_reducible refine (lengthSize_any _ _).mono ?_); rintro e w1 ⟨rfl, rfl⟩)
          refine bodyPost_ret (results_tmp3 rfl _ _ _) rfl ?_
          refine ⟨?_, rfl⟩
          rw [HR.out, if_pos (Or.inl (least_bad h1' h2' (by rw [HV.out]; exact be_lt c 1 j) HS.out))]
          rfl

theorem readLength_any (c : ByteArray) (w : World) :
    Calls Try.prog 41 #[.string c] w fun e w' => e = .returned (.tuple #[.int .i64 ((lnAt c 0).1 : Nat), .int .i64 ((lnAt c 0).2.1 : Nat), .int .i64 ((lnAt c 0).2.2 : Nat)]) ∧ w' = w := by
  unfold lnAt
  by_cases h0 : c.size ≤ 0
  · rw [if_pos h0]
    have e : c = ⟨#[]⟩ := by
      apply ByteArray.ext
      exact Array.eq_empty_of_size_eq_zero (Nat.le_zero.1 h0)
    subst e
    exact readLength_empty w
  · rw [if_neg h0]
    by_cases h1 : u8at c 0 < 128
    · rw [if_pos h1]
      exact readLength_short c w (by omega) _ rfl h1
    · rw [if_neg h1]
      by_cases h2 : u8at c 0 = 128 ∨ 131 < u8at c 0
      · rw [if_pos h2]
        exact readLength_bad c w (by omega) _ rfl h2
      · rw [if_neg h2]
        by_cases h3 : c.size < 0 + 1 + (u8at c 0 - 128)
        · rw [if_pos h3]
          exact readLength_cut c w (by omega) _ rfl (by omega) (by omega) (by omega)
        · rw [if_neg h3]
          refine readLength_long c w (by omega) (u8at c 0) rfl (by omega) (by omega) (by omega) (be c (0 + 1) (u8at c 0 - 128)) (by rw [Nat.zero_add]) _ ?_
          by_cases h4 : be c (0 + 1) (u8at c 0 - 128) < least (u8at c 0 - 128) ∨ 131072 < be c (0 + 1) (u8at c 0 - 128)
          · rw [if_pos h4, if_pos h4]; simp
          · rw [if_neg h4, if_neg h4]; simp
end Go.Proofs.Ytgpockpfefjjkaa
