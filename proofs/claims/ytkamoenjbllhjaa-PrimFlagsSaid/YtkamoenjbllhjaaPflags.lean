/-
  The contract of Flags of prim.
-/
import Derived.Test.YtkamoenjbllhjaaPisset
import Derived.Test.YtkamoenjbllhjaaPint
namespace Go.Proofs.Ytkamoenjbllhjaa
open Go.RowKit

theorem bitsErr_cases (c : ByteArray) : bitsErr c = 0 ∨ bitsErr c = 7 := by unfold bitsErr; split; exact .inr rfl; exact .inl rfl
theorem bitsErr_ok {c : ByteArray} (h : bitsErr c = 0) : c.size ≠ 0 ∧ u8at c 0 ≤ 7 ∧ unusedOk (c.extract 1 c.size) (u8at c 0) = true := by
  unfold bitsErr at h
  split at h
  · cases h
  · rename_i k
    refine ⟨fun e => k (.inl e), Nat.le_of_not_lt fun e => k (.inr (.inl e)), ?_⟩
    cases e : unusedOk (c.extract 1 c.size) (u8at c 0) with
    | true => rfl
    | false => exact absurd (.inr (.inr e)) k
theorem bitsNum_ok {c : ByteArray} (h : bitsErr c = 0) : bitsNum c ≤ 7 ∧ bitsNum c ≤ 8 * (bitsStr c).size := by
  obtain ⟨h1, h2, h3⟩ := bitsErr_ok h
  unfold bitsNum bitsStr
  rw [if_pos h, if_pos h]
  refine ⟨h2, ?_⟩
  by_cases hu : u8at c 0 = 0
  · omega
  · have : (c.extract 1 c.size).size ≠ 0 := by
      intro e
      rw [empty_of_size e, unusedOk_empty hu] at h3
      cases h3
    omega
theorem bitsStr_size (c : ByteArray) : (bitsStr c).size ≤ c.size := by
  unfold bitsStr
  split
  · rw [ByteArray.size_extract]; omega
  · exact Nat.zero_le _
theorem maskAt_lt (b : ByteArray) (k : Nat) : maskAt b k < 2 ^ k := by
  induction k with
  | zero => simp [maskAt]
  | succ k ih =>
    have h2 : maskAt b k < 2 ^ (k + 1) := by rw [Nat.pow_succ]; omega
    rw [maskAt]
    split
    · exact Nat.or_lt_two_pow h2 (Nat.pow_lt_pow_right (by decide) (by omega))
    · exact h2
theorem flags_bad {c : ByteArray} (h : bitsErr c ≠ 0) : flagsVal c = .tuple #[.int .i64 0, .int .i64 ((bitsErr c : Nat) : Int)] := by
  have e : flagsErr c = bitsErr c := by unfold flagsErr; exact if_pos h
  unfold flagsVal flagsMask
  rw [e, if_neg h]; rfl
theorem flags_zero {c : ByteArray} (h : bitsErr c = 0) (h0 : 0 < flagsNum c) (hb : bitAt (bitsStr c) (flagsNum c - 1) = false) : flagsVal c = .tuple #[.int .i64 0, .int .i64 7] := by
  have e : flagsErr c = 7 := by unfold flagsErr; rw [if_neg (by omega), if_pos ⟨h0, hb⟩]
  unfold flagsVal flagsMask
  rw [e]; rfl
theorem flags_long {c : ByteArray} (h : bitsErr c = 0) (hb : flagsNum c = 0 ∨ bitAt (bitsStr c) (flagsNum c - 1) = true) (hl : 16 < flagsNum c) : flagsVal c = .tuple #[.int .i64 0, .int .i64 1] := by
  have e : flagsErr c = 1 := by
    unfold flagsErr
    rw [if_neg (by omega), if_neg, if_pos hl]
    intro k
    rcases hb with hb | hb
    · omega
    · rw [hb] at k; cases k.2
  unfold flagsVal flagsMask
  rw [e]; rfl
theorem flags_good {c : ByteArray} (h : bitsErr c = 0) (hb : flagsNum c = 0 ∨ bitAt (bitsStr c) (flagsNum c - 1) = true) (hl : ¬ 16 < flagsNum c) : flagsVal c = .tuple #[.int .i64 ((maskAt (bitsStr c) (flagsNum c) : Nat) : Int), .int .i64 0] := by
  have e : flagsErr c = 0 := by
    unfold flagsErr
    rw [if_neg (by omega), if_neg, if_neg hl]
    intro k
    rcases hb with hb | hb
    · omega
    · rw [hb] at k; cases k.2
  unfold flagsVal flagsMask
  rw [e]; rfl

theorem or_mask {m k : Nat} (hm : m < 2 ^ k) (hk : k ≤ 15) : bits BinOp.or .i64 (m : Int) (wrap64 (2 ^ k)) = ((m ||| 2 ^ k : Nat) : Int) := by
  have e : ((2 : Int) ^ k) = ((2 ^ k : Nat) : Int) := by norm_cast
  have hp : 2 ^ k ≤ 2 ^ 15 := Nat.pow_le_pow_right (by decide) hk
  have hl : m ||| 2 ^ k < 2 ^ 16 := Nat.or_lt_two_pow (by omega) (by omega)
  have hw : wrap64 ((2 ^ k : Nat) : Int) = ((2 ^ k : Nat) : Int) := IntWalk.wrap64_in _ ⟨by omega, by omega⟩
  rw [e, hw]
  generalize 2 ^ k = p at *
  show IntKind.i64.wrap ((BitVec.ofInt 64 (m : Int) ||| BitVec.ofInt 64 (p : Int)).toNat : Int) = _
  rw [BitVec.toNat_or, BitVec.ofInt_natCast, BitVec.toNat_ofNat, BitVec.ofInt_natCast, BitVec.toNat_ofNat, Nat.mod_eq_of_lt (by omega), Nat.mod_eq_of_lt (by omega), wrap_i64]
  omega

set_option maxRecDepth 100000 in
set_option maxHeartbeats 2000000 in
theorem flags_core (c B : ByteArray) (u n : Nat) (w : World) (hs : c.size ≤ 1099511627776) (he : bitsErr c = 0) (hB : B = bitsStr c) (hu : u = bitsNum c) (hn : n = flagsNum c) :
    Calls Try.prog 22 #[.string c] w fun e w' => e = .returned (flagsVal c) ∧ Below w.heap.size w w' := by
  have hv : bitsVal c = .tuple #[.string B, .int .i64 (u : Int), .int .i64 0] := by unfold bitsVal; rw [he, hB, hu]; rfl
  obtain ⟨hu7, hu8⟩ := bitsNum_ok he
  rw [← hB, ← hu] at hu8
  rw [← hu] at hu7
  have hBs : B.size ≤ 1099511627776 := by rw [hB]; exact Nat.le_trans (bitsStr_size c) hs
  have hnn : n = 8 * B.size - u := by rw [hn, flagsNum, hB, hu]
  have en : 8 * (B.size : Int) - (u : Int) = (n : Int) := by omega
  have HBC := Lib.hid (fun w => bits_any c w hs)
  rw [hv] at HBC
  by_cases h0 : n = 0
  · have hfv := flags_good he (.inl (by rw [← hn]; exact h0)) (by rw [← hn]; omega)
    rw [← hn, ← hB, h0] at hfv
    rw [hfv]
    rw [h0] at en
    have d0 : decide ((0 : Int) < 0) = false := by decide
    clear hfv hn hB hu he hv hnn
    go_enter Try.func22, Try.ntmps22
    go_wp2_with (go_at_call 18; (with_reducible refine (HBC.out _).mono ?_); rintro e w1 ⟨rfl, hb1⟩; have HB1 := Lib.hid hb1; clear hb1)
    go_loopw [8, 36] (fun m i wr => m = .int .i64 0 ∧ i = .int .i64 0 ∧ wr = w1) (fun _ i _ => (intOf i).toNat)
    case atStart => exact ⟨rfl, rfl, rfl⟩
    case round =>
      obtain ⟨rfl, rfl, rfl⟩ := hrel
      go_wp2_with fail
      go_ret2
      exact ⟨rfl, HB1.out⟩
  · have hl : (n - 1) / 8 < B.size := by omega
    have ei : (n : Int) - 1 = ((n - 1 : Nat) : Int) := by omega
    have HI := Lib.hid (fun w => isset_any B (n - 1) w (by omega) hl)
    rw [← ei] at HI
    have d0 : decide ((0 : Int) < (n : Int)) = true := by simp; omega
    have dn : decide (0 < n) = true := by simp; omega
    cases hbit : bitAt B (n - 1) with
    | false =>
      rw [flags_zero he (by omega) (by rw [← hn, ← hB]; exact hbit)]
      rw [hbit] at HI
      clear hn hB hu he hv hnn hbit hl ei h0
      go_enter Try.func22, Try.ntmps22
      go_wp2_with (first | (go_at_call 18; (with_reducible refine (HBC.out _).mono ?_); rintro e w1 ⟨rfl, hb1⟩; have HB1 := Lib.hid hb1; clear hb1) | (go_at_call 29; (with_reducible refine (HI.out _).mono ?_); rintro e w2 ⟨rfl, hb2⟩; have HB2 := Lib.hid (below_next HB1.out hb2); clear hb2))
      go_ret2
      exact ⟨rfl, HB2.out⟩
    | true =>
      rw [hbit] at HI
      by_cases hlong : 16 < n
      · rw [flags_long he (.inr (by rw [← hn, ← hB]; exact hbit)) (by rw [← hn]; exact hlong)]
        have d16 : decide ((16 : Int) < (n : Int)) = true := by simp; omega
        clear hn hB hu he hv hnn hbit hl ei h0 hlong
        go_enter Try.func22, Try.ntmps22
        go_wp2_with (first | (go_at_call 18; (with_reducible refine (HBC.out _).mono ?_); rintro e w1 ⟨rfl, hb1⟩; have HB1 := Lib.hid hb1; clear hb1) | (go_at_call 29; (with_reducible refine (HI.out _).mono ?_); rintro e w2 ⟨rfl, hb2⟩; have HB2 := Lib.hid (below_next HB1.out hb2); clear hb2))
        go_ret2
        exact ⟨rfl, HB2.out⟩
      · have hfv := flags_good he (.inr (by rw [← hn, ← hB]; exact hbit)) (by rw [← hn]; exact hlong)
        rw [← hn, ← hB] at hfv
        rw [hfv]
        have d16 : decide ((16 : Int) < (n : Int)) = false := by simp; omega
        have hn16 : n ≤ 16 := by omega
        have HNN := Lib.hid hnn
        clear hnn hfv hn hB hu he hv hbit hl ei h0 hlong
        go_enter Try.func22, Try.ntmps22
        go_wp2_with (first | (go_at_call 18; (with_reducible refine (HBC.out _).mono ?_); rintro e w1 ⟨rfl, hb1⟩; have HB1 := Lib.hid hb1; clear hb1) | (go_at_call 29; (with_reducible refine (HI.out _).mono ?_); rintro e w2 ⟨rfl, hb2⟩; have HB2 := Lib.hid (below_next HB1.out hb2); clear hb2))
        go_loopw [8, 36] (fun m i wr => ∃ k : Nat, k ≤ n ∧ i = .int .i64 (k : Int) ∧ m = .int .i64 ((maskAt B k : Nat) : Int) ∧ Below w.heap.size w wr) (fun _ i _ => n - (intOf i).toNat)
        case atStart => exact ⟨0, by omega, rfl, rfl, HB2.out⟩
        case round =>
          obtain ⟨k, hk, rfl, rfl, hb⟩ := hrel
          have HB := Lib.hid hb
          clear hb
          by_cases hlt : k < n
          · have hd : decide ((k : Int) < (n : Int)) = true := by simp; omega
            have HK := Lib.hid (fun w => isset_any B k w (by omega) (by have := HNN.out; omega))
            have hml := maskAt_lt B k
            have hms : maskAt B (k + 1) = if bitAt B k then maskAt B k ||| 2 ^ k else maskAt B k := rfl
            generalize maskAt B k = m at hml hms
            cases hbk : bitAt B k with
            | false =>
              rw [hbk] at HK hms
              have HMS := Lib.hid hms
              clear hms hbk hml
              go_wp2_with (go_at_call 29; (with_reducible refine (HK.out _).mono ?_); rintro e w3 ⟨rfl, hb3⟩; have HB3 := Lib.hid (below_next HB.out hb3); clear hb3)
              go_roundw
              case rel => exact ⟨k + 1, by omega, by go_num, by rw [HMS.out]; rfl, HB3.out⟩
              case measure => simp [intOf]; omega
            | true =>
              rw [hbk] at HK hms
              have HMS := Lib.hid hms
              have HOR := Lib.hid (or_mask hml (by omega : k ≤ 15))
              clear hms hbk hml
              go_wp2_with (go_at_call 29; (with_reducible refine (HK.out _).mono ?_); rintro e w3 ⟨rfl, hb3⟩; have HB3 := Lib.hid (below_next HB.out hb3); clear hb3)
              go_roundw
              case rel => exact ⟨k + 1, by omega, by go_num, by rw [HMS.out, HOR.out]; simp, HB3.out⟩
              case measure => simp [intOf]; omega
          · have ek : k = n := by omega
            subst ek
            have hd : decide ((k : Int) < (k : Int)) = false := by simp
            go_wp2_with fail
            go_ret2
            exact ⟨rfl, HB.out⟩
set_option maxRecDepth 100000 in
set_option maxHeartbeats 1000000 in
theorem flags_err (c : ByteArray) (w : World) (hs : c.size ≤ 1099511627776) (he : bitsErr c = 7) :
    Calls Try.prog 22 #[.string c] w fun e w' => e = .returned (flagsVal c) ∧ Below w.heap.size w w' := by
  have hv : bitsVal c = .tuple #[.string ⟨#[]⟩, .int .i64 0, .int .i64 7] := by unfold bitsVal bitsStr bitsNum; rw [he]; rfl
  rw [flags_bad (by omega), he]
  have HBC := Lib.hid (fun w => bits_any c w hs)
  rw [hv] at HBC
  clear hv he
  go_enter Try.func22, Try.ntmps22
  go_wp2_with (go_at_call 18; (with_reducible refine (HBC.out _).mono ?_); rintro e w1 ⟨rfl, hb1⟩; have HB1 := Lib.hid hb1; clear hb1)
  go_ret2
  exact ⟨rfl, HB1.out⟩
theorem flags_any (c : ByteArray) (w : World) (hs : c.size ≤ 1099511627776) :
    Calls Try.prog 22 #[.string c] w fun e w' => e = .returned (flagsVal c) ∧ Below w.heap.size w w' := by
  rcases bitsErr_cases c with h | h
  · exact flags_core c _ _ _ w hs h rfl rfl rfl
  · exact flags_err c w hs h
end Go.Proofs.Ytkamoenjbllhjaa
