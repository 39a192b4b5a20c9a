/-
  Flags and PutFlags undo each other, and so do Bits and PutBits. Nothing is claimed of the program here.
-/
import Derived.Test.YtkamoenjbllhjaaPrputflags
namespace Go.Proofs.Ytkamoenjbllhjaa
open Go.RowKit

theorem cons_u8 (y : UInt8) (l : List UInt8) (j : Nat) : u8at (strOf (y :: l)) (1 + j) = u8at (strOf l) j := by
  rw [u8at_strOf, u8at_strOf, Nat.add_comm 1]; rfl
theorem cons_tail {c : ByteArray} (h : c.size ≠ 0) : strOf (UInt8.ofNat (u8at c 0) :: (c.extract 1 c.size).data.toList) = c := by
  have hl : (c.extract 1 c.size).data.toList.length = c.size - 1 := tail_size c
  apply str_ext
  · rw [strOf_size, List.length_cons, hl]; omega
  · intro i hi
    rw [strOf_size, List.length_cons, hl] at hi
    cases i with
    | zero => rw [u8at_strOf]; exact ofNat_toNat (u8at_lt c 0)
    | succ i =>
      rw [Nat.add_comm i, cons_u8, ← u8at_tail]
      rfl
theorem pbits_back {c : ByteArray} (h : bitsErr c = 0) : putBitsVal (bitsStr c) ((bitsNum c : Nat) : Int) = .tuple #[.string c, .int .i64 0] := by
  obtain ⟨h0, h1, h2⟩ := bitsErr_ok h
  have hs : bitsStr c = c.extract 1 c.size := by unfold bitsStr; exact if_pos h
  have hu : bitsNum c = u8at c 0 := by unfold bitsNum; exact if_pos h
  have e : putBitsErr (bitsStr c) ((bitsNum c : Nat) : Int) = 0 := by
    unfold putBitsErr
    rw [hs, hu, if_neg (by omega), Int.toNat_natCast]
    exact if_neg (by rw [h2]; decide)
  unfold putBitsVal putBitsStr
  rw [e, if_pos rfl, hs, hu, Int.toNat_natCast, cons_tail h0]; rfl

theorem maskAt_bit (b : ByteArray) (k i : Nat) : (maskAt b k).testBit i = (decide (i < k) && bitAt b i) := by
  induction k with
  | zero => simp [maskAt]
  | succ k ih =>
    rw [maskAt]
    by_cases h : bitAt b k = true
    · rw [if_pos h, Nat.testBit_or, ih, Nat.testBit_two_pow]
      by_cases e : k = i
      · subst e; rw [h]; simp
      · rw [decide_eq_false e, Bool.or_false]
        by_cases hk : i < k
        · rw [decide_eq_true hk, decide_eq_true (by omega)]
        · rw [decide_eq_false hk, decide_eq_false (by omega)]
    · rw [if_neg h, ih]
      by_cases e : k = i
      · subst e
        rw [Bool.not_eq_true] at h
        rw [h]; simp
      · by_cases hk : i < k
        · rw [decide_eq_true hk, decide_eq_true (by omega)]
        · rw [decide_eq_false hk, decide_eq_false (by omega)]
theorem blen_bit {m n : Nat} (hm : m < 18446744073709551616) (hn : n = Lib.bitLen m) (h : n ≠ 0) (h64 : n ≤ 64) : m.testBit (n - 1) = true := by
  have h1 : m < 2 ^ n := (blen_iff hm h64).1 (by omega)
  have h2 : ¬ m < 2 ^ (n - 1) := fun e => by
    have := (blen_iff hm (by omega)).2 e
    omega
  rw [Nat.testBit_eq_decide_div_mod_eq]
  apply decide_eq_true
  have hp : 2 ^ n = 2 * 2 ^ (n - 1) := by
    rw [← Nat.pow_succ']
    congr 1
    show n = n - 1 + 1
    omega
  have hq : m / 2 ^ (n - 1) = 1 := by
    have hpos := Nat.two_pow_pos (n - 1)
    rw [Nat.div_eq_iff hpos]
    omega
  rw [hq]
theorem putF_bit (m n sz k : Nat) (hsz : sz = (n + 7) / 8) (hk : k < n) : bitAt (strOf (putF m sz n)) k = m.testBit k := by
  unfold bitAt
  rw [putF_u8 _ _ _ _ (by omega), octF_bit, decide_eq_true (show 7 - k % 8 ≤ 7 by omega), show 8 * (k / 8) + (7 - (7 - k % 8)) = k by omega, decide_eq_true hk]
  simp
theorem flags_put {m : Nat} (h : m ≤ 65535) : flagsVal (putFlagsStr (m : Int)) = .tuple #[.int .i64 (m : Int), .int .i64 0] := by
  obtain ⟨n, hn⟩ : ∃ n, n = Lib.bitLen m := ⟨_, rfl⟩
  obtain ⟨sz, hsz⟩ : ∃ sz, sz = (n + 7) / 8 := ⟨_, rfl⟩
  have hn16 : n ≤ 16 := by rw [hn]; exact blen_16 h
  obtain ⟨c, hc⟩ : ∃ c, c = strOf (UInt8.ofNat (8 * sz - n) :: putF m sz n) := ⟨_, rfl⟩
  have hps : putFlagsStr (m : Int) = c := by
    have := pflags_good h hn hsz
    unfold putFlagsVal at this
    simp only [Value.tuple.injEq, Array.mk.injEq, List.cons.injEq, Value.string.injEq] at this
    rw [this.1, hc]
  rw [hps]
  have hs1 : c.size = 1 + sz := by rw [hc, strOf_size, List.length_cons, putF_length]; omega
  have hu0 : u8at c 0 = 8 * sz - n := by rw [hc, u8at_strOf]; exact ofNat_toNat (by omega)
  have hx : c.extract 1 c.size = strOf (putF m sz n) := by
    apply str_ext
    · rw [tail_size, hs1, strOf_size, putF_length]; omega
    · intro i _
      rw [u8at_tail, hc, cons_u8]
  have he : bitsErr c = 0 := by
    unfold bitsErr
    refine if_neg fun k => ?_
    rcases k with k | k | k
    · omega
    · omega
    · rw [hx, hu0, putF_unused m n sz hsz] at k; cases k
  have hB : bitsStr c = strOf (putF m sz n) := by unfold bitsStr; rw [if_pos he, hx]
  have hU : bitsNum c = 8 * sz - n := by unfold bitsNum; rw [if_pos he, hu0]
  have hN : flagsNum c = n := by unfold flagsNum; rw [hB, hU, strOf_size, putF_length]; omega
  have hb : flagsNum c = 0 ∨ bitAt (bitsStr c) (flagsNum c - 1) = true := by
    rw [hN, hB]
    by_cases h0 : n = 0
    · exact .inl h0
    · right
      rw [putF_bit m n sz (n - 1) hsz (by omega)]
      exact blen_bit (by omega) hn h0 (by omega)
  rw [flags_good he hb (by rw [hN]; omega), hN, hB]
  have hmask : maskAt (strOf (putF m sz n)) n = m := by
    apply Nat.eq_of_testBit_eq
    intro i
    rw [maskAt_bit]
    by_cases hi : i < n
    · rw [decide_eq_true hi, putF_bit m n sz i hsz hi]; rfl
    · rw [decide_eq_false hi]
      have h1 : m < 2 ^ n := (blen_iff (by omega) (by omega)).1 (by omega)
      have h2 : 2 ^ n ≤ 2 ^ i := Nat.pow_le_pow_right (by decide) (by omega)
      rw [Nat.testBit_lt_two_pow (by omega)]; rfl
  rw [hmask]
theorem put_flags {c : ByteArray} (h : flagsErr c = 0) : putFlagsVal ((flagsMask c : Nat) : Int) = .tuple #[.string c, .int .i64 0] := by
  have he : bitsErr c = 0 := by
    rcases bitsErr_cases c with e | e
    · exact e
    · unfold flagsErr at h
      rw [if_pos (by omega)] at h
      omega
  have hfm : flagsMask c = maskAt (bitsStr c) (flagsNum c) := by unfold flagsMask; exact if_pos h
  have hlast : 0 < flagsNum c → bitAt (bitsStr c) (flagsNum c - 1) = true := by
    intro h0
    cases hb : bitAt (bitsStr c) (flagsNum c - 1) with
    | true => rfl
    | false =>
      unfold flagsErr at h
      rw [if_neg (by omega), if_pos ⟨h0, hb⟩] at h
      cases h
  have hn16 : flagsNum c ≤ 16 := by
    unfold flagsErr at h
    rw [if_neg (by omega), if_neg (fun k => by rw [hlast k.1] at k; cases k.2)] at h
    split at h
    · cases h
    · omega
  obtain ⟨hu7, hu8⟩ := bitsNum_ok he
  obtain ⟨h0, h1, h2⟩ := bitsErr_ok he
  have hs : bitsStr c = c.extract 1 c.size := by unfold bitsStr; exact if_pos he
  have hu : bitsNum c = u8at c 0 := by unfold bitsNum; exact if_pos he
  rw [hfm]
  have hnum : flagsNum c = 8 * (bitsStr c).size - bitsNum c := rfl
  rw [← hs, ← hu] at h2
  have hct : strOf (UInt8.ofNat (bitsNum c) :: (bitsStr c).data.toList) = c := by rw [hu, hs]; exact cons_tail h0
  generalize flagsNum c = n at *
  generalize bitsStr c = B at *
  generalize bitsNum c = u at *
  have hml := maskAt_lt B n
  have hp16 : 2 ^ n ≤ 2 ^ 16 := Nat.pow_le_pow_right (by decide) hn16
  have hbl : n = Lib.bitLen (maskAt B n) := by
    have hle : Lib.bitLen (maskAt B n) ≤ n := (blen_iff (by omega) (by omega)).2 hml
    by_cases hz : n = 0
    · omega
    · have ht : (maskAt B n).testBit (n - 1) = true := by rw [maskAt_bit, decide_eq_true (by omega), hlast (by omega)]; rfl
      have hge : ¬ Lib.bitLen (maskAt B n) ≤ n - 1 := by
        intro e
        have := (blen_iff (by omega) (by omega)).1 e
        rw [Nat.testBit_lt_two_pow this] at ht
        cases ht
      omega
  have hsz : B.size = (n + 7) / 8 := by omega
  rw [pflags_good (by omega) hbl hsz]
  have hF : strOf (putF (maskAt B n) B.size n) = B := by
    apply str_ext
    · rw [strOf_size, putF_length]
    · intro j hj
      rw [strOf_size, putF_length] at hj
      rw [putF_u8 _ _ _ _ hj]
      apply Nat.eq_of_testBit_eq
      intro i
      rw [octF_bit, maskAt_bit]
      by_cases hi : i ≤ 7
      · have hba : bitAt B (8 * j + (7 - i)) = (u8at B j).testBit i := by
          unfold bitAt
          rw [show (8 * j + (7 - i)) / 8 = j by omega, show 7 - (8 * j + (7 - i)) % 8 = i by omega]
        rw [decide_eq_true hi, hba]
        by_cases hk : 8 * j + (7 - i) < n
        · rw [decide_eq_true hk]; rfl
        · rw [decide_eq_false hk]
          have hj2 : j = B.size - 1 := by omega
          have hu0 : u ≠ 0 := by omega
          rw [unusedOk_some hu0 (by omega), ← hj2] at h2
          have hmod := of_decide_eq_true h2
          have := Nat.testBit_mod_two_pow (u8at B j) u i
          rw [hmod, decide_eq_true (by omega), Nat.zero_testBit] at this
          have hf : (u8at B j).testBit i = false := by simpa using this.symm
          rw [hf]; simp
      · rw [decide_eq_false hi]
        have hb := u8at_lt B j
        have h8 : 2 ^ 8 ≤ 2 ^ i := Nat.pow_le_pow_right (by decide) (by omega)
        rw [Nat.testBit_lt_two_pow (by omega)]; rfl
  have hF2 : putF (maskAt B n) B.size n = B.data.toList := congrArg (fun b : ByteArray => b.data.toList) hF
  rw [show 8 * B.size - n = u by omega, hF2, hct]
end Go.Proofs.Ytkamoenjbllhjaa
