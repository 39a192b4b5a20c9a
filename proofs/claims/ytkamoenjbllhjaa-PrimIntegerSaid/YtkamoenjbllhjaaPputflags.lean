/-
  The contract of PutFlags of prim.
-/
import Derived.Test.YtkamoenjbllhjaaPoctf
namespace Go.Proofs.Ytkamoenjbllhjaa
open Go.RowKit

theorem and_one (m k : Nat) (hm : m < 65536) : (bits BinOp.and .i64 ((m : Int) / 2 ^ k) 1 == 1) = m.testBit k := by
  have e : (m : Int) / 2 ^ k = ((m / 2 ^ k : Nat) : Int) := by norm_cast
  have hl : m / 2 ^ k ≤ m := Nat.div_le_self _ _
  rw [e, Nat.testBit_eq_decide_div_mod_eq]
  generalize m / 2 ^ k = p at *
  have h : bits BinOp.and .i64 ((p : Nat) : Int) 1 = ((p % 2 : Nat) : Int) := by
    show IntKind.i64.wrap ((BitVec.ofInt 64 (p : Int) &&& BitVec.ofInt 64 1).toNat : Int) = _
    rw [BitVec.toNat_and, BitVec.ofInt_natCast, BitVec.toNat_ofNat, Nat.mod_eq_of_lt (by omega), show (BitVec.ofInt 64 1).toNat = 1 by decide, Nat.and_one_is_mod, wrap_i64]
    omega
  rw [h]
  have : p % 2 < 2 := Nat.mod_lt _ (by decide)
  rcases (by omega : p % 2 = 0 ∨ p % 2 = 1) with h | h <;> rw [h] <;> rfl
theorem or_top_all : ∀ x : Fin 256, ∀ r : Fin 8, bits BinOp.or .u8 ((x.val : Nat) : Int) (128 / 2 ^ r.val) = ((x.val ||| 128 >>> r.val : Nat) : Int) := by decide +kernel
theorem or_top {x r : Nat} (hx : x < 256) (hr : r ≤ 7) : bits BinOp.or .u8 (x : Int) (128 / 2 ^ r) = ((x ||| 128 >>> r : Nat) : Int) := or_top_all ⟨x, hx⟩ ⟨r, by omega⟩
theorem pflags_out {m : Int} (h : m < 0 ∨ 65535 < m) : putFlagsVal m = .tuple #[.string ⟨#[]⟩, .int .i64 1] := by
  have e : putFlagsErr m = 1 := by unfold putFlagsErr; exact if_pos h
  unfold putFlagsVal putFlagsStr
  rw [e]; rfl
theorem pflags_good {m n sz : Nat} (h : m ≤ 65535) (hn : n = Lib.bitLen m) (hsz : sz = (n + 7) / 8) : putFlagsVal (m : Int) = .tuple #[.string (strOf (UInt8.ofNat (8 * sz - n) :: putF m sz n)), .int .i64 0] := by
  have e : putFlagsErr (m : Int) = 0 := by unfold putFlagsErr; exact if_neg (by omega)
  unfold putFlagsVal putFlagsStr
  rw [e, Int.toNat_natCast, ← hn, ← hsz]; rfl
theorem pbits_flags (m n sz : Nat) (hsz : sz = (n + 7) / 8) : putBitsVal (strOf (putF m sz n)) ((8 * sz - n : Nat) : Int) = .tuple #[.string (strOf (UInt8.ofNat (8 * sz - n) :: putF m sz n)), .int .i64 0] := by
  have e : putBitsErr (strOf (putF m sz n)) ((8 * sz - n : Nat) : Int) = 0 := by
    unfold putBitsErr
    rw [if_neg (by omega), Int.toNat_natCast]
    exact if_neg (by rw [putF_unused m n sz hsz]; decide)
  unfold putBitsVal putBitsStr
  rw [e, Int.toNat_natCast]; rfl
theorem blen_16 {m : Nat} (h : m ≤ 65535) : Lib.bitLen m ≤ 16 := Lib.bitLen_le m 16 (by omega) (by omega)

set_option maxRecDepth 100000 in
set_option maxHeartbeats 4000000 in
theorem pflags_core (m n sz : Nat) (w : World) (hm : m ≤ 65535) (hn : n = Lib.bitLen m) (hsz : sz = (n + 7) / 8) :
    Calls Try.prog 24 #[.int .i64 (m : Int)] w fun e w' => e = .returned (putFlagsVal (m : Int)) ∧ Below w.heap.size w w' := by
  obtain ⟨i0, hi, hz0, hz1, hz2⟩ := info_parts byteInfo
  have hn16 : n ≤ 16 := by rw [hn]; exact blen_16 hm
  have HBL := Lib.hid (fun w => blen_any m w (by omega))
  rw [← hn] at HBL
  have HPB := Lib.hid (fun w => pbits_any (strOf (putF m sz n)) ((8 * sz - n : Nat) : Int) w (by rw [strOf_size, putF_length]; omega))
  rw [pbits_flags m n sz hsz] at HPB
  rw [pflags_good hm hn hsz]
  have hqz : ((n : Int) + 8 - 1) / 8 = (sz : Int) := by omega
  have ei : ((8 * sz - n : Nat) : Int) = 8 * (((n : Int) + 8 - 1) / 8) - (n : Int) := by omega
  rw [ei] at HPB
  have HQZ := Lib.hid hqz
  have d0 : decide ((m : Int) < 0) = false := by simp
  have d1 : decide ((65535 : Int) < (m : Int)) = false := by simp; omega
  have hsz2 : sz ≤ 2 := by omega
  have HSZ := Lib.hid hsz
  clear hn hsz ei hqz
  go_enter Try.func24, Try.ntmps24
  go_wp2_with (first | (go_at_call 30; (with_reducible refine (HBL.out _).mono ?_); rintro e w1 ⟨rfl, rfl⟩) | (at_make; refine wpList_make_full _ rfl _ _ 42 rfl w1.heap.size 5 i0 (.int .u8 0) 1 Try.underlying42 hi hz0 hz1 .i64 .i64 (((n : Int) + 8 - 1) / 8) (((n : Int) + 8 - 1) / 8) sz rfl rfl HQZ.out HQZ.out (by rw [hz2]; omega) (by unfold maxLen; omega) (Nat.le_refl _) ?_; intro w2 hown2 hgr2; have HO2 := Lib.hid (own_made sz hown2); have HG2 := Lib.hid hgr2; clear hown2 hgr2))
  have HB2 := Lib.hid ((Below.refl w1.heap.size w1).grown HG2.out (Nat.le_refl _) (fun _ e => by cases e))
  go_loopw [24] (fun i wr => ∃ k : Nat, k ≤ n ∧ i = .int .i64 (k : Int) ∧ OwnB 5 wr w1.heap.size (.slice (some ⟨w1.heap.size, 0, none⟩) sz sz) (putF m sz k) ∧ Below w1.heap.size w1 wr) (fun i _ => n - (intOf i).toNat)
  case atStart => exact ⟨0, by omega, rfl, by rw [putF_zero]; exact HO2.out, HB2.out⟩
  case round =>
    obtain ⟨k, hk, rfl, ho, hb⟩ := hrel
    have HB := Lib.hid hb
    clear hb
    by_cases hlt : k < n
    · have hd : decide ((k : Int) < (n : Int)) = true := by simp; omega
      have ht := and_one m k (by omega)
      cases hbk : m.testBit k with
      | false =>
        rw [hbk] at ht
        have HO := Lib.hid (show OwnB 5 wr w1.heap.size (.slice (some ⟨w1.heap.size, 0, none⟩) sz sz) (putF m sz (k + 1)) by rw [putF_skip m sz k hbk]; exact ho)
        clear hbk ho
        go_wp2_with fail
        go_roundw
        case rel => exact ⟨k + 1, by omega, by go_num, HO.out, HB.out⟩
        case measure => simp [intOf]; omega
      | true =>
        rw [hbk] at ht
        obtain ⟨q, hq⟩ : ∃ q, q = k / 8 := ⟨_, rfl⟩
        obtain ⟨r, hr⟩ : ∃ r, r = k % 8 := ⟨_, rfl⟩
        have hqs : q < sz := by have := HSZ.out; omega
        have hl := putF_length m sz k
        have hc := own_cell ho hl q hqs
        have hf := own_free ho hl q
        rw [putF_get m sz k q hqs, ofNat_toNat (octF_lt _ _ _)] at hc
        have hs := own_set ho hl q (UInt8.ofNat (octF m q k ||| 128 >>> r))
        have hx := octF_lt m q k
        have hxo : octF m q k ||| 128 >>> r < 256 := Nat.or_lt_two_pow (n := 8) hx (by rw [Nat.shiftRight_eq_div_pow]; exact Nat.lt_of_le_of_lt (Nat.div_le_self _ _) (by decide))
        rw [ofNat_toNat hxo, hq, hr, putF_write m sz k hbk, ← hq, ← hr] at hs
        have hor := or_top hx (by omega : r ≤ 7)
        generalize octF m q k = x at hc hx hor hs hxo
        have HS := Lib.hid hs
        have e1 : (k : Int) / 8 = (q : Int) := by omega
        have e2 : (k : Int) % 8 = (r : Int) := by omega
        have hr7 : r ≤ 7 := by omega
        clear hbk ho hs hl hq hr
        go_wp2_with fail
        go_region
        go_wp2_with fail
        go_roundw
        case rel => exact ⟨k + 1, by omega, by go_num, HS.out, (HB.out.setCell (Nat.le_refl _) _).drew⟩
        case measure => simp [intOf]; omega
    · have ek : k = n := by omega
      subst ek
      have hd : decide ((k : Int) < (k : Int)) = false := by simp
      have hcv := own_str ho
      clear ho
      go_wp2_with (go_at_call 20; (with_reducible refine (HPB.out _).mono ?_); rintro e w3 ⟨rfl, hb3⟩; have HB3 := Lib.hid (below_next HB.out hb3); clear hb3)
      go_ret2
      exact ⟨rfl, HB3.out⟩
set_option maxRecDepth 100000 in
theorem pflags_any (m : Int) (w : World) :
    Calls Try.prog 24 #[.int .i64 m] w fun e w' => e = .returned (putFlagsVal m) ∧ Below w.heap.size w w' := by
  by_cases h0 : m < 0
  · rw [pflags_out (.inl h0)]
    have d0 : decide (m < 0) = true := by simpa using h0
    clear h0
    go_enter Try.func24, Try.ntmps24
    go_wp2_with fail
    go_ret2
    exact ⟨rfl, Below.refl _ _⟩
  · by_cases h1 : 65535 < m
    · rw [pflags_out (.inr h1)]
      have d0 : decide (m < 0) = false := by simpa using h0
      have d1 : decide (65535 < m) = true := by simpa using h1
      clear h0 h1
      go_enter Try.func24, Try.ntmps24
      go_wp2_with fail
      go_ret2
      exact ⟨rfl, Below.refl _ _⟩
    · obtain ⟨n, rfl⟩ : ∃ n : Nat, m = (n : Int) := ⟨m.toNat, by omega⟩
      exact pflags_core n _ _ w (by omega) rfl rfl
end Go.Proofs.Ytkamoenjbllhjaa
