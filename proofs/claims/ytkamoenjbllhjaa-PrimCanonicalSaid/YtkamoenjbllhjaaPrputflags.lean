/-
  The contract of the reference's PutFlags.
-/
import Derived.Test.YtkamoenjbllhjaaPputflags
namespace Go.Proofs.Ytkamoenjbllhjaa
open Go.RowKit

theorem mod_succ_bit (m k : Nat) : m % 2 ^ (k + 1) = m % 2 ^ k + 2 ^ k * (m.testBit k).toNat := by
  rw [Nat.mod_pow_succ, Nat.testBit_eq_decide_div_mod_eq]
  have : m / 2 ^ k % 2 < 2 := Nat.mod_lt _ (by decide)
  rcases (by omega : m / 2 ^ k % 2 = 0 ∨ m / 2 ^ k % 2 = 1) with h | h <;> rw [h] <;> rfl
theorem blen_step {m k : Nat} (hk : k < 16) (h : m.testBit k = true) : Lib.bitLen (m % 2 ^ (k + 1)) = k + 1 := by
  have hp : 2 ^ (k + 1) ≤ 2 ^ 16 := Nat.pow_le_pow_right (by decide) (by omega)
  have h1 : m % 2 ^ (k + 1) < 2 ^ (k + 1) := Nat.mod_lt _ (Nat.two_pow_pos _)
  have h2 : Lib.bitLen (m % 2 ^ (k + 1)) ≤ k + 1 := (blen_iff (by omega) (by omega)).2 h1
  have h3 : ¬ Lib.bitLen (m % 2 ^ (k + 1)) ≤ k := by
    intro e
    have := (blen_iff (by omega) (by omega)).1 e
    rw [mod_succ_bit, h] at this
    simp at this
    omega
  omega
theorem blen_skip {m k : Nat} (h : m.testBit k = false) : m % 2 ^ (k + 1) = m % 2 ^ k := by
  rw [mod_succ_bit, h]; simp
theorem putF_cons (m n k : Nat) (h : UInt8) (hb : m.testBit k = true) : (h :: putF m n k).set (1 + k / 8) (UInt8.ofNat (octF m (k / 8) k ||| 128 >>> (k % 8))) = h :: putF m n (k + 1) := by
  rw [Nat.add_comm 1, List.set_cons_succ, putF_write m n k hb]

theorem set_zero (m sz : Nat) (h : UInt8) : (List.replicate (1 + sz) 0).set 0 h = h :: putF m sz 0 := by
  rw [putF_zero, Nat.add_comm 1, List.replicate_succ, List.set_cons_zero]

set_option maxRecDepth 100000 in
set_option maxHeartbeats 8000000 in
theorem rpflags_core (m n sz : Nat) (w : World) (hm : m ≤ 65535) (hn : n = Lib.bitLen m) (hsz : sz = (n + 7) / 8) :
    Calls Try.prog 25 #[.int .i64 (m : Int)] w fun e w' => e = .returned (putFlagsVal (m : Int)) ∧ Below w.heap.size w w' := by
  obtain ⟨i0, hi, hz0, hz1, hz2⟩ := info_parts byteInfo
  have hn16 : n ≤ 16 := by rw [hn]; exact blen_16 hm
  rw [pflags_good hm hn hsz]
  have hn2 : n = Lib.bitLen (m % 2 ^ 16) := by rw [hn, Nat.mod_eq_of_lt (by omega)]
  have HN := Lib.hid hn2
  have hqz : 1 + ((n : Int) + 7) / 8 = ((1 + sz : Nat) : Int) := by omega
  have HQZ := Lib.hid hqz
  obtain ⟨hd0, hh⟩ : ∃ h : UInt8, h = UInt8.ofNat (8 * sz - n) := ⟨_, rfl⟩
  rw [← hh]
  have hht : hd0.toNat = 8 * sz - n := by rw [hh, ofNat_toNat (by omega)]
  have hmod : 8 * (((n : Int) + 7) / 8) - (n : Int) = ((hd0.toNat : Nat) : Int) := by rw [hht]; omega
  have d0 : decide ((m : Int) < 0) = false := by simp
  have d1 : decide ((65535 : Int) < (m : Int)) = false := by simp; omega
  have hsz2 : sz ≤ 2 := by omega
  have HSZ := Lib.hid hsz
  have HM := Lib.hid hmod
  clear hn hsz hn2 hqz hh hht hmod
  go_enter Try.func25, Try.ntmps25
  go_wp2_with fail
  go_loopw [4, 5] (fun v i wr => ∃ k : Nat, k ≤ 16 ∧ i = .int .i64 (k : Int) ∧ v = .int .i64 ((Lib.bitLen (m % 2 ^ k) : Nat) : Int) ∧ wr = w) (fun _ i _ => 16 - (intOf i).toNat)
  case atStart => exact ⟨0, by omega, rfl, by rw [Nat.pow_zero, Nat.mod_one]; rfl, rfl⟩
  case round =>
    obtain ⟨k, hk, rfl, rfl, rfl⟩ := hrel
    by_cases hlt : k < 16
    · have hd : decide ((k : Int) < 16) = true := by simp; omega
      have ht := bit_one m k
      cases hbk : m.testBit k with
      | false =>
        rw [hbk] at ht
        have HS := Lib.hid (blen_skip hbk)
        clear hbk
        go_wp2_with fail
        go_roundw
        case rel => exact ⟨k + 1, by omega, by go_num, by rw [HS.out], trivial⟩
        case measure => simp [intOf]; omega
      | true =>
        rw [hbk] at ht
        have HS := Lib.hid (blen_step hlt hbk)
        clear hbk
        go_wp2_with fail
        go_roundw
        case rel => exact ⟨k + 1, by omega, by go_num, by rw [HS.out]; go_num, trivial⟩
        case measure => simp [intOf]; omega
    · obtain rfl : k = 16 := by omega
      rw [← HN.out]
      clear hlt hk
      go_wp2_with (at_make; refine wpList_make_full _ rfl _ _ 42 rfl wr.heap.size 5 i0 (.int .u8 0) 1 Try.underlying42 hi hz0 hz1 .i64 .i64 (1 + ((n : Int) + 7) / 8) (1 + ((n : Int) + 7) / 8) (1 + sz) rfl rfl HQZ.out HQZ.out (by rw [hz2]; omega) (by unfold maxLen; omega) (Nat.le_refl _) ?_; intro w2 hown2 hgr2; have ho2 := own_made (1 + sz) hown2; have hc0 := own_cell ho2 List.length_replicate 0 (by omega); have hf0 := own_free ho2 List.length_replicate 0; have HO2 := Lib.hid ho2; have HG2 := Lib.hid hgr2; clear hown2 hgr2 ho2)
      have hset := own_set HO2.out List.length_replicate 0 hd0
      rw [← HM.out, set_zero m sz hd0] at hset
      have hb2 := ((Below.refl wr.heap.size wr).grown HG2.out (Nat.le_refl _) (fun _ e => by cases e)).setCell (p := ⟨wr.heap.size, 0, none⟩) (Nat.le_refl _) (.int .u8 (8 * (((n : Int) + 7) / 8) - (n : Int)))
      have HSET := Lib.hid hset
      have HB2 := Lib.hid hb2
      clear hset hb2 hc0 hf0
      obtain ⟨w1, rfl⟩ : ∃ w1 : World, w1 = wr := ⟨_, rfl⟩
      go_loopw [7] (fun i wx => ∃ k : Nat, k ≤ n ∧ i = .int .i64 (k : Int) ∧ OwnB 5 wx w1.heap.size (.slice (some ⟨w1.heap.size, 0, none⟩) (1 + sz) (1 + sz)) (hd0 :: putF m sz k) ∧ Below w1.heap.size w1 wx) (fun i _ => n - (intOf i).toNat)
      case atStart => exact ⟨0, by omega, rfl, HSET.out, HB2.out⟩
      case round =>
        obtain ⟨k, hk, rfl, ho, hb⟩ := hrel
        have HB := Lib.hid hb
        clear hb
        by_cases hlt : k < n
        · have hd : decide ((k : Int) < (n : Int)) = true := by simp; omega
          have ht := bit_one m k
          cases hbk : m.testBit k with
          | false =>
            rw [hbk] at ht
            rw [← putF_skip m sz k hbk] at ho
            have HO := Lib.hid ho
            clear hbk ho
            go_wp2_with fail
            go_roundw
            case rel => exact ⟨k + 1, by omega, by go_num, HO.out, HB.out⟩
            case measure => simp [intOf]; omega
          | true =>
            rw [hbk] at ht
            obtain ⟨q, hq⟩ : ∃ q, q = k / 8 := ⟨_, rfl⟩
            obtain ⟨r, hr⟩ : ∃ r, r = k % 8 := ⟨_, rfl⟩
            have hqs : q < sz := by have := HSZ.out; omega
            have hl : (hd0 :: putF m sz k).length = 1 + sz := by rw [List.length_cons, putF_length]; omega
            have hc := own_cell ho hl (1 + q) (by omega)
            have hf := own_free ho hl (1 + q)
            rw [show (hd0 :: putF m sz k).getD (1 + q) 0 = (putF m sz k).getD q 0 by rw [Nat.add_comm 1]; rfl, putF_get m sz k q hqs, ofNat_toNat (octF_lt _ _ _)] at hc
            have hs := own_set ho hl (1 + q) (UInt8.ofNat (octF m q k ||| 128 >>> r))
            have hx := octF_lt m q k
            have hxo : octF m q k ||| 128 >>> r < 256 := Nat.or_lt_two_pow (n := 8) hx (by rw [Nat.shiftRight_eq_div_pow]; exact Nat.lt_of_le_of_lt (Nat.div_le_self _ _) (by decide))
            rw [ofNat_toNat hxo, hq, hr, putF_cons m sz k hd0 hbk, ← hq, ← hr] at hs
            have hor := or_top hx (by omega : r ≤ 7)
            generalize octF m q k = x at hc hx hor hs hxo
            have HS := Lib.hid hs
            have e1 : (k : Int) / 8 = (q : Int) := by omega
            have e2 : (k : Int) % 8 = (r : Int) := by omega
            have hr7 : r ≤ 7 := by omega
            clear hbk ho hs hl hq hr
            go_wp2_with fail
            go_region
            go_wp2_with fail
            go_roundw
            case rel => exact ⟨k + 1, by omega, by go_num, HS.out, (HB.out.setCell (Nat.le_refl _) _).drew⟩
            case measure => simp [intOf]; omega
        · have ek : k = n := by omega
          subst ek
          have hd : decide ((k : Int) < (k : Int)) = false := by simp
          have hcv := own_str ho
          clear ho
          go_wp2_with fail
          go_ret2
          exact ⟨rfl, HB.out⟩
set_option maxRecDepth 100000 in
theorem rpflags_any (m : Int) (w : World) :
    Calls Try.prog 25 #[.int .i64 m] w fun e w' => e = .returned (putFlagsVal m) ∧ Below w.heap.size w w' := by
  by_cases h0 : m < 0
  · rw [pflags_out (.inl h0)]
    have d0 : decide (m < 0) = true := by simpa using h0
    clear h0
    go_enter Try.func25, Try.ntmps25
    go_wp2_with fail
    go_ret2
    exact ⟨rfl, Below.refl _ _⟩
  · by_cases h1 : 65535 < m
    · rw [pflags_out (.inr h1)]
      have d0 : decide (m < 0) = false := by simpa using h0
      have d1 : decide (65535 < m) = true := by simpa using h1
      clear h0 h1
      go_enter Try.func25, Try.ntmps25
      go_wp2_with fail
      go_ret2
      exact ⟨rfl, Below.refl _ _⟩
    · obtain ⟨n, rfl⟩ : ∃ n : Nat, m = (n : Int) := ⟨m.toNat, by omega⟩
      exact rpflags_core n _ _ w (by omega) rfl rfl
end Go.Proofs.Ytkamoenjbllhjaa
