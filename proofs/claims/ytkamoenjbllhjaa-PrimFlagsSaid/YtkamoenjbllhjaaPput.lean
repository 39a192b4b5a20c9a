/-
  The contract of PutInteger of prim.
-/
import Derived.Test.YtkamoenjbllhjaaPsize
import Derived.Test.YtkamoenjbllhjaaPown
namespace Go.Proofs.Ytkamoenjbllhjaa
open Go.RowKit

theorem lenZ_le (v : Int) (h0 : -9223372036854775808 ≤ v) (h1 : v < 9223372036854775808) : 1 ≤ lenZ v ∧ lenZ v ≤ 8 := by
  unfold lenZ
  have := bitLen_63 (n := (if v < 0 then -v - 1 else v).toNat) (by split <;> omega)
  omega
theorem octZ_lt (v : Int) (n j : Nat) : octZ v n j < 256 := by unfold octZ; omega
/-- The last i of n bytes have been written. -/
def Filled (v : Int) (n i : Nat) (l : List UInt8) : Prop := l.length = n ∧ ∀ j, j < n → n ≤ j + i → l.getD j 0 = UInt8.ofNat (octZ v n j)
theorem Filled.step {v : Int} {n i : Nat} {l : List UInt8} (h : Filled v n i l) (hi : i < n) : Filled v n (i + 1) (l.set (n - 1 - i) (UInt8.ofNat (octZ v n (n - 1 - i)))) := by
  refine ⟨by rw [List.length_set]; exact h.1, fun j hj hk => ?_⟩
  rw [List.getD_eq_getElem?_getD, List.getElem?_set]
  by_cases e : n - 1 - i = j
  · rw [if_pos e, if_pos (by rw [h.1]; omega), e]; rfl
  · rw [if_neg e, ← List.getD_eq_getElem?_getD]; exact h.2 j hj (by omega)
theorem putZ_length (v : Int) (n : Nat) : (putZ v n).length = n := by simp [putZ]
theorem Filled.done {v : Int} {n : Nat} {l : List UInt8} (h : Filled v n n l) : l = putZ v n := by
  apply List.ext_getElem
  · rw [h.1, putZ_length]
  · intro j h1 h2
    have := h.2 j (by rw [← h.1]; exact h1) (by omega)
    rw [List.getD_eq_getElem?_getD, List.getElem?_eq_getElem h1] at this
    simp only [Option.getD_some] at this
    rw [this]
    simp [putZ]

theorem pow_256 (k : Nat) : (2 : Int) ^ (8 * k) = ((256 ^ k : Nat) : Int) := by
  rw [Int.pow_mul]
  norm_cast
theorem octZ_at (v : Int) (n k : Nat) (h : k < n) : v / 2 ^ (8 * k) % 256 = (((UInt8.ofNat (octZ v n (n - 1 - k))).toNat : Nat) : Int) := by
  rw [ofNat_toNat (octZ_lt _ _ _), pow_256]
  unfold octZ
  rw [show n - 1 - (n - 1 - k) = k by omega]
  generalize v / ((256 ^ k : Nat) : Int) = x
  omega
set_option maxRecDepth 100000 in
set_option maxHeartbeats 2000000 in
theorem put_any (v : Int) (w : World) (h0 : -9223372036854775808 ≤ v) (h1 : v < 9223372036854775808) :
    Calls Try.prog 16 #[.int .i64 v] w fun e w' => e = .returned (.string (putInt v)) ∧ Below w.heap.size w w' := by
  obtain ⟨i0, hi, hz0, hz1, hz2⟩ := info_parts byteInfo
  obtain ⟨n, hn⟩ : ∃ n, n = lenZ v := ⟨_, rfl⟩
  have hb := lenZ_le v h0 h1
  rw [← hn] at hb
  obtain ⟨hn1, hn8⟩ := hb
  have HSZ := Lib.hid (size_any v w h0 h1)
  rw [← hn] at HSZ
  have HV := Lib.hid (show putInt v = strOf (putZ v n) by rw [putInt, hn])
  rw [HV.out]
  clear hn h0 h1
  go_enter Try.func16, Try.ntmps16
  go_wp2_with (first | (go_at_call 27; (with_reducible refine HSZ.out.mono ?_); rintro e w1 ⟨rfl, rfl⟩) | (at_make; refine wpList_make_full _ rfl _ _ 42 rfl w1.heap.size 5 i0 (.int .u8 0) 1 Try.underlying42 hi hz0 hz1 .i64 .i64 (n : Int) (n : Int) n rfl rfl rfl rfl (by rw [hz2]; omega) (by unfold maxLen; omega) (Nat.le_refl _) ?_; intro w2 hown2 hgr2; have HO2 := Lib.hid (own_made n hown2); have HG2 := Lib.hid hgr2; clear hown2 hgr2))
  have HB2 := Lib.hid ((Below.refl w1.heap.size w1).grown HG2.out (Nat.le_refl _) (fun _ e => by cases e))
  go_loopw [11] (fun i wr => ∃ k : Nat, k ≤ n ∧ i = .int .i64 (k : Int) ∧ (∃ l, Filled v n k l ∧ OwnB 5 wr w1.heap.size (.slice (some ⟨w1.heap.size, 0, none⟩) n n) l) ∧ Below w1.heap.size w1 wr) (fun i _ => n - (intOf i).toNat)
  case atStart => exact ⟨0, by omega, rfl, ⟨_, ⟨List.length_replicate, fun j h1 h2 => by omega⟩, HO2.out⟩, HB2.out⟩
  case round =>
    obtain ⟨k, hk, rfl, ⟨l, hfl, ho⟩, hb⟩ := hrel
    have HF := Lib.hid hfl
    have HO := Lib.hid ho
    have HB := Lib.hid hb
    by_cases hlt : k < n
    · have hd : decide ((k : Int) < (n : Int)) = true := by simp; omega
      have hc := own_cell ho hfl.1 (n - 1 - k) (by omega)
      have hf := own_free ho hfl.1 (n - 1 - k)
      have hq : 0 ≤ v / 2 ^ (8 * k) % 256 := by omega
      have HS := Lib.hid (own_set ho hfl.1 (n - 1 - k) (UInt8.ofNat (octZ v n (n - 1 - k))))
      clear hfl ho hb
      go_wp2_with fail
      go_roundw
      case rel =>
        rw [octZ_at v n k hlt]
        exact ⟨k + 1, by omega, by go_num, ⟨_, HF.out.step hlt, HS.out⟩, HB.out.setCell (Nat.le_refl _) _⟩
      case measure => simp [intOf]; omega
    · have ek : k = n := by omega
      subst ek
      have hd : decide ((k : Int) < (k : Int)) = false := by simp
      have hs := own_str ho
      have HL := Lib.hid hfl.done
      clear hfl ho hb
      go_wp2_with fail
      go_ret
      exact ⟨by rw [HL.out]; rfl, HB.out⟩
end Go.Proofs.Ytkamoenjbllhjaa
