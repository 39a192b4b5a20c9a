/-
  The contract of PutBits of prim.
-/
import Derived.Test.YtkamoenjbllhjaaPrbits3
import Derived.Test.YtkamoenjbllhjaaPown
namespace Go.Proofs.Ytkamoenjbllhjaa
open Go.RowKit

theorem own_one (w : World) (y : UInt8) : OwnB 5 (w.alloc (.cells #[.int .u8 ((y.toNat : Nat) : Int)] 5)) w.heap.size (.slice (some ⟨w.heap.size, 0, none⟩) 1 1) [y] :=
  ⟨rfl, .inr ⟨w.heap.size, 1, _, rfl, Nat.le_refl _, heap_alloc_new w _, Nat.le_refl _, by decide, rfl, rfl⟩⟩
theorem str_cons (y : UInt8) (b : ByteArray) : strOf [y] ++ b = strOf (y :: b.data.toList) := by
  apply ByteArray.ext
  rw [ByteArray.data_append]
  apply Array.ext'
  rw [Array.toList_append]
  rfl
theorem pbits_out {b : ByteArray} {u : Int} (h : u < 0 ∨ 7 < u) : putBitsVal b u = .tuple #[.string ⟨#[]⟩, .int .i64 1] := by
  have e : putBitsErr b u = 1 := by unfold putBitsErr; exact if_pos h
  unfold putBitsVal putBitsStr
  rw [e]; rfl
theorem pbits_bad {b : ByteArray} {u : Nat} (h : u ≤ 7) (k : unusedOk b u = false) : putBitsVal b (u : Int) = .tuple #[.string ⟨#[]⟩, .int .i64 7] := by
  have e : putBitsErr b (u : Int) = 7 := by unfold putBitsErr; rw [if_neg (by omega), Int.toNat_natCast]; exact if_pos k
  unfold putBitsVal putBitsStr
  rw [e]; rfl
theorem pbits_good {b : ByteArray} {y : UInt8} (h : y.toNat ≤ 7) (k : unusedOk b y.toNat = true) : putBitsVal b ((y.toNat : Nat) : Int) = .tuple #[.string (strOf [y] ++ b), .int .i64 0] := by
  have e : putBitsErr b ((y.toNat : Nat) : Int) = 0 := by unfold putBitsErr; rw [if_neg (by omega), Int.toNat_natCast]; exact if_neg (by rw [k]; decide)
  unfold putBitsVal putBitsStr
  rw [e, Int.toNat_natCast, UInt8.ofNat_toNat, str_cons]; rfl

set_option maxRecDepth 100000 in
set_option maxHeartbeats 1000000 in
theorem pbits_any (b : ByteArray) (u : Int) (w : World) (hs : b.size ≤ 1099511627776) :
    Calls Try.prog 20 #[.string b, .int .i64 u] w fun e w' => e = .returned (putBitsVal b u) ∧ Below w.heap.size w w' := by
  by_cases h0 : u < 0
  · rw [pbits_out (.inl h0)]
    have d0 : decide (u < 0) = true := by simpa using h0
    clear h0
    go_enter Try.func20, Try.ntmps20
    go_wp2_with fail
    go_ret2
    exact ⟨rfl, Below.refl _ _⟩
  · by_cases h7 : 7 < u
    · rw [pbits_out (.inr h7)]
      have d0 : decide (u < 0) = false := by simpa using h0
      have d7 : decide (7 < u) = true := by simpa using h7
      clear h0 h7
      go_enter Try.func20, Try.ntmps20
      go_wp2_with fail
      go_ret2
      exact ⟨rfl, Below.refl _ _⟩
    · obtain ⟨n, rfl⟩ : ∃ n : Nat, u = (n : Int) := ⟨u.toNat, by omega⟩
      have hn : n ≤ 7 := by omega
      obtain ⟨y, rfl⟩ : ∃ y : UInt8, n = y.toNat := ⟨UInt8.ofNat n, by simp; omega⟩
      have d7 : decide ((7 : Int) < ((y.toNat : Nat) : Int)) = false := by simp; omega
      have HU := Lib.hid (fun w => unused_any b y.toNat w hn hs)
      clear h0 h7
      cases hB : unusedOk b y.toNat with
      | false =>
        rw [pbits_bad hn hB]
        rw [hB] at HU
        clear hB
        go_enter Try.func20, Try.ntmps20
        go_wp2_with (go_at_call 28; (with_reducible refine (HU.out _).mono ?_); rintro e w1 ⟨rfl, rfl⟩)
        go_ret2
        exact ⟨rfl, Below.refl _ _⟩
      | true =>
        rw [pbits_good hn hB]
        rw [hB] at HU
        have hmod : ((y.toNat : Nat) : Int) % 256 = ((y.toNat : Nat) : Int) := by omega
        have hcv := own_str (own_one w y)
        have hsz : (strOf [y]).size = 1 := rfl
        clear hB
        go_enter Try.func20, Try.ntmps20
        go_wp2_with (go_at_call 28; (with_reducible refine (HU.out _).mono ?_); rintro e w1 ⟨rfl, rfl⟩)
        go_ret2
        exact ⟨rfl, belowNew _ _⟩
end Go.Proofs.Ytkamoenjbllhjaa
