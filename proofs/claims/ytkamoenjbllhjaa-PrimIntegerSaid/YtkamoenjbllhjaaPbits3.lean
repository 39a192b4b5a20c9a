/-
  The contract of Bits of prim.
-/
import Derived.Test.YtkamoenjbllhjaaPunused
namespace Go.Proofs.Ytkamoenjbllhjaa
open Go.RowKit

theorem bits_bad {c : ByteArray} (h : c.size = 0 ∨ 7 < u8at c 0 ∨ unusedOk (c.extract 1 c.size) (u8at c 0) = false) : bitsVal c = .tuple #[.string ⟨#[]⟩, .int .i64 0, .int .i64 7] := by
  have e : bitsErr c = 7 := by unfold bitsErr; exact if_pos h
  unfold bitsVal bitsStr bitsNum
  rw [e]; rfl
theorem bits_good {c : ByteArray} (h0 : c.size ≠ 0) (h1 : ¬ 7 < u8at c 0) (h2 : unusedOk (c.extract 1 c.size) (u8at c 0) = true) : bitsVal c = .tuple #[.string (c.extract 1 c.size), .int .i64 ((u8at c 0 : Nat) : Int), .int .i64 0] := by
  have e : bitsErr c = 0 := by
    unfold bitsErr
    refine if_neg fun h => ?_
    rcases h with h | h | h
    · exact h0 h
    · exact h1 h
    · rw [h2] at h; cases h
  unfold bitsVal bitsStr bitsNum
  rw [e]; rfl
set_option maxRecDepth 100000 in
set_option maxHeartbeats 1000000 in
theorem bits_any (c : ByteArray) (w : World) (hs : c.size ≤ 1099511627776) :
    Calls Try.prog 18 #[.string c] w fun e w' => e = .returned (bitsVal c) ∧ Below w.heap.size w w' := by
  by_cases h0 : c.size = 0
  · rw [bits_bad (.inl h0)]
    obtain rfl := empty_of_size h0
    clear h0 hs
    go_enter Try.func18, Try.ntmps18
    go_wp2_with fail
    refine bodyPost_ret (results_tmp3 rfl _ _ _) rfl ?_
    exact ⟨rfl, Below.refl _ _⟩
  · have he := nonempty_list h0
    have x0 := fun w => run_index_u8 (P := Try.prog) Try.underlying9 c 0 (by omega) (0 : Int) rfl w
    have h0' : 1 ≤ c.size := by omega
    have dsz : decide ((c.size : Int) < 1) = false := by simp; omega
    obtain ⟨x, hx⟩ : ∃ x, x = u8at c 0 := ⟨_, rfl⟩
    have hxl : x < 256 := by rw [hx]; exact u8at_lt c 0
    rw [← hx] at x0
    by_cases h7 : 7 < x
    · rw [bits_bad (.inr (.inl (by rw [← hx]; exact h7)))]
      have d7 : decide ((7 : Int) < (x : Int)) = true := by simp; omega
      clear h0 hx h7
      go_enter Try.func18, Try.ntmps18
      go_wp2_with fail
      go_region
      go_wp2_with fail
      refine bodyPost_ret (results_tmp3 rfl _ _ _) rfl ?_
      exact ⟨rfl, (Below.refl _ _).drew⟩
    · have d7 : decide ((7 : Int) < (x : Int)) = false := by simp; omega
      have hes : (c.extract 1 c.size).size ≤ 1099511627776 := by rw [ByteArray.size_extract]; omega
      have HU := Lib.hid (fun w => unused_any (c.extract 1 c.size) x w (by omega) hes)
      cases hB : unusedOk (c.extract 1 c.size) x with
      | false =>
        rw [bits_bad (.inr (.inr (by rw [← hx]; exact hB)))]
        rw [hB] at HU
        clear h0 hx h7 hB hes
        go_enter Try.func18, Try.ntmps18
        go_wp2_with fail
        go_region
        go_wp2_with (go_at_call 28; (with_reducible refine (HU.out _).mono ?_); rintro e w1 ⟨rfl, rfl⟩)
        refine bodyPost_ret (results_tmp3 rfl _ _ _) rfl ?_
        exact ⟨rfl, (Below.refl _ _).drew⟩
      | true =>
        rw [bits_good h0 (by rw [← hx]; exact h7) (by rw [← hx]; exact hB), ← hx]
        rw [hB] at HU
        clear h0 hx h7 hB hes
        go_enter Try.func18, Try.ntmps18
        go_wp2_with fail
        go_region
        go_wp2_with (go_at_call 28; (with_reducible refine (HU.out _).mono ?_); rintro e w1 ⟨rfl, rfl⟩)
        refine bodyPost_ret (results_tmp3 rfl _ _ _) rfl ?_
        exact ⟨rfl, (Below.refl _ _).drew⟩
end Go.Proofs.Ytkamoenjbllhjaa
