/-
  The contract of the reference's Read, put together: the same answer as that of tlv.Read.
-/
import Derived.Test.YtgpockpfefjjkaaTrread
namespace Go.Proofs.Ytgpockpfefjjkaa
open Go.RowKit

theorem rdVal_err {b : ByteArray} {x : Nat} (h : rd b = (x, 0, 0)) (hx : x ≠ 0) : rdVal b = .tuple #[noEl, .string ⟨#[]⟩, .int .i64 (x : Nat)] := by
  unfold rdVal rdErr
  rw [h]
  exact if_neg hx
theorem rdVal_ok {b : ByteArray} {a n : Nat} (h : rd b = (0, a, n)) : rdVal b = .tuple #[elV (u8at b 0) (b.extract a (a + n)) (b.extract 0 (a + n)), .string (b.extract (a + n) b.size), .int .i64 0] := by
  unfold rdVal rdErr rdContent rdRaw rdRest rdTag
  rw [h]
  exact if_pos rfl

theorem rread_any (b : ByteArray) (w : World) (hs : b.size ≤ 1099511627776) :
    Calls Try.prog 27 #[.string b] w fun e w' => e = .returned (rdVal b) ∧ Below w.heap.size w w' := by
  by_cases h0 : b.size = 0
  · have e : b = ⟨#[]⟩ := by
      apply ByteArray.ext
      exact Array.eq_empty_of_size_eq_zero h0
    subst e
    exact rread_empty w
  · by_cases h1 : u8at b 0 % 32 = 31
    · have hrd : rd b = (5, 0, 0) := by unfold rd; rw [if_neg h0, if_pos h1]
      rw [rdVal_err hrd (by decide)]
      exact rread_tag b w h0 _ rfl h1
    · have hrd := show rd b = _ from by unfold rd; rw [if_neg h0, if_neg h1]
      unfold lnAt at hrd
      by_cases h2 : b.size ≤ 1
      · rw [if_pos h2] at hrd
        rw [rdVal_err hrd (by decide)]
        exact rread_one b w (by omega) _ rfl h1
      · rw [if_neg h2] at hrd
        by_cases h3 : u8at b 1 < 128
        · rw [if_pos h3] at hrd
          refine rread_short b w hs (by omega) _ rfl h1 _ rfl h3 _ ?_
          by_cases h4 : b.size < 2 + u8at b 1
          · rw [if_pos h4]
            refine rdVal_err (x := 3) ?_ (by decide)
            rw [hrd]
            simp only [ne_eq, not_true_eq_false, if_false, Nat.reduceAdd]
            rw [if_pos h4]
          · rw [if_neg h4]
            refine rdVal_ok (a := 2) (n := u8at b 1) ?_
            rw [hrd]
            simp only [ne_eq, not_true_eq_false, if_false, Nat.reduceAdd]
            rw [if_neg h4]
        · rw [if_neg h3] at hrd
          by_cases h4 : u8at b 1 = 128 ∨ 131 < u8at b 1
          · rw [if_pos h4] at hrd
            rw [rdVal_err (x := 6) (by rw [hrd]; rfl) (by decide)]
            exact rread_form b w (by omega) _ rfl h1 _ rfl h4
          · rw [if_neg h4] at hrd
            have h5 := u8at_lt b 1
            obtain ⟨k, hk⟩ : ∃ k, u8at b 1 = 128 + k := ⟨u8at b 1 - 128, by omega⟩
            have ek : u8at b 1 - 128 = k := by omega
            rw [ek] at hrd
            by_cases h6 : b.size < 1 + 1 + k
            · rw [if_pos h6] at hrd
              rw [rdVal_err (x := 3) (by rw [hrd]; rfl) (by decide)]
              exact rread_more b w hs (by omega) _ rfl h1 k hk (by omega) (by omega) (by omega)
            · rw [if_neg h6] at hrd
              refine rread_long b w hs (by omega) _ rfl h1 k hk (by omega) (by omega) (by omega) _ rfl _ ?_
              by_cases h7 : be b (1 + 1) k < least k ∨ 131072 < be b (1 + 1) k
              · rw [if_pos h7] at hrd
                rw [if_pos h7]
                exact rdVal_err (x := 6) (by rw [hrd]; rfl) (by decide)
              · rw [if_neg h7] at hrd
                rw [if_neg h7]
                have e : 1 + (1 + k) = 2 + k := by omega
                simp only [ne_eq, not_true_eq_false, if_false, Nat.reduceAdd, e] at hrd
                by_cases h8 : b.size < 2 + k + be b 2 k
                · rw [if_pos h8] at hrd
                  rw [if_pos h8]
                  exact rdVal_err hrd (by decide)
                · rw [if_neg h8] at hrd
                  rw [if_neg h8]
                  exact rdVal_ok hrd
end Go.Proofs.Ytgpockpfefjjkaa
