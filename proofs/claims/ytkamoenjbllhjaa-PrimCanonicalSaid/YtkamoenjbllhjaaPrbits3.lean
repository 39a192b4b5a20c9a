/-
  The contract of the reference's Bits.
-/
import Derived.Test.YtkamoenjbllhjaaPbits3
namespace Go.Proofs.Ytkamoenjbllhjaa
open Go.RowKit

theorem u8at_tail (b : ByteArray) (i : Nat) : u8at (b.extract 1 b.size) i = u8at b (1 + i) := by
  unfold u8at
  congr 1
  rw [List.getD_eq_getElem?_getD, List.getD_eq_getElem?_getD]
  congr 1
  rw [ByteArray.data_extract, Array.toList_extract, List.extract_eq_take_drop, List.getElem?_take, List.getElem?_drop]
  split
  · rfl
  · rw [List.getElem?_eq_none]
    show b.size ≤ _
    omega
theorem tail_size (b : ByteArray) : (b.extract 1 b.size).size = b.size - 1 := by rw [ByteArray.size_extract]; omega
theorem unusedOk_tail {c : ByteArray} {x : Nat} (h : x ≠ 0) (hs : 2 ≤ c.size) : unusedOk (c.extract 1 c.size) x = decide (u8at c (c.size - 1) % 2 ^ x = 0) := by
  rw [unusedOk_some h (by rw [tail_size]; omega), tail_size, u8at_tail, show 1 + (c.size - 1 - 1) = c.size - 1 by omega]
theorem unusedOk_one {c : ByteArray} {x : Nat} (h : x ≠ 0) (hs : c.size = 1) : unusedOk (c.extract 1 c.size) x = false := by
  have e : c.extract 1 c.size = ⟨#[]⟩ := empty_of_size (by rw [tail_size]; omega)
  rw [e, unusedOk_empty h]

set_option maxRecDepth 100000 in
set_option maxHeartbeats 4000000 in
theorem rbits_any (c : ByteArray) (w : World) (hs : c.size ≤ 1099511627776) :
    Calls Try.prog 19 #[.string c] w fun e w' => e = .returned (bitsVal c) ∧ Below w.heap.size w w' := by
  by_cases h0 : c.size = 0
  · rw [bits_bad (.inl h0)]
    obtain rfl := empty_of_size h0
    clear h0 hs
    go_enter Try.func19, Try.ntmps19
    go_wp2_with fail
    go_quiet (fail)
    go_wp2_with fail
    refine bodyPost_ret (results_tmp3 rfl _ _ _) rfl ?_
    exact ⟨rfl, Below.drawn (Below.refl _ _) _⟩
  · have x0 := fun w => run_index_u8 (P := Try.prog) Try.underlying9 c 0 (by omega) (0 : Int) rfl w
    have e0 : ((c.size : Int) == 0) = false := beq_eq_false_iff_ne.2 (by omega)
    have h0' : 1 ≤ c.size := by omega
    have dsz : decide ((c.size : Int) < 1) = false := by simp; omega
    obtain ⟨x, hx⟩ : ∃ x, x = u8at c 0 := ⟨_, rfl⟩
    have hxl : x < 256 := by rw [hx]; exact u8at_lt c 0
    rw [← hx] at x0
    by_cases h7 : 7 < x
    · rw [bits_bad (.inr (.inl (by rw [← hx]; exact h7)))]
      have d7 : decide ((7 : Int) < (x : Int)) = true := by simp; omega
      clear h0 hx h7
      go_enter Try.func19, Try.ntmps19
      go_wp2_with fail
      go_quiet (fail)
      go_wp2_with fail
      refine bodyPost_ret (results_tmp3 rfl _ _ _) rfl ?_
      exact ⟨rfl, Below.drawn (Below.refl _ _) _⟩
    · have d7 : decide ((7 : Int) < (x : Int)) = false := by simp; omega
      by_cases hz : x = 0
      · subst hz
        rw [bits_good h0 (by rw [← hx]; exact h7) (by rw [← hx]; exact unusedOk_zero _), ← hx]
        clear h0 hx h7 d7
        go_enter Try.func19, Try.ntmps19
        go_wp2_with fail
        go_quiet (fail)
        go_wp2_with fail
        go_region
        go_wp2_with fail
        refine bodyPost_ret (results_tmp3 rfl _ _ _) rfl ?_
        exact ⟨rfl, (Below.drawn (Below.refl _ _) _).drew⟩
      · have dz : decide ((0 : Int) < (x : Int)) = true := by simp; omega
        by_cases h1 : c.size = 1
        · rw [bits_bad (.inr (.inr (by rw [← hx]; exact unusedOk_one hz h1)))]
          have e1 : ((c.size : Int) == 1) = true := beq_iff_eq.2 (by omega)
          have dn : decide (0 < x) = true := by simp; omega
          clear h0 hx h7 h1
          go_enter Try.func19, Try.ntmps19
          go_wp2_with fail
          go_quiet (fail)
          go_wp2_with fail
          refine bodyPost_ret (results_tmp3 rfl _ _ _) rfl ?_
          exact ⟨rfl, Below.drawn (Below.refl _ _) _⟩
        · have e1 : ((c.size : Int) == 1) = false := beq_eq_false_iff_ne.2 (by omega)
          have hu := unusedOk_tail (c := c) hz (by omega)
          have xl := last_u8 c h0
          obtain ⟨y, hy⟩ : ∃ y, y = u8at c (c.size - 1) := ⟨_, rfl⟩
          have hyl : y < 256 := by rw [hy]; exact u8at_lt c _
          rw [← hy] at xl hu
          by_cases hm : y % 2 ^ x = 0
          · rw [decide_eq_true hm] at hu
            rw [bits_good h0 (by rw [← hx]; exact h7) (by rw [← hx]; exact hu), ← hx]
            clear hx h0 hu hy
            rcases (by omega : x = 1 ∨ x = 2 ∨ x = 3 ∨ x = 4 ∨ x = 5 ∨ x = 6 ∨ x = 7) with rfl | rfl | rfl | rfl | rfl | rfl | rfl
            · have em : ((y : Int) % 2 != 0) = false := by simp; omega
              clear hm hz h7
              go_enter Try.func19, Try.ntmps19
              go_wp2_with fail
              go_quiet (fail)
              go_wp2_with fail
              go_region
              go_wp2_with fail
              refine bodyPost_ret (results_tmp3 rfl _ _ _) rfl ?_
              exact ⟨rfl, (Below.drawn (Below.refl _ _) _).drew⟩
            · have em : ((y : Int) % 4 != 0) = false := by simp; omega
              clear hm hz h7
              go_enter Try.func19, Try.ntmps19
              go_wp2_with fail
              go_quiet (fail)
              go_wp2_with fail
              go_region
              go_wp2_with fail
              refine bodyPost_ret (results_tmp3 rfl _ _ _) rfl ?_
              exact ⟨rfl, (Below.drawn (Below.refl _ _) _).drew⟩
            · have em : ((y : Int) % 8 != 0) = false := by simp; omega
              clear hm hz h7
              go_enter Try.func19, Try.ntmps19
              go_wp2_with fail
              go_quiet (fail)
              go_wp2_with fail
              go_region
              go_wp2_with fail
              refine bodyPost_ret (results_tmp3 rfl _ _ _) rfl ?_
              exact ⟨rfl, (Below.drawn (Below.refl _ _) _).drew⟩
            · have em : ((y : Int) % 16 != 0) = false := by simp; omega
              clear hm hz h7
              go_enter Try.func19, Try.ntmps19
              go_wp2_with fail
              go_quiet (fail)
              go_wp2_with fail
              go_region
              go_wp2_with fail
              refine bodyPost_ret (results_tmp3 rfl _ _ _) rfl ?_
              exact ⟨rfl, (Below.drawn (Below.refl _ _) _).drew⟩
            · have em : ((y : Int) % 32 != 0) = false := by simp; omega
              clear hm hz h7
              go_enter Try.func19, Try.ntmps19
              go_wp2_with fail
              go_quiet (fail)
              go_wp2_with fail
              go_region
              go_wp2_with fail
              refine bodyPost_ret (results_tmp3 rfl _ _ _) rfl ?_
              exact ⟨rfl, (Below.drawn (Below.refl _ _) _).drew⟩
            · have em : ((y : Int) % 64 != 0) = false := by simp; omega
              clear hm hz h7
              go_enter Try.func19, Try.ntmps19
              go_wp2_with fail
              go_quiet (fail)
              go_wp2_with fail
              go_region
              go_wp2_with fail
              refine bodyPost_ret (results_tmp3 rfl _ _ _) rfl ?_
              exact ⟨rfl, (Below.drawn (Below.refl _ _) _).drew⟩
            · have em : ((y : Int) % 128 != 0) = false := by simp; omega
              clear hm hz h7
              go_enter Try.func19, Try.ntmps19
              go_wp2_with fail
              go_quiet (fail)
              go_wp2_with fail
              go_region
              go_wp2_with fail
              refine bodyPost_ret (results_tmp3 rfl _ _ _) rfl ?_
              exact ⟨rfl, (Below.drawn (Below.refl _ _) _).drew⟩
          · rw [decide_eq_false hm] at hu
            rw [bits_bad (.inr (.inr (by rw [← hx]; exact hu)))]
            clear hx h0 hu hy
            rcases (by omega : x = 1 ∨ x = 2 ∨ x = 3 ∨ x = 4 ∨ x = 5 ∨ x = 6 ∨ x = 7) with rfl | rfl | rfl | rfl | rfl | rfl | rfl
            · have em : ((y : Int) % 2 != 0) = true := by simp; omega
              clear hm hz h7
              go_enter Try.func19, Try.ntmps19
              go_wp2_with fail
              go_quiet (fail)
              go_wp2_with fail
              refine bodyPost_ret (results_tmp3 rfl _ _ _) rfl ?_
              exact ⟨rfl, Below.drawn (Below.refl _ _) _⟩
            · have em : ((y : Int) % 4 != 0) = true := by simp; omega
              clear hm hz h7
              go_enter Try.func19, Try.ntmps19
              go_wp2_with fail
              go_quiet (fail)
              go_wp2_with fail
              refine bodyPost_ret (results_tmp3 rfl _ _ _) rfl ?_
              exact ⟨rfl, Below.drawn (Below.refl _ _) _⟩
            · have em : ((y : Int) % 8 != 0) = true := by simp; omega
              clear hm hz h7
              go_enter Try.func19, Try.ntmps19
              go_wp2_with fail
              go_quiet (fail)
              go_wp2_with fail
              refine bodyPost_ret (results_tmp3 rfl _ _ _) rfl ?_
              exact ⟨rfl, Below.drawn (Below.refl _ _) _⟩
            · have em : ((y : Int) % 16 != 0) = true := by simp; omega
              clear hm hz h7
              go_enter Try.func19, Try.ntmps19
              go_wp2_with fail
              go_quiet (fail)
              go_wp2_with fail
              refine bodyPost_ret (results_tmp3 rfl _ _ _) rfl ?_
              exact ⟨rfl, Below.drawn (Below.refl _ _) _⟩
            · have em : ((y : Int) % 32 != 0) = true := by simp; omega
              clear hm hz h7
              go_enter Try.func19, Try.ntmps19
              go_wp2_with fail
              go_quiet (fail)
              go_wp2_with fail
              refine bodyPost_ret (results_tmp3 rfl _ _ _) rfl ?_
              exact ⟨rfl, Below.drawn (Below.refl _ _) _⟩
            · have em : ((y : Int) % 64 != 0) = true := by simp; omega
              clear hm hz h7
              go_enter Try.func19, Try.ntmps19
              go_wp2_with fail
              go_quiet (fail)
              go_wp2_with fail
              refine bodyPost_ret (results_tmp3 rfl _ _ _) rfl ?_
              exact ⟨rfl, Below.drawn (Below.refl _ _) _⟩
            · have em : ((y : Int) % 128 != 0) = true := by simp; omega
              clear hm hz h7
              go_enter Try.func19, Try.ntmps19
              go_wp2_with fail
              go_quiet (fail)
              go_wp2_with fail
              refine bodyPost_ret (results_tmp3 rfl _ _ _) rfl ?_
              exact ⟨rfl, Below.drawn (Below.refl _ _) _⟩
end Go.Proofs.Ytkamoenjbllhjaa
