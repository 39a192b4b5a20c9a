/-
  What is accepted is what is written: an element that is read depends on its own bytes alone, and is what Wrap writes for its parts; what Wrap writes is read. Nothing is claimed of the program here.
-/
import Derived.Test.YtgpockpfefjjkaaTwrap
import Derived.Test.YtgpockpfefjjkaaTcheck
namespace Go.Proofs.Ytgpockpfefjjkaa
open Go.RowKit

theorem be_congr {b p : ByteArray} (o k : Nat) (h : ∀ i, i < k → u8at b (o + i) = u8at p (o + i)) : be b o k = be p o k := by
  induction k with
  | zero => rfl
  | succ k ih => simp only [be]; rw [ih (fun i hi => h i (by omega)), h k (by omega)]
theorem lnAt_pre {b p : ByteArray} (h : (lnAt p 1).2.2 = 0) (hs : p.size ≤ b.size) (hu : ∀ i, i < p.size → u8at b i = u8at p i) : lnAt b 1 = lnAt p 1 := by
  revert h
  unfold lnAt
  by_cases h1 : p.size ≤ 1
  · rw [if_pos h1]; intro h; cases h
  · rw [if_neg h1, if_neg (show ¬ b.size ≤ 1 by omega), hu 1 (by omega)]
    by_cases h2 : u8at p 1 < 128
    · rw [if_pos h2, if_pos h2]; intro _; rfl
    · rw [if_neg h2, if_neg h2]
      by_cases h3 : u8at p 1 = 128 ∨ 131 < u8at p 1
      · rw [if_pos h3]; intro h; cases h
      · rw [if_neg h3, if_neg h3]
        by_cases h4 : p.size < 1 + 1 + (u8at p 1 - 128)
        · rw [if_pos h4]; intro h; cases h
        · rw [if_neg h4, if_neg (show ¬ b.size < 1 + 1 + (u8at p 1 - 128) by omega), be_congr (b := b) (p := p) (1 + 1) (u8at p 1 - 128) (fun i hi => hu _ (by omega))]
          intro _; rfl
theorem rd_cases {b : ByteArray} (h : rdErr b = 0) : b.size ≠ 0 ∧ u8at b 0 % 32 ≠ 31 ∧ (lnAt b 1).2.2 = 0 ∧ 1 + (lnAt b 1).2.1 + (lnAt b 1).1 ≤ b.size ∧ rd b = (0, 1 + (lnAt b 1).2.1, (lnAt b 1).1) := by
  unfold rdErr rd at h
  unfold rd
  by_cases h0 : b.size = 0
  · rw [if_pos h0] at h; cases h
  · rw [if_neg h0] at h ⊢
    by_cases h1 : u8at b 0 % 32 = 31
    · rw [if_pos h1] at h; cases h
    · rw [if_neg h1] at h ⊢
      by_cases h2 : (lnAt b 1).2.2 = 0
      · rw [if_neg (fun x => x h2)] at h ⊢
        by_cases h3 : b.size < 1 + (lnAt b 1).2.1 + (lnAt b 1).1
        · rw [if_pos h3] at h; cases h
        · rw [if_neg h3]
          exact ⟨h0, h1, h2, by omega, rfl⟩
      · rw [if_pos h2] at h; exact absurd h h2
theorem rd_mk {b : ByteArray} (h0 : b.size ≠ 0) (h1 : u8at b 0 % 32 ≠ 31) (h2 : (lnAt b 1).2.2 = 0) (h3 : 1 + (lnAt b 1).2.1 + (lnAt b 1).1 ≤ b.size) : rd b = (0, 1 + (lnAt b 1).2.1, (lnAt b 1).1) := by
  unfold rd
  rw [if_neg h0, if_neg h1, if_neg (fun x => x h2), if_neg (by omega)]
theorem rd_pre {b p : ByteArray} (h : rdErr p = 0) (hs : p.size ≤ b.size) (hu : ∀ i, i < p.size → u8at b i = u8at p i) : rd b = rd p := by
  obtain ⟨h0, h1, h2, h3, h4⟩ := rd_cases h
  have e := lnAt_pre h2 hs hu
  rw [h4, ← e]
  exact rd_mk (by omega) (by rw [hu 0 (by omega)]; exact h1) (by rw [e]; exact h2) (by rw [e]; omega)
theorem oneErr_size {b : ByteArray} (h : oneErr b = 0) : (rd b).2.1 + (rd b).2.2 = b.size := by
  have h1 := oneErr_rd h
  obtain ⟨_, _, h2, _, _⟩ := rd_ok h1
  unfold oneErr at h
  rw [if_neg (fun x => x h1)] at h
  by_cases h3 : (rdRest b).size = 0
  · unfold rdRest at h3
    rw [ByteArray.size_extract] at h3
    omega
  · rw [if_pos h3] at h; cases h
theorem u8at_take (b : ByteArray) (j i : Nat) (h : i < j) : u8at (b.extract 0 j) i = u8at b i := by
  unfold u8at
  congr 1
  rw [List.getD_eq_getElem?_getD, List.getD_eq_getElem?_getD]
  congr 1
  rw [ByteArray.data_extract, Array.toList_extract, List.extract_eq_take_drop, List.getElem?_take, if_pos (by omega), List.getElem?_drop, Nat.zero_add]
/-- No element is a proper beginning of another one. -/
theorem no_prefix {b : ByteArray} {j : Nat} (hj : j < b.size) (h : oneErr b = 0) : oneErr (b.extract 0 j) ≠ 0 := by
  intro h1
  have hs : (b.extract 0 j).size = j := by rw [ByteArray.size_extract]; omega
  have e := rd_pre (oneErr_rd h1) (by omega : (b.extract 0 j).size ≤ b.size) (fun i hi => (u8at_take b j i (by omega)).symm)
  have h2 := oneErr_size h
  have h3 := oneErr_size h1
  rw [← e, hs] at h3
  omega
end Go.Proofs.Ytgpockpfefjjkaa
