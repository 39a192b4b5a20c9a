/-
  What is accepted is what is written, as lists of bytes. Nothing is claimed of the program here.
-/
import Derived.Test.YtgpockpfefjjkaaTcanon
namespace Go.Proofs.Ytgpockpfefjjkaa
open Go.RowKit

theorem u8at_list {b : ByteArray} {L : List UInt8} (h : b.data.toList = L) (i : Nat) : u8at b i = (L.getD i 0).toNat := by unfold u8at; rw [h]
theorem size_list {b : ByteArray} {L : List UInt8} (h : b.data.toList = L) : b.size = L.length := by rw [← h]; rfl
theorem data_extract (b : ByteArray) (i j : Nat) : (b.extract i j).data.toList = (b.data.toList.drop i).take (j - i) := by
  rw [ByteArray.data_extract, Array.toList_extract, List.extract_eq_take_drop]
theorem lst_ge {L : List UInt8} (k : Nat) (h : k + 1 ≤ L.length) : ∃ x r, L = x :: r ∧ k ≤ r.length := by
  cases L with
  | nil => exact absurd h (Nat.not_succ_le_zero _)
  | cons x r => exact ⟨x, r, rfl, by simpa using h⟩

/-- The header that was read is the one that is written. -/
theorem head_back {b : ByteArray} (h : rdErr b = 0) : b.data.toList = UInt8.ofNat (rdTag b) :: (lenO (rd b).2.2 ++ b.data.toList.drop (rd b).2.1) := by
  obtain ⟨h0, h1, h2, h3, h4⟩ := rd_cases h
  obtain ⟨L, hL⟩ : ∃ L, b.data.toList = L := ⟨_, rfl⟩
  have hu := u8at_list hL
  have hsz := size_list hL
  rw [h4, hL]
  unfold rdTag
  simp only
  revert h2 h3
  unfold lnAt
  by_cases c1 : b.size ≤ 1
  · rw [if_pos c1]; intro x; cases x
  · rw [if_neg c1]
    by_cases c2 : u8at b 1 < 128
    · rw [if_pos c2]
      intro _ h3
      simp only at h3 ⊢
      obtain ⟨x0, r0, rfl, g0⟩ := lst_ge (L := L) 1 (by omega)
      obtain ⟨x1, r1, rfl, g1⟩ := lst_ge (L := r0) 0 (by omega)
      have e0 : u8at b 0 = x0.toNat := hu 0
      have e1 : u8at b 1 = x1.toNat := hu 1
      rw [e1] at c2 ⊢
      rw [e0]
      have e2 : lenO x1.toNat = [x1] := by unfold lenO; rw [if_pos (lsz1 c2), UInt8.ofNat_toNat]
      rw [e2, UInt8.ofNat_toNat]
      rfl
    · rw [if_neg c2]
      by_cases c3 : u8at b 1 = 128 ∨ 131 < u8at b 1
      · rw [if_pos c3]; intro x; cases x
      · rw [if_neg c3]
        by_cases c4 : b.size < 1 + 1 + (u8at b 1 - 128)
        · rw [if_pos c4]; intro x; cases x
        · rw [if_neg c4]
          by_cases c5 : be b (1 + 1) (u8at b 1 - 128) < least (u8at b 1 - 128) ∨ 131072 < be b (1 + 1) (u8at b 1 - 128)
          · rw [if_pos c5]; intro x; cases x
          · rw [if_neg c5]
            intro _ h3
            simp only at h3 ⊢
            have hn := be_lt b (1 + 1) (u8at b 1 - 128)
            obtain ⟨k, hk⟩ : ∃ k, k = u8at b 1 - 128 := ⟨_, rfl⟩
            rw [← hk] at c4 c5 hn ⊢
            obtain ⟨x0, r0, rfl, g0⟩ := lst_ge (L := L) 1 (by omega)
            obtain ⟨x1, r1, rfl, g1⟩ := lst_ge (L := r0) 0 (by omega)
            have e0 : u8at b 0 = x0.toNat := hu 0
            have e1 : u8at b 1 = x1.toNat := hu 1
            have hl : r1.length + 2 = b.size := by rw [hsz]; rfl
            rw [e0, UInt8.ofNat_toNat]
            rcases (by omega : k = 1 ∨ k = 2 ∨ k = 3) with rfl | rfl | rfl
            · obtain ⟨x2, r2, rfl, g2⟩ := lst_ge (L := r1) 0 (by omega)
              have e2 : u8at b 2 = x2.toNat := hu 2
              have ev : be b (1 + 1) 1 = x2.toNat := by show 256 * 0 + u8at b 2 = _; omega
              rw [ev] at c5 hn ⊢
              rw [least_one] at c5
              have hz : lsz x2.toNat = 2 := lsz2 (by omega) (by omega)
              have e3 : lenO x2.toNat = [x1, x2] := by
                unfold lenO
                rw [if_neg (by omega), hz]
                show [UInt8.ofNat 129, UInt8.ofNat (x2.toNat / 256 ^ 0)] = _
                rw [show (129 : Nat) = x1.toNat by omega, Nat.pow_zero, Nat.div_one, UInt8.ofNat_toNat, UInt8.ofNat_toNat]
              rw [e3]
              rfl
            · obtain ⟨x2, r2, rfl, g2⟩ := lst_ge (L := r1) 1 (by omega)
              obtain ⟨x3, r3, rfl, g3⟩ := lst_ge (L := r2) 0 (by omega)
              have e2 : u8at b 2 = x2.toNat := hu 2
              have e3 : u8at b 3 = x3.toNat := hu 3
              have l2 := x2.toNat_lt
              have l3 := x3.toNat_lt
              obtain ⟨v, hv⟩ : ∃ v, v = be b (1 + 1) 2 := ⟨_, rfl⟩
              have ev : v = 256 * x2.toNat + x3.toNat := by rw [hv]; show 256 * (256 * 0 + u8at b 2) + u8at b 3 = _; omega
              rw [← hv] at c5 hn ⊢
              rw [least_two] at c5
              have hz : lsz v = 3 := lsz3 (by omega) (by omega)
              have e4 : lenO v = [x1, x2, x3] := by
                unfold lenO
                rw [if_neg (by omega), hz]
                show [UInt8.ofNat 130, UInt8.ofNat (v / 256 ^ 1), UInt8.ofNat (v / 256 ^ 0)] = _
                have q1 : UInt8.ofNat (v / 256 ^ 1) = x2 := by rw [← UInt8.toNat_inj]; simp; omega
                have q2 : UInt8.ofNat (v / 256 ^ 0) = x3 := by rw [← UInt8.toNat_inj]; simp; omega
                rw [show (130 : Nat) = x1.toNat by omega, UInt8.ofNat_toNat, q1, q2]
              rw [e4]
              rfl
            · obtain ⟨x2, r2, rfl, g2⟩ := lst_ge (L := r1) 2 (by omega)
              obtain ⟨x3, r3, rfl, g3⟩ := lst_ge (L := r2) 1 (by omega)
              obtain ⟨x4, r4, rfl, g4⟩ := lst_ge (L := r3) 0 (by omega)
              have e2 : u8at b 2 = x2.toNat := hu 2
              have e3 : u8at b 3 = x3.toNat := hu 3
              have e4 : u8at b 4 = x4.toNat := hu 4
              have l2 := x2.toNat_lt
              have l3 := x3.toNat_lt
              have l4 := x4.toNat_lt
              obtain ⟨v, hv⟩ : ∃ v, v = be b (1 + 1) 3 := ⟨_, rfl⟩
              have ev : v = 256 * (256 * x2.toNat + x3.toNat) + x4.toNat := by rw [hv]; show 256 * (256 * (256 * 0 + u8at b 2) + u8at b 3) + u8at b 4 = _; omega
              rw [← hv] at c5 hn ⊢
              rw [least_three] at c5
              have hz : lsz v = 4 := lsz4 (by omega)
              have e5 : lenO v = [x1, x2, x3, x4] := by
                unfold lenO
                rw [if_neg (by omega), hz]
                show [UInt8.ofNat 131, UInt8.ofNat (v / 256 ^ 2), UInt8.ofNat (v / 256 ^ 1), UInt8.ofNat (v / 256 ^ 0)] = _
                have q1 : UInt8.ofNat (v / 256 ^ 2) = x2 := by rw [← UInt8.toNat_inj]; simp; omega
                have q2 : UInt8.ofNat (v / 256 ^ 1) = x3 := by rw [← UInt8.toNat_inj]; simp; omega
                have q3 : UInt8.ofNat (v / 256 ^ 0) = x4 := by rw [← UInt8.toNat_inj]; simp; omega
                rw [show (131 : Nat) = x1.toNat by omega, UInt8.ofNat_toNat, q1, q2, q3]
              rw [e5]
              rfl
end Go.Proofs.Ytgpockpfefjjkaa
