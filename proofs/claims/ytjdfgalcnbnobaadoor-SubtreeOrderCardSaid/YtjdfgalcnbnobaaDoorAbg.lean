/-
  Ranges said by bytes: the mask is well-formed, and the first half keeps what the mask keeps. Nothing is claimed of the program here.
-/
import Derived.Test.YtjdfgalcnbnobaaDoorAbf
namespace Go.Proofs.YtjdfgalcnbnobaaDoor
open Go.RowKit

def cb (c : UInt8) (j : Nat) : Bool := decide (c.toNat / 2 ^ (7 - j) % 2 = 1)
def lb (M : List UInt8) (i : Nat) : Bool := cb (M.getD (i / 8) 0) (i % 8)
theorem cb_test (c : UInt8) (j : Nat) : cb c j = c.toNat.testBit (7 - j) := by
  unfold cb
  rw [Nat.testBit_eq_decide_div_mod_eq]
theorem and_iff (a m : UInt8) : a &&& m = a ↔ ∀ j, j < 8 → cb m j = false → cb a j = false := by
  constructor
  · intro h j hj hm
    rw [cb_test] at hm ⊢
    rw [← h, UInt8.toNat_and, Nat.testBit_and, hm, Bool.and_false]
  · intro h
    rw [← UInt8.toNat_inj, UInt8.toNat_and]
    refine Nat.eq_of_testBit_eq fun i => ?_
    rw [Nat.testBit_and]
    by_cases hi : i < 8
    · have := h (7 - i) (by omega)
      rw [cb_test, cb_test, show 7 - (7 - i) = i by omega] at this
      cases hm : m.toNat.testBit i with
      | true => rw [Bool.and_true]
      | false => rw [this hm, Bool.false_and]
    · rw [Nat.testBit_lt_two_pow (Nat.lt_of_lt_of_le a.toNat_lt (Nat.pow_le_pow_right (n := 2) (by decide) (show 8 ≤ i by omega))), Bool.false_and]
theorem mskd_iff (S M : List UInt8) : mskd S M = S ↔ ∀ q, q < S.length → S.getD q 0 &&& M.getD q 0 = S.getD q 0 := by
  have hl : (mskd S M).length = S.length := by unfold mskd; rw [List.length_map, List.length_range]
  have hg : ∀ q, q < S.length → (mskd S M).getD q 0 = S.getD q 0 &&& M.getD q 0 := fun q hq => by
    unfold mskd
    rw [List.getD_eq_getElem?_getD, List.getElem?_map, List.getElem?_range hq]
    rfl
  constructor
  · intro h q hq
    rw [← hg q hq, h]
  · intro h
    exact list_ext hl fun q hq => by
      rw [hl] at hq
      rw [hg q hq, h q hq]
theorem mskd_eq (S M T : List UInt8) (ht : T.length = S.length) : mskd S M = T ↔ ∀ q, q < S.length → S.getD q 0 &&& M.getD q 0 = T.getD q 0 := by
  have hl : (mskd S M).length = S.length := by unfold mskd; rw [List.length_map, List.length_range]
  have hg : ∀ q, q < S.length → (mskd S M).getD q 0 = S.getD q 0 &&& M.getD q 0 := fun q hq => by
    unfold mskd
    rw [List.getD_eq_getElem?_getD, List.getElem?_map, List.getElem?_range hq]
    rfl
  constructor
  · intro h q hq
    rw [← hg q hq, h]
  · intro h
    exact list_ext (by rw [hl, ht]) fun q hq => by
      rw [hl] at hq
      rw [hg q hq, h q hq]
theorem ok_tab : ∀ x : Nat, x < 256 → (decide ((255 ^^^ x) &&& ((255 ^^^ x) + 1) % 256 = 0) = (List.range 8).all fun i => !decide (x / 2 ^ (7 - i) % 2 = 1) || (List.range i).all fun j => decide (x / 2 ^ (7 - j) % 2 = 1)) := by decide +kernel
theorem full_tab : ∀ x : Nat, x < 256 → (decide (x = 255) = (List.range 8).all fun j => decide (x / 2 ^ (7 - j) % 2 = 1)) := by decide +kernel
theorem zero_tab : ∀ x : Nat, x < 256 → (decide (x = 0) = (List.range 8).all fun j => !decide (x / 2 ^ (7 - j) % 2 = 1)) := by decide +kernel
theorem byteOk_iff (c : UInt8) : byteOk c = true ↔ ∀ i, i < 8 → cb c i = true → ∀ j, j < i → cb c j = true := by
  unfold byteOk
  rw [ok_tab c.toNat c.toNat_lt, List.all_eq_true]
  constructor
  · intro h i hi hc j hj
    have := h i (List.mem_range.2 hi)
    unfold cb at hc
    rw [hc, Bool.not_true, Bool.false_or, List.all_eq_true] at this
    exact this j (List.mem_range.2 hj)
  · intro h i hi
    have h := h i (List.mem_range.1 hi)
    unfold cb at h
    cases hc : decide (c.toNat / 2 ^ (7 - i) % 2 = 1) with
    | false => rfl
    | true =>
      rw [Bool.not_true, Bool.false_or, List.all_eq_true]
      exact fun j hj => h hc j (List.mem_range.1 hj)
theorem full_iff (c : UInt8) : c = 255 ↔ ∀ j, j < 8 → cb c j = true := by
  have h := full_tab c.toNat c.toNat_lt
  rw [← UInt8.toNat_inj]
  show c.toNat = 255 ↔ _
  rw [← decide_eq_true_iff (p := c.toNat = 255), h, List.all_eq_true]
  exact ⟨fun h j hj => h j (List.mem_range.2 hj), fun h j hj => h j (List.mem_range.1 hj)⟩
theorem zero_iff (c : UInt8) : c = 0 ↔ ∀ j, j < 8 → cb c j = false := by
  have h := zero_tab c.toNat c.toNat_lt
  rw [← UInt8.toNat_inj]
  show c.toNat = 0 ↔ _
  rw [← decide_eq_true_iff (p := c.toNat = 0), h, List.all_eq_true]
  constructor
  · intro h j hj
    have := h j (List.mem_range.2 hj)
    unfold cb
    simpa using this
  · intro h j hj
    have := h j (List.mem_range.1 hj)
    unfold cb at this
    rw [this]; rfl
theorem lb_head (c : UInt8) (r : List UInt8) {i : Nat} (h : i < 8) : lb (c :: r) i = cb c i := by
  unfold lb
  rw [show i / 8 = 0 by omega, show i % 8 = i by omega]
  rfl
theorem lb_tail (c : UInt8) (r : List UInt8) (i : Nat) : lb (c :: r) (8 + i) = lb r i := by
  unfold lb
  rw [show (8 + i) / 8 = i / 8 + 1 by omega, show (8 + i) % 8 = i % 8 by omega]
  rfl
theorem mask_iff : ∀ (M : List UInt8) (ones : Bool), maskOk ones M = true ↔ ∀ i, i < 8 * M.length → lb M i = true → ones = true ∧ ∀ j, j < i → lb M j = true
  | [], _ => ⟨fun _ i hi => absurd hi (by simp), fun _ => rfl⟩
  | c :: r, ones => by
    rw [maskOk, Bool.and_eq_true, Bool.and_eq_true, Bool.or_eq_true, byteOk_iff, mask_iff r, decide_eq_true_iff, decide_eq_true_iff]
    constructor
    · rintro ⟨⟨h1, h2⟩, h3⟩ i hi hb
      by_cases h : i < 8
      · rw [lb_head c r h] at hb
        refine ⟨?_, fun j hj => by rw [lb_head c r (by omega)]; exact h1 i h hb j hj⟩
        rcases h2 with h2 | h2
        · exact h2
        · have := (zero_iff c).1 h2 i h
          rw [hb] at this
          cases this
      · obtain ⟨k, rfl⟩ : ∃ k, i = 8 + k := ⟨i - 8, by omega⟩
        rw [lb_tail] at hb
        rw [List.length_cons] at hi
        obtain ⟨g1, g2⟩ := h3 k (by omega) hb
        refine ⟨?_, fun j hj => ?_⟩
        · rcases h2 with h2 | h2
          · exact h2
          · rw [g1] at h2; exact absurd h2 (by decide)
        · by_cases hj8 : j < 8
          · rw [lb_head c r hj8]
            exact (full_iff c).1 g1 j hj8
          · obtain ⟨m, rfl⟩ : ∃ m, j = 8 + m := ⟨j - 8, by omega⟩
            rw [lb_tail]
            exact g2 m (by omega)
    · intro h
      rw [List.length_cons] at h
      refine ⟨⟨fun i hi hb j hj => ?_, ?_⟩, fun i hi hb => ⟨?_, fun j hj => ?_⟩⟩
      · have := (h i (by omega) (by rw [lb_head c r hi]; exact hb)).2 j hj
        rwa [lb_head c r (by omega)] at this
      · by_cases hz : c = 0
        · exact .inr hz
        · refine .inl ?_
          rw [zero_iff] at hz
          have : ∃ j, j < 8 ∧ cb c j = true := by
            refine Classical.byContradiction fun k => hz fun j hj => ?_
            cases e : cb c j with
            | false => rfl
            | true => exact absurd ⟨j, hj, e⟩ k
          obtain ⟨j, hj, e⟩ := this
          exact (h j (by omega) (by rw [lb_head c r hj]; exact e)).1
      · rw [full_iff]
        intro j hj
        have := (h (8 + i) (by omega) (by rw [lb_tail]; exact hb)).2 j (by omega)
        rwa [lb_head c r hj] at this
      · have := (h (8 + i) (by omega) (by rw [lb_tail]; exact hb)).2 (8 + j) (by omega)
        rwa [lb_tail] at this
theorem drop_getD (L : List UInt8) (h q : Nat) : (L.drop h).getD q 0 = L.getD (h + q) 0 := by
  rw [List.getD_eq_getElem?_getD, List.getD_eq_getElem?_getD, List.getElem?_drop]
theorem take_getD (L : List UInt8) (h q : Nat) (hq : q < h) : (L.take h).getD q 0 = L.getD q 0 := by
  rw [List.getD_eq_getElem?_getD, List.getD_eq_getElem?_getD, List.getElem?_take_of_lt hq]
theorem range_parts (L : List UInt8) (h : Nat) (hh : h = 4 ∨ h = 16) (hL : L.length = 2 * h) : rangeB L = (maskOk true (L.drop h) && decide (mskd (L.take h) (L.drop h) = L.take h)) := by
  have e2 : L.length / 2 = h := by omega
  have em : ∀ i, mbit L i = lb (L.drop h) i := fun i => by
    unfold mbit bitAt lb cb
    rw [drop_getD, e2]
  have ea : ∀ i, i < 8 * h → abit L i = lb (L.take h) i := fun i hi => by
    unfold abit bitAt lb cb
    rw [take_getD _ _ _ (by omega), Nat.zero_add]
  have hd : (L.drop h).length = h := by rw [List.length_drop]; omega
  have ht : (L.take h).length = h := by rw [List.length_take]; omega
  rw [Bool.eq_iff_iff, Bool.and_eq_true, decide_eq_true_iff, mask_iff, mskd_iff, hd, ht]
  unfold rangeB
  rw [e2, Bool.and_eq_true, Bool.or_eq_true, decide_eq_true_iff, decide_eq_true_iff, List.all_eq_true]
  constructor
  · rintro ⟨_, h1⟩
    refine ⟨fun i hi hb => ⟨rfl, fun j hj => ?_⟩, fun q hq => ?_⟩
    · have := h1 i (List.mem_range.2 hi)
      unfold bitOk onesTo at this
      rw [em, if_pos hb, List.all_eq_true] at this
      have := this j (List.mem_range.2 hj)
      rwa [em] at this
    · rw [and_iff]
      intro j hj hm
      have := h1 (8 * q + j) (List.mem_range.2 (by omega))
      unfold bitOk at this
      rw [em, ea _ (by omega)] at this
      unfold lb at this
      rw [show (8 * q + j) / 8 = q by omega, show (8 * q + j) % 8 = j by omega, hm, if_neg (by simp)] at this
      simpa using this
  · rintro ⟨h1, h2⟩
    refine ⟨by omega, fun i hi => ?_⟩
    have hi := List.mem_range.1 hi
    unfold bitOk onesTo
    by_cases hb : mbit L i = true
    · rw [if_pos hb, List.all_eq_true]
      intro j hj
      rw [em] at hb ⊢
      exact (h1 i hi hb).2 j (List.mem_range.1 hj)
    · rw [if_neg hb, ea i hi]
      rw [em] at hb
      have := (and_iff _ _).1 (h2 (i / 8) (by omega)) (i % 8) (by omega) (by unfold lb at hb; simpa using hb)
      unfold lb
      rw [this]; rfl
theorem range_sizes {L : List UInt8} (h : rangeB L = true) : L.length = 8 ∨ L.length = 32 := by
  unfold rangeB at h
  rw [Bool.and_eq_true, Bool.or_eq_true, decide_eq_true_iff, decide_eq_true_iff] at h
  exact h.1
theorem range_no {L : List UInt8} (h1 : L.length ≠ 8) (h2 : L.length ≠ 32) : rangeB L = false := by
  unfold rangeB
  rw [decide_eq_false h1, decide_eq_false h2]
  rfl
theorem within_range {a r : List UInt8} {h : Nat} (hh : h = 4 ∨ h = 16) (hr : r.length = 2 * h) (hrr : rangeB r = true) (ha : a.length = 2 * h) :
    addrWithinB a r = (rangeB a && decide (mskd (r.drop h) (a.drop h) = r.drop h) && decide (mskd (a.take h) (r.drop h) = r.take h)) := by
  have hw : wholeB a r = false := by
    unfold wholeB
    rw [decide_eq_false (show ¬ a.length = r.length / 2 by omega), Bool.and_false]
  have hd : (r.drop h).length = h := by rw [List.length_drop]; omega
  have ht : (a.take h).length = h := by rw [List.length_take]; omega
  have ht2 : (r.take h).length = h := by rw [List.length_take]; omega
  unfold addrWithinB
  rw [hrr, hw, decide_eq_true (show a.length = r.length by omega), show r.length / 2 = h by omega, Bool.true_and, Bool.false_or, Bool.and_true, Bool.and_assoc]
  congr 1
  rw [Bool.eq_iff_iff, Bool.and_eq_true, decide_eq_true_iff, decide_eq_true_iff, mskd_iff, mskd_eq _ _ _ (by rw [ht, ht2]), hd, ht, List.all_eq_true]
  constructor
  · intro k
    refine ⟨fun q hq => ?_, fun q hq => ?_⟩
    · have := k q (List.mem_range.2 hq)
      unfold byteIn at this
      rw [hw, Bool.false_or, Bool.and_eq_true, decide_eq_true_iff, decide_eq_true_iff] at this
      rw [drop_getD, drop_getD, UInt8.and_comm]
      exact this.2
    · have := k q (List.mem_range.2 hq)
      unfold byteIn at this
      rw [Bool.and_eq_true, decide_eq_true_iff] at this
      rw [drop_getD, take_getD _ _ _ hq, take_getD _ _ _ hq]
      exact this.1
  · rintro ⟨k1, k2⟩ q hq
    have hq := List.mem_range.1 hq
    have g1 := k1 q hq
    have g2 := k2 q hq
    rw [drop_getD, drop_getD, UInt8.and_comm] at g1
    rw [drop_getD, take_getD _ _ _ hq, take_getD _ _ _ hq] at g2
    unfold byteIn
    rw [hw, Bool.false_or, Bool.and_eq_true, decide_eq_true_iff, decide_eq_true_iff]
    exact ⟨g2, g1⟩
theorem within_addr {a r : List UInt8} {h : Nat} (hh : h = 4 ∨ h = 16) (hr : r.length = 2 * h) (hrr : rangeB r = true) (ha : a.length = h) :
    addrWithinB a r = decide (mskd a (r.drop h) = r.take h) := by
  have hw : wholeB a r = true := by
    unfold wholeB addrB
    rw [decide_eq_true (show a.length = r.length / 2 by omega), Bool.and_true, Bool.or_eq_true, decide_eq_true_iff, decide_eq_true_iff]
    omega
  have ht2 : (r.take h).length = h := by rw [List.length_take]; omega
  unfold addrWithinB
  rw [hrr, hw, show r.length / 2 = h by omega, Bool.true_and, Bool.true_or, Bool.true_and, Bool.eq_iff_iff, decide_eq_true_iff, mskd_eq _ _ _ (by rw [ha, ht2]), ha, List.all_eq_true]
  constructor
  · intro k q hq
    have := k q (List.mem_range.2 hq)
    unfold byteIn at this
    rw [Bool.and_eq_true, decide_eq_true_iff] at this
    rw [drop_getD, take_getD _ _ _ hq]
    exact this.1
  · intro k q hq
    have hq := List.mem_range.1 hq
    have g := k q hq
    rw [drop_getD, take_getD _ _ _ hq] at g
    unfold byteIn
    rw [hw, Bool.true_or, Bool.and_true, decide_eq_true_iff]
    exact g
theorem within_none {a r : List UInt8} {h : Nat} (hr : r.length = 2 * h) (h1 : a.length ≠ 2 * h) (h2 : a.length ≠ h) : addrWithinB a r = false := by
  unfold addrWithinB wholeB
  rw [decide_eq_false (show ¬ a.length = r.length / 2 by omega), decide_eq_false (show ¬ a.length = r.length by omega), Bool.and_false, Bool.and_false, Bool.or_false, Bool.and_false]
  rfl
theorem within_bad {a r : List UInt8} (h : rangeB r = false) : addrWithinB a r = false := by unfold addrWithinB; rw [h]; rfl
end Go.Proofs.YtjdfgalcnbnobaaDoor
