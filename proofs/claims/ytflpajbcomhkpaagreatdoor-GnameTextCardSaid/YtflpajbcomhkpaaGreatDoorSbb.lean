/-
  Ranges said by bytes: the mask is well-formed, and the first half keeps what the mask keeps. Nothing is claimed of the program here.
  The contracts of Address, Range and AddressWithin of the program.
  All contracts of package host at one place.
-/
import Derived.Test.YtflpajbcomhkpaaGreatDoorSba
namespace Go.Proofs.YtflpajbcomhkpaaGreatDoor
open Go.RowKit

def cb (c : UInt8) (j : Nat) : Bool := decide (c.toNat / 2 ^ (7 - j) % 2 = 1)
def lb (M : List UInt8) (i : Nat) : Bool := cb (M.getD (i / 8) 0) (i % 8)
theorem cb_test (c : UInt8) (j : Nat) : cb c j = c.toNat.testBit (7 - j) := by
  unfold cb
  rw [Nat.testBit_eq_decide_div_mod_eq]
theorem and_iff (a m : UInt8) : a &&& m = a ↔ ∀ j, j < 8 → cb m j = false → cb a j = false := by
  constructor
  · intro h j hj hm
    rw [cb_test] at hm ⊢
    rw [← h, UInt8.toNat_and, Nat.testBit_and, hm, Bool.and_false]
  · intro h
    rw [← UInt8.toNat_inj, UInt8.toNat_and]
    refine Nat.eq_of_testBit_eq fun i => ?_
    rw [Nat.testBit_and]
    by_cases hi : i < 8
    · have := h (7 - i) (by omega)
      rw [cb_test, cb_test, show 7 - (7 - i) = i by omega] at this
      cases hm : m.toNat.testBit i with
      | true => rw [Bool.and_true]
      | false => rw [this hm, Bool.false_and]
    · rw [Nat.testBit_lt_two_pow (Nat.lt_of_lt_of_le a.toNat_lt (Nat.pow_le_pow_right (n := 2) (by decide) (show 8 ≤ i by omega))), Bool.false_and]
theorem mskd_iff (S M : List UInt8) : mskd S M = S ↔ ∀ q, q < S.length → S.getD q 0 &&& M.getD q 0 = S.getD q 0 := by
  have hl : (mskd S M).length = S.length := by unfold mskd; rw [List.length_map, List.length_range]
  have hg : ∀ q, q < S.length → (mskd S M).getD q 0 = S.getD q 0 &&& M.getD q 0 := fun q hq => by
    unfold mskd
    rw [List.getD_eq_getElem?_getD, List.getElem?_map, List.getElem?_range hq]
    rfl
  constructor
  · intro h q hq
    rw [← hg q hq, h]
  · intro h
    exact list_ext hl fun q hq => by
      rw [hl] at hq
      rw [hg q hq, h q hq]
theorem ok_tab : ∀ x : Nat, x < 256 → (decide ((255 ^^^ x) &&& ((255 ^^^ x) + 1) % 256 = 0) = (List.range 8).all fun i => !decide (x / 2 ^ (7 - i) % 2 = 1) || (List.range i).all fun j => decide (x / 2 ^ (7 - j) % 2 = 1)) := by decide +kernel
theorem full_tab : ∀ x : Nat, x < 256 → (decide (x = 255) = (List.range 8).all fun j => decide (x / 2 ^ (7 - j) % 2 = 1)) := by decide +kernel
theorem zero_tab : ∀ x : Nat, x < 256 → (decide (x = 0) = (List.range 8).all fun j => !decide (x / 2 ^ (7 - j) % 2 = 1)) := by decide +kernel
theorem byteOk_iff (c : UInt8) : byteOk c = true ↔ ∀ i, i < 8 → cb c i = true → ∀ j, j < i → cb c j = true := by
  unfold byteOk
  rw [ok_tab c.toNat c.toNat_lt, List.all_eq_true]
  constructor
  · intro h i hi hc j hj
    have := h i (List.mem_range.2 hi)
    unfold cb at hc
    rw [hc, Bool.not_true, Bool.false_or, List.all_eq_true] at this
    exact this j (List.mem_range.2 hj)
  · intro h i hi
    have h := h i (List.mem_range.1 hi)
    unfold cb at h
    cases hc : decide (c.toNat / 2 ^ (7 - i) % 2 = 1) with
    | false => rfl
    | true =>
      rw [Bool.not_true, Bool.false_or, List.all_eq_true]
      exact fun j hj => h hc j (List.mem_range.1 hj)
theorem full_iff (c : UInt8) : c = 255 ↔ ∀ j, j < 8 → cb c j = true := by
  have h := full_tab c.toNat c.toNat_lt
  rw [← UInt8.toNat_inj]
  show c.toNat = 255 ↔ _
  rw [← decide_eq_true_iff (p := c.toNat = 255), h, List.all_eq_true]
  exact ⟨fun h j hj => h j (List.mem_range.2 hj), fun h j hj => h j (List.mem_range.1 hj)⟩
theorem zero_iff (c : UInt8) : c = 0 ↔ ∀ j, j < 8 → cb c j = false := by
  have h := zero_tab c.toNat c.toNat_lt
  rw [← UInt8.toNat_inj]
  show c.toNat = 0 ↔ _
  rw [← decide_eq_true_iff (p := c.toNat = 0), h, List.all_eq_true]
  constructor
  · intro h j hj
    have := h j (List.mem_range.2 hj)
    unfold cb
    simpa using this
  · intro h j hj
    have := h j (List.mem_range.1 hj)
    unfold cb at this
    rw [this]; rfl
theorem lb_head (c : UInt8) (r : List UInt8) {i : Nat} (h : i < 8) : lb (c :: r) i = cb c i := by
  unfold lb
  rw [show i / 8 = 0 by omega, show i % 8 = i by omega]
  rfl
theorem lb_tail (c : UInt8) (r : List UInt8) (i : Nat) : lb (c :: r) (8 + i) = lb r i := by
  unfold lb
  rw [show (8 + i) / 8 = i / 8 + 1 by omega, show (8 + i) % 8 = i % 8 by omega]
  rfl
theorem mask_iff : ∀ (M : List UInt8) (ones : Bool), maskOk ones M = true ↔ ∀ i, i < 8 * M.length → lb M i = true → ones = true ∧ ∀ j, j < i → lb M j = true
  | [], _ => ⟨fun _ i hi => absurd hi (by simp), fun _ => rfl⟩
  | c :: r, ones => by
    rw [maskOk, Bool.and_eq_true, Bool.and_eq_true, Bool.or_eq_true, byteOk_iff, mask_iff r, decide_eq_true_iff, decide_eq_true_iff]
    constructor
    · rintro ⟨⟨h1, h2⟩, h3⟩ i hi hb
      by_cases h : i < 8
      · rw [lb_head c r h] at hb
        refine ⟨?_, fun j hj => by rw [lb_head c r (by omega)]; exact h1 i h hb j hj⟩
        rcases h2 with h2 | h2
        · exact h2
        · have := (zero_iff c).1 h2 i h
          rw [hb] at this
          cases this
      · obtain ⟨k, rfl⟩ : ∃ k, i = 8 + k := ⟨i - 8, by omega⟩
        rw [lb_tail] at hb
        rw [List.length_cons] at hi
        obtain ⟨g1, g2⟩ := h3 k (by omega) hb
        refine ⟨?_, fun j hj => ?_⟩
        · rcases h2 with h2 | h2
          · exact h2
          · rw [g1] at h2; exact absurd h2 (by decide)
        · by_cases hj8 : j < 8
          · rw [lb_head c r hj8]
            exact (full_iff c).1 g1 j hj8
          · obtain ⟨m, rfl⟩ : ∃ m, j = 8 + m := ⟨j - 8, by omega⟩
            rw [lb_tail]
            exact g2 m (by omega)
    · intro h
      rw [List.length_cons] at h
      refine ⟨⟨fun i hi hb j hj => ?_, ?_⟩, fun i hi hb => ⟨?_, fun j hj => ?_⟩⟩
      · have := (h i (by omega) (by rw [lb_head c r hi]; exact hb)).2 j hj
        rwa [lb_head c r (by omega)] at this
      · by_cases hz : c = 0
        · exact .inr hz
        · refine .inl ?_
          rw [zero_iff] at hz
          have : ∃ j, j < 8 ∧ cb c j = true := by
            refine Classical.byContradiction fun k => hz fun j hj => ?_
            cases e : cb c j with
            | false => rfl
            | true => exact absurd ⟨j, hj, e⟩ k
          obtain ⟨j, hj, e⟩ := this
          exact (h j (by omega) (by rw [lb_head c r hj]; exact e)).1
      · rw [full_iff]
        intro j hj
        have := (h (8 + i) (by omega) (by rw [lb_tail]; exact hb)).2 j (by omega)
        rwa [lb_head c r hj] at this
      · have := (h (8 + i) (by omega) (by rw [lb_tail]; exact hb)).2 (8 + j) (by omega)
        rwa [lb_tail] at this
theorem drop_getD (L : List UInt8) (h q : Nat) : (L.drop h).getD q 0 = L.getD (h + q) 0 := by
  rw [List.getD_eq_getElem?_getD, List.getD_eq_getElem?_getD, List.getElem?_drop]
theorem take_getD (L : List UInt8) (h q : Nat) (hq : q < h) : (L.take h).getD q 0 = L.getD q 0 := by
  rw [List.getD_eq_getElem?_getD, List.getD_eq_getElem?_getD, List.getElem?_take_of_lt hq]
theorem range_parts (L : List UInt8) (h : Nat) (hh : h = 4 ∨ h = 16) (hL : L.length = 2 * h) : rangeB L = (maskOk true (L.drop h) && decide (mskd (L.take h) (L.drop h) = L.take h)) := by
  have e2 : L.length / 2 = h := by omega
  have em : ∀ i, mbit L i = lb (L.drop h) i := fun i => by
    unfold mbit bitAt lb cb
    rw [drop_getD, e2]
  have ea : ∀ i, i < 8 * h → abit L i = lb (L.take h) i := fun i hi => by
    unfold abit bitAt lb cb
    rw [take_getD _ _ _ (by omega), Nat.zero_add]
  have hd : (L.drop h).length = h := by rw [List.length_drop]; omega
  have ht : (L.take h).length = h := by rw [List.length_take]; omega
  rw [Bool.eq_iff_iff, Bool.and_eq_true, decide_eq_true_iff, mask_iff, mskd_iff, hd, ht]
  unfold rangeB
  rw [e2, Bool.and_eq_true, Bool.or_eq_true, decide_eq_true_iff, decide_eq_true_iff, List.all_eq_true]
  constructor
  · rintro ⟨_, h1⟩
    refine ⟨fun i hi hb => ⟨rfl, fun j hj => ?_⟩, fun q hq => ?_⟩
    · have := h1 i (List.mem_range.2 hi)
      unfold bitOk onesTo at this
      rw [em, if_pos hb, List.all_eq_true] at this
      have := this j (List.mem_range.2 hj)
      rwa [em] at this
    · rw [and_iff]
      intro j hj hm
      have := h1 (8 * q + j) (List.mem_range.2 (by omega))
      unfold bitOk at this
      rw [em, ea _ (by omega)] at this
      unfold lb at this
      rw [show (8 * q + j) / 8 = q by omega, show (8 * q + j) % 8 = j by omega, hm, if_neg (by simp)] at this
      simpa using this
  · rintro ⟨h1, h2⟩
    refine ⟨by omega, fun i hi => ?_⟩
    have hi := List.mem_range.1 hi
    unfold bitOk onesTo
    by_cases hb : mbit L i = true
    · rw [if_pos hb, List.all_eq_true]
      intro j hj
      rw [em] at hb ⊢
      exact (h1 i hi hb).2 j (List.mem_range.1 hj)
    · rw [if_neg hb, ea i hi]
      rw [em] at hb
      have := (and_iff _ _).1 (h2 (i / 8) (by omega)) (i % 8) (by omega) (by unfold lb at hb; simpa using hb)
      unfold lb
      rw [this]; rfl
theorem range_no {L : List UInt8} (h1 : L.length ≠ 8) (h2 : L.length ≠ 32) : rangeB L = false := by
  unfold rangeB
  rw [decide_eq_false h1, decide_eq_false h2]
  rfl
end Go.Proofs.YtflpajbcomhkpaaGreatDoor
namespace Go.Proofs.YtflpajbcomhkpaaGreatDoor
open Go.RowKit

set_option maxRecDepth 100000 in
set_option maxHeartbeats 1000000 in
theorem paddr_any (L : List UInt8) (_ : L.length ≤ 150000) (w : World) :
    Calls Tryz.prog 163 #[.string (strOf L)] w fun e w' => e = .returned (.bool (addrB L)) ∧ Below w.heap.size w w' := by
  have e0 := strOf_size L
  by_cases h : L.length = 4
  · have d1 : ((L.length : Int) == (4 : Int)) = true := by rw [h]; rfl
    have HE := Lib.hid (show addrB L = true by unfold addrB; rw [decide_eq_true h]; rfl)
    clear h
    go_enter Tryz.func163, Tryz.ntmps163
    go_wp2_with fail
    go_ret
    exact ⟨by rw [HE.out]; rfl, Below.refl _ _⟩
  · have d1 : ((L.length : Int) == (4 : Int)) = false := by simp; omega
    by_cases h2 : L.length = 16
    · have d2 : ((L.length : Int) == (16 : Int)) = true := by rw [h2]; rfl
      have HE := Lib.hid (show addrB L = true by unfold addrB; rw [decide_eq_true h2, Bool.or_true])
      clear h2
      go_enter Tryz.func163, Tryz.ntmps163
      go_wp2_with fail
      go_ret
      exact ⟨by rw [HE.out]; rfl, Below.refl _ _⟩
    · have d2 : ((L.length : Int) == (16 : Int)) = false := by simp; omega
      have HE := Lib.hid (show addrB L = false by unfold addrB; rw [decide_eq_false h, decide_eq_false h2]; rfl)
      go_enter Tryz.func163, Tryz.ntmps163
      go_wp2_with fail
      go_ret
      exact ⟨by rw [HE.out]; rfl, Below.refl _ _⟩

theorem pmask_is {M : List UInt8} {b : Bool} (h : maskOk true M = b) (hM : M.length ≤ 150000) (w : World) :
    Calls Tryz.prog 197 #[.string (strOf M)] w fun e w' => e = .returned (.bool b) ∧ Below w.heap.size w w' := by
  have := pmask_any M hM w
  rwa [h] at this

set_option maxRecDepth 100000 in
set_option maxHeartbeats 2000000 in
theorem prange_h (L : List UInt8) (h : Nat) (hh : h = 4 ∨ h = 16) (hL : L.length = 2 * h) (w : World) :
    Calls Tryz.prog 162 #[.string (strOf L)] w fun e w' => e = .returned (.bool (rangeB L)) ∧ Below w.heap.size w w' := by
  have es := strOf_size L
  have HP := Lib.hid (range_parts L h hh hL)
  have HH := Lib.hid (fun w => phalves_any L h hh hL w)
  have hT : (L.take h).length = h := by rw [List.length_take]; omega
  have hD : (L.drop h).length = h := by rw [List.length_drop]; omega
  have HM := Lib.hid (fun w => pmasked_any (L.take h) (L.drop h) (by omega) (by omega) w)
  have d8 : ((L.length : Int) != (8 : Int)) = decide (h = 16) := by
    rw [Bool.eq_iff_iff, bne_iff_ne, decide_eq_true_iff]; omega
  have d32 : ((L.length : Int) != (32 : Int)) = decide (h = 4) := by
    rw [Bool.eq_iff_iff, bne_iff_ne, decide_eq_true_iff]; omega
  generalize L.take h = T at *
  generalize L.drop h = D at *
  have hor : (decide (h = 16) && decide (h = 4)) = false := by
    rw [Bool.and_eq_false_iff, decide_eq_false_iff_not, decide_eq_false_iff_not]; omega
  cases h1 : maskOk true D with
  | false =>
    have HE := Lib.hid (show rangeB L = false by rw [HP.out, h1]; rfl)
    have HK := Lib.hid (fun w => pmask_is h1 (by omega) w)
    clear h1
    rcases hh with rfl | rfl
    · have d8a : ((L.length : Int) != (8 : Int)) = false := d8
      have d32a : ((L.length : Int) != (32 : Int)) = true := d32
      clear d8 d32 hor hT hD hL
      go_enter Tryz.func162, Tryz.ntmps162
      go_wp2_with (first
        | (go_at_call 196; (with_reducible refine (HH.out _).mono ?_); rintro e w1 ⟨rfl, hb1⟩; have HB1 := Lib.hid hb1; clear hb1)
        | (go_at_call 197; (with_reducible refine (HK.out _).mono ?_); rintro e w2 ⟨rfl, hb2⟩; have HB2 := Lib.hid (below_next HB1.out hb2); clear hb2))
      go_ret
      exact ⟨by rw [HE.out]; rfl, HB2.out⟩
    · have d8a : ((L.length : Int) != (8 : Int)) = true := d8
      have d32a : ((L.length : Int) != (32 : Int)) = false := d32
      clear d8 d32 hor hT hD hL
      go_enter Tryz.func162, Tryz.ntmps162
      go_wp2_with (first
        | (go_at_call 196; (with_reducible refine (HH.out _).mono ?_); rintro e w1 ⟨rfl, hb1⟩; have HB1 := Lib.hid hb1; clear hb1)
        | (go_at_call 197; (with_reducible refine (HK.out _).mono ?_); rintro e w2 ⟨rfl, hb2⟩; have HB2 := Lib.hid (below_next HB1.out hb2); clear hb2))
      go_ret
      exact ⟨by rw [HE.out]; rfl, HB2.out⟩
  | true =>
    have HK := Lib.hid (fun w => pmask_is h1 (by omega) w)
    by_cases h2 : mskd T D = T
    · have HE := Lib.hid (show rangeB L = true by rw [HP.out, h1, decide_eq_true h2]; rfl)
      obtain ⟨f1, f2⟩ := same_is h2
      generalize mskd T D = X at *
      clear h1 h2
      rcases hh with rfl | rfl
      · have d8a : ((L.length : Int) != (8 : Int)) = false := d8
        have d32a : ((L.length : Int) != (32 : Int)) = true := d32
        clear d8 d32 hor hT hD hL
        go_enter Tryz.func162, Tryz.ntmps162
        go_wp2_with (first
          | (go_at_call 196; (with_reducible refine (HH.out _).mono ?_); rintro e w1 ⟨rfl, hb1⟩; have HB1 := Lib.hid hb1; clear hb1)
          | (go_at_call 197; (with_reducible refine (HK.out _).mono ?_); rintro e w2 ⟨rfl, hb2⟩; have HB2 := Lib.hid (below_next HB1.out hb2); clear hb2)
          | (go_at_call 198; (with_reducible refine (HM.out _).mono ?_); rintro e w3 ⟨rfl, hb3⟩; have HB3 := Lib.hid (below_next HB2.out hb3); clear hb3))
        go_ret
        exact ⟨by rw [HE.out]; rfl, HB3.out⟩
      · have d8a : ((L.length : Int) != (8 : Int)) = true := d8
        have d32a : ((L.length : Int) != (32 : Int)) = false := d32
        clear d8 d32 hor hT hD hL
        go_enter Tryz.func162, Tryz.ntmps162
        go_wp2_with (first
          | (go_at_call 196; (with_reducible refine (HH.out _).mono ?_); rintro e w1 ⟨rfl, hb1⟩; have HB1 := Lib.hid hb1; clear hb1)
          | (go_at_call 197; (with_reducible refine (HK.out _).mono ?_); rintro e w2 ⟨rfl, hb2⟩; have HB2 := Lib.hid (below_next HB1.out hb2); clear hb2)
          | (go_at_call 198; (with_reducible refine (HM.out _).mono ?_); rintro e w3 ⟨rfl, hb3⟩; have HB3 := Lib.hid (below_next HB2.out hb3); clear hb3))
        go_ret
        exact ⟨by rw [HE.out]; rfl, HB3.out⟩
    · have HE := Lib.hid (show rangeB L = false by rw [HP.out, h1, decide_eq_false h2]; rfl)
      obtain ⟨f1, f2⟩ := same_not h2
      generalize mskd T D = X at *
      clear h1 h2
      rcases hh with rfl | rfl
      · have d8a : ((L.length : Int) != (8 : Int)) = false := d8
        have d32a : ((L.length : Int) != (32 : Int)) = true := d32
        clear d8 d32 hor hT hD hL
        go_enter Tryz.func162, Tryz.ntmps162
        go_wp2_with (first
          | (go_at_call 196; (with_reducible refine (HH.out _).mono ?_); rintro e w1 ⟨rfl, hb1⟩; have HB1 := Lib.hid hb1; clear hb1)
          | (go_at_call 197; (with_reducible refine (HK.out _).mono ?_); rintro e w2 ⟨rfl, hb2⟩; have HB2 := Lib.hid (below_next HB1.out hb2); clear hb2)
          | (go_at_call 198; (with_reducible refine (HM.out _).mono ?_); rintro e w3 ⟨rfl, hb3⟩; have HB3 := Lib.hid (below_next HB2.out hb3); clear hb3))
        go_ret
        exact ⟨by rw [HE.out]; rfl, HB3.out⟩
      · have d8a : ((L.length : Int) != (8 : Int)) = true := d8
        have d32a : ((L.length : Int) != (32 : Int)) = false := d32
        clear d8 d32 hor hT hD hL
        go_enter Tryz.func162, Tryz.ntmps162
        go_wp2_with (first
          | (go_at_call 196; (with_reducible refine (HH.out _).mono ?_); rintro e w1 ⟨rfl, hb1⟩; have HB1 := Lib.hid hb1; clear hb1)
          | (go_at_call 197; (with_reducible refine (HK.out _).mono ?_); rintro e w2 ⟨rfl, hb2⟩; have HB2 := Lib.hid (below_next HB1.out hb2); clear hb2)
          | (go_at_call 198; (with_reducible refine (HM.out _).mono ?_); rintro e w3 ⟨rfl, hb3⟩; have HB3 := Lib.hid (below_next HB2.out hb3); clear hb3))
        go_ret
        exact ⟨by rw [HE.out]; rfl, HB3.out⟩
set_option maxRecDepth 100000 in
set_option maxHeartbeats 2000000 in
theorem prange_any (L : List UInt8) (_ : L.length ≤ 150000) (w : World) :
    Calls Tryz.prog 162 #[.string (strOf L)] w fun e w' => e = .returned (.bool (rangeB L)) ∧ Below w.heap.size w w' := by
  by_cases h1 : L.length = 8
  · exact prange_h L 4 (.inl rfl) (by omega) w
  · by_cases h2 : L.length = 32
    · exact prange_h L 16 (.inr rfl) (by omega) w
    · have es := strOf_size L
      have HE := Lib.hid (range_no h1 h2)
      have d8 : ((L.length : Int) != (8 : Int)) = true := by simp; omega
      have d32 : ((L.length : Int) != (32 : Int)) = true := by simp; omega
      go_enter Tryz.func162, Tryz.ntmps162
      go_wp2_with fail
      go_ret
      exact ⟨by rw [HE.out]; rfl, Below.refl _ _⟩
end Go.Proofs.YtflpajbcomhkpaaGreatDoor

