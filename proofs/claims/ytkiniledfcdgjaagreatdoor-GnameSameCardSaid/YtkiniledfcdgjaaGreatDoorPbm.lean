/-
  The contracts of Address, Range and AddressWithin of the program.
  All contracts of package host at one place.
  The contracts of gname's isName, isBase, hasParts and Check: the first error of a general name.
  The contracts of certpathmade's New and Next: a deck in a block of the caller's own; a number from 0 to n - 1.
  The contract of certpathmade's Damage: a string that is at most one byte longer; nothing below the deck has changed.
  The contracts of certpathmade's Damage and replaced, with the deck kept.
  The contract of certpathmade's replaced.
  The contract of the reference's Dec: the decimal digits of a number.
-/
import Derived.Test.YtkiniledfcdgjaaGreatDoorPbl
import Derived.Test.YtkiniledfcdgjaaGreatDoorPbd
import Derived.Test.YtkiniledfcdgjaaGreatDoorPak
import Derived.Test.YtkiniledfcdgjaaGreatDoorPba
import Derived.Test.YtkiniledfcdgjaaGreatDoorPal
import Derived.Test.YtkiniledfcdgjaaGreatDoorPav
import Derived.Test.YtkiniledfcdgjaaGreatDoorPaw
import Derived.Test.YtkiniledfcdgjaaGreatDoorPbf
import Derived.Test.YtkiniledfcdgjaaGreatDoorPaz
import Derived.Test.YtkiniledfcdgjaaGreatDoorPas
import Derived.Test.YtkiniledfcdgjaaGreatDoorPaa
import Derived.Lib.ItoaLen
namespace Go.Proofs.YtkiniledfcdgjaaGreatDoor
open Go.RowKit

set_option maxRecDepth 100000 in
set_option maxHeartbeats 1000000 in
theorem paddr_any (L : List UInt8) (_ : L.length ≤ 100000) (w : World) :
    Calls Tryz.prog 102 #[.string (strOf L)] w fun e w' => e = .returned (.bool (addrB L)) ∧ Below w.heap.size w w' := by
  have e0 := strOf_size L
  by_cases h : L.length = 4
  · have d1 : ((L.length : Int) == (4 : Int)) = true := by rw [h]; rfl
    have HE := Lib.hid (show addrB L = true by unfold addrB; rw [decide_eq_true h]; rfl)
    clear h
    go_enter Tryz.func102, Tryz.ntmps102
    go_wp2_with fail
    go_ret
    exact ⟨by rw [HE.out]; rfl, Below.refl _ _⟩
  · have d1 : ((L.length : Int) == (4 : Int)) = false := by simp; omega
    by_cases h2 : L.length = 16
    · have d2 : ((L.length : Int) == (16 : Int)) = true := by rw [h2]; rfl
      have HE := Lib.hid (show addrB L = true by unfold addrB; rw [decide_eq_true h2, Bool.or_true])
      clear h2
      go_enter Tryz.func102, Tryz.ntmps102
      go_wp2_with fail
      go_ret
      exact ⟨by rw [HE.out]; rfl, Below.refl _ _⟩
    · have d2 : ((L.length : Int) == (16 : Int)) = false := by simp; omega
      have HE := Lib.hid (show addrB L = false by unfold addrB; rw [decide_eq_false h, decide_eq_false h2]; rfl)
      go_enter Tryz.func102, Tryz.ntmps102
      go_wp2_with fail
      go_ret
      exact ⟨by rw [HE.out]; rfl, Below.refl _ _⟩

theorem pmask_is {M : List UInt8} {b : Bool} (h : maskOk true M = b) (hM : M.length ≤ 100000) (w : World) :
    Calls Tryz.prog 119 #[.string (strOf M)] w fun e w' => e = .returned (.bool b) ∧ Below w.heap.size w w' := by
  have := pmask_any M hM w
  rwa [h] at this

set_option maxRecDepth 100000 in
set_option maxHeartbeats 2000000 in
theorem prange_h (L : List UInt8) (h : Nat) (hh : h = 4 ∨ h = 16) (hL : L.length = 2 * h) (w : World) :
    Calls Tryz.prog 91 #[.string (strOf L)] w fun e w' => e = .returned (.bool (rangeB L)) ∧ Below w.heap.size w w' := by
  have es := strOf_size L
  have HP := Lib.hid (range_parts L h hh hL)
  have HH := Lib.hid (fun w => phalves_any L h hh hL w)
  have hT : (L.take h).length = h := by rw [List.length_take]; omega
  have hD : (L.drop h).length = h := by rw [List.length_drop]; omega
  have HM := Lib.hid (fun w => pmasked_any (L.take h) (L.drop h) (by omega) (by omega) w)
  have d8 : ((L.length : Int) != (8 : Int)) = decide (h = 16) := by
    rw [Bool.eq_iff_iff, bne_iff_ne, decide_eq_true_iff]; omega
  have d32 : ((L.length : Int) != (32 : Int)) = decide (h = 4) := by
    rw [Bool.eq_iff_iff, bne_iff_ne, decide_eq_true_iff]; omega
  generalize L.take h = T at *
  generalize L.drop h = D at *
  have hor : (decide (h = 16) && decide (h = 4)) = false := by
    rw [Bool.and_eq_false_iff, decide_eq_false_iff_not, decide_eq_false_iff_not]; omega
  cases h1 : maskOk true D with
  | false =>
    have HE := Lib.hid (show rangeB L = false by rw [HP.out, h1]; rfl)
    have HK := Lib.hid (fun w => pmask_is h1 (by omega) w)
    clear h1
    rcases hh with rfl | rfl
    · have d8a : ((L.length : Int) != (8 : Int)) = false := d8
      have d32a : ((L.length : Int) != (32 : Int)) = true := d32
      clear d8 d32 hor hT hD hL
      go_enter Tryz.func91, Tryz.ntmps91
      go_wp2_with (first
        | (go_at_call 92; (with_reducible refine (HH.out _).mono ?_); rintro e w1 ⟨rfl, hb1⟩; have HB1 := Lib.hid hb1; clear hb1)
        | (go_at_call 119; (with_reducible refine (HK.out _).mono ?_); rintro e w2 ⟨rfl, hb2⟩; have HB2 := Lib.hid (below_next HB1.out hb2); clear hb2))
      go_ret
      exact ⟨by rw [HE.out]; rfl, HB2.out⟩
    · have d8a : ((L.length : Int) != (8 : Int)) = true := d8
      have d32a : ((L.length : Int) != (32 : Int)) = false := d32
      clear d8 d32 hor hT hD hL
      go_enter Tryz.func91, Tryz.ntmps91
      go_wp2_with (first
        | (go_at_call 92; (with_reducible refine (HH.out _).mono ?_); rintro e w1 ⟨rfl, hb1⟩; have HB1 := Lib.hid hb1; clear hb1)
        | (go_at_call 119; (with_reducible refine (HK.out _).mono ?_); rintro e w2 ⟨rfl, hb2⟩; have HB2 := Lib.hid (below_next HB1.out hb2); clear hb2))
      go_ret
      exact ⟨by rw [HE.out]; rfl, HB2.out⟩
  | true =>
    have HK := Lib.hid (fun w => pmask_is h1 (by omega) w)
    by_cases h2 : mskd T D = T
    · have HE := Lib.hid (show rangeB L = true by rw [HP.out, h1, decide_eq_true h2]; rfl)
      obtain ⟨f1, f2⟩ := same_is h2
      generalize mskd T D = X at *
      clear h1 h2
      rcases hh with rfl | rfl
      · have d8a : ((L.length : Int) != (8 : Int)) = false := d8
        have d32a : ((L.length : Int) != (32 : Int)) = true := d32
        clear d8 d32 hor hT hD hL
        go_enter Tryz.func91, Tryz.ntmps91
        go_wp2_with (first
          | (go_at_call 92; (with_reducible refine (HH.out _).mono ?_); rintro e w1 ⟨rfl, hb1⟩; have HB1 := Lib.hid hb1; clear hb1)
          | (go_at_call 119; (with_reducible refine (HK.out _).mono ?_); rintro e w2 ⟨rfl, hb2⟩; have HB2 := Lib.hid (below_next HB1.out hb2); clear hb2)
          | (go_at_call 93; (with_reducible refine (HM.out _).mono ?_); rintro e w3 ⟨rfl, hb3⟩; have HB3 := Lib.hid (below_next HB2.out hb3); clear hb3))
        go_ret
        exact ⟨by rw [HE.out]; rfl, HB3.out⟩
      · have d8a : ((L.length : Int) != (8 : Int)) = true := d8
        have d32a : ((L.length : Int) != (32 : Int)) = false := d32
        clear d8 d32 hor hT hD hL
        go_enter Tryz.func91, Tryz.ntmps91
        go_wp2_with (first
          | (go_at_call 92; (with_reducible refine (HH.out _).mono ?_); rintro e w1 ⟨rfl, hb1⟩; have HB1 := Lib.hid hb1; clear hb1)
          | (go_at_call 119; (with_reducible refine (HK.out _).mono ?_); rintro e w2 ⟨rfl, hb2⟩; have HB2 := Lib.hid (below_next HB1.out hb2); clear hb2)
          | (go_at_call 93; (with_reducible refine (HM.out _).mono ?_); rintro e w3 ⟨rfl, hb3⟩; have HB3 := Lib.hid (below_next HB2.out hb3); clear hb3))
        go_ret
        exact ⟨by rw [HE.out]; rfl, HB3.out⟩
    · have HE := Lib.hid (show rangeB L = false by rw [HP.out, h1, decide_eq_false h2]; rfl)
      obtain ⟨f1, f2⟩ := same_not h2
      generalize mskd T D = X at *
      clear h1 h2
      rcases hh with rfl | rfl
      · have d8a : ((L.length : Int) != (8 : Int)) = false := d8
        have d32a : ((L.length : Int) != (32 : Int)) = true := d32
        clear d8 d32 hor hT hD hL
        go_enter Tryz.func91, Tryz.ntmps91
        go_wp2_with (first
          | (go_at_call 92; (with_reducible refine (HH.out _).mono ?_); rintro e w1 ⟨rfl, hb1⟩; have HB1 := Lib.hid hb1; clear hb1)
          | (go_at_call 119; (with_reducible refine (HK.out _).mono ?_); rintro e w2 ⟨rfl, hb2⟩; have HB2 := Lib.hid (below_next HB1.out hb2); clear hb2)
          | (go_at_call 93; (with_reducible refine (HM.out _).mono ?_); rintro e w3 ⟨rfl, hb3⟩; have HB3 := Lib.hid (below_next HB2.out hb3); clear hb3))
        go_ret
        exact ⟨by rw [HE.out]; rfl, HB3.out⟩
      · have d8a : ((L.length : Int) != (8 : Int)) = true := d8
        have d32a : ((L.length : Int) != (32 : Int)) = false := d32
        clear d8 d32 hor hT hD hL
        go_enter Tryz.func91, Tryz.ntmps91
        go_wp2_with (first
          | (go_at_call 92; (with_reducible refine (HH.out _).mono ?_); rintro e w1 ⟨rfl, hb1⟩; have HB1 := Lib.hid hb1; clear hb1)
          | (go_at_call 119; (with_reducible refine (HK.out _).mono ?_); rintro e w2 ⟨rfl, hb2⟩; have HB2 := Lib.hid (below_next HB1.out hb2); clear hb2)
          | (go_at_call 93; (with_reducible refine (HM.out _).mono ?_); rintro e w3 ⟨rfl, hb3⟩; have HB3 := Lib.hid (below_next HB2.out hb3); clear hb3))
        go_ret
        exact ⟨by rw [HE.out]; rfl, HB3.out⟩
set_option maxRecDepth 100000 in
set_option maxHeartbeats 2000000 in
theorem prange_any (L : List UInt8) (_ : L.length ≤ 100000) (w : World) :
    Calls Tryz.prog 91 #[.string (strOf L)] w fun e w' => e = .returned (.bool (rangeB L)) ∧ Below w.heap.size w w' := by
  by_cases h1 : L.length = 8
  · exact prange_h L 4 (.inl rfl) (by omega) w
  · by_cases h2 : L.length = 32
    · exact prange_h L 16 (.inr rfl) (by omega) w
    · have es := strOf_size L
      have HE := Lib.hid (range_no h1 h2)
      have d8 : ((L.length : Int) != (8 : Int)) = true := by simp; omega
      have d32 : ((L.length : Int) != (32 : Int)) = true := by simp; omega
      go_enter Tryz.func91, Tryz.ntmps91
      go_wp2_with fail
      go_ret
      exact ⟨by rw [HE.out]; rfl, Below.refl _ _⟩
theorem prange_is {L : List UInt8} {b : Bool} (h : rangeB L = b) (hL : L.length ≤ 100000) (w : World) :
    Calls Tryz.prog 91 #[.string (strOf L)] w fun e w' => e = .returned (.bool b) ∧ Below w.heap.size w w' := by
  have := prange_any L hL w
  rwa [h] at this
theorem pmasked_is {S M X : List UInt8} (h : mskd S M = X) (hS : S.length ≤ 100000) (hM : S.length ≤ M.length) (w : World) :
    Calls Tryz.prog 93 #[.string (strOf S), .string (strOf M)] w fun e w' => e = .returned (.string (strOf X)) ∧ Below w.heap.size w w' := by
  have := pmasked_any S M hS hM w
  rwa [h] at this
set_option maxRecDepth 100000 in
set_option maxHeartbeats 4000000 in
theorem paw_any (a b : List UInt8) (ha : a.length ≤ 100000) (hb : b.length ≤ 100000) (w : World) :
    Calls Tryz.prog 51 #[.string (strOf a), .string (strOf b)] w fun e w' => e = .returned (.bool (addrWithinB a b)) ∧ Below w.heap.size w w' := by
  have ea := strOf_size a
  have eb := strOf_size b
  cases h1 : rangeB b with
  | false =>
    have HE := Lib.hid (within_bad (a := a) h1)
    have H1 := Lib.hid (fun w => prange_is h1 hb w)
    clear h1
    go_enter Tryz.func51, Tryz.ntmps51
    go_wp2_with (go_at_call 91; (with_reducible refine (H1.out _).mono ?_); rintro e w1 ⟨rfl, hb1⟩; have HB1 := Lib.hid hb1; clear hb1)
    go_ret
    exact ⟨by rw [HE.out]; rfl, HB1.out⟩
  | true =>
    obtain ⟨h, hh, hr⟩ : ∃ h, (h = 4 ∨ h = 16) ∧ b.length = 2 * h := by
      rcases range_sizes h1 with e | e
      · exact ⟨4, .inl rfl, by omega⟩
      · exact ⟨16, .inr rfl, by omega⟩
    have H1 := Lib.hid (fun w => prange_is h1 hb w)
    have H2 := Lib.hid (fun w => phalves_any b h hh hr w)
    have hT : (b.take h).length = h := by rw [List.length_take]; omega
    have hD : (b.drop h).length = h := by rw [List.length_drop]; omega
    have eT := strOf_size (b.take h)
    by_cases k1 : a.length = 2 * h
    · have HW := Lib.hid (within_range (a := a) hh hr h1 k1)
      have g1 : ((a.length : Int) == (b.length : Int)) = true := by rw [beq_iff_eq]; omega
      have H3 := Lib.hid (fun w => phalves_any a h hh k1 w)
      have hTa : (a.take h).length = h := by rw [List.length_take]; omega
      have hDa : (a.drop h).length = h := by rw [List.length_drop]; omega
      generalize b.take h = T at *
      generalize b.drop h = D at *
      generalize a.take h = Ta at *
      generalize a.drop h = Da at *
      obtain ⟨A, hA⟩ : ∃ A, strOf a = A := ⟨_, rfl⟩
      obtain ⟨B, hB⟩ : ∃ B, strOf b = B := ⟨_, rfl⟩
      cases h2 : rangeB a with
      | false =>
        have HE := Lib.hid (show addrWithinB a b = false by rw [HW.out, h2]; rfl)
        have H4 := Lib.hid (fun w => prange_is h2 ha w)
        rw [hA] at H3 H4 ea ⊢
        rw [hB] at H1 H2 eb ⊢
        clear h1 h2 hA hB hh hr
        go_enter Tryz.func51, Tryz.ntmps51
        go_wp2_with (first
          | (go_at_call 91; (with_reducible refine (H1.out _).mono ?_); rintro e w1 ⟨rfl, hb1⟩; have HB1 := Lib.hid hb1; clear hb1; clear H1)
          | (go_at_call 92; (with_reducible refine (H2.out _).mono ?_); rintro e w2 ⟨rfl, hb2⟩; have HB2 := Lib.hid (below_next HB1.out hb2); clear hb2; clear H2)
          | (go_at_call 92; (with_reducible refine (H3.out _).mono ?_); rintro e w3 ⟨rfl, hb3⟩; have HB3 := Lib.hid (below_next HB2.out hb3); clear hb3; clear H3)
          | (go_at_call 91; (with_reducible refine (H4.out _).mono ?_); rintro e w4 ⟨rfl, hb4⟩; have HB4 := Lib.hid (below_next HB3.out hb4); clear hb4; clear H4))
        go_ret
        exact ⟨by rw [HE.out]; rfl, HB4.out⟩
      | true =>
        have H4 := Lib.hid (fun w => prange_is h2 ha w)
        obtain ⟨X, hX⟩ : ∃ X, mskd D Da = X := ⟨_, rfl⟩
        have H5 := Lib.hid (fun w => pmasked_is hX (by omega) (by omega) w)
        rw [hX] at HW
        by_cases h3 : X = D
        · obtain ⟨f1, f2⟩ := same_is h3
          obtain ⟨Y, hY⟩ : ∃ Y, mskd Ta D = Y := ⟨_, rfl⟩
          have H6 := Lib.hid (fun w => pmasked_is hY (by omega) (by omega) w)
          rw [hY, h2, decide_eq_true h3] at HW
          clear hX h3
          by_cases h4 : Y = T
          · obtain ⟨f3, f4⟩ := same_is h4
            have HE := Lib.hid (show addrWithinB a b = true by rw [HW.out, decide_eq_true h4]; rfl)
            rw [hA] at H3 H4 ea ⊢
            rw [hB] at H1 H2 eb ⊢
            clear h1 h2 h4 hY hA hB hh hr
            go_enter Tryz.func51, Tryz.ntmps51
            go_wp2_with (first
              | (go_at_call 91; (with_reducible refine (H1.out _).mono ?_); rintro e w1 ⟨rfl, hb1⟩; have HB1 := Lib.hid hb1; clear hb1; clear H1)
              | (go_at_call 92; (with_reducible refine (H2.out _).mono ?_); rintro e w2 ⟨rfl, hb2⟩; have HB2 := Lib.hid (below_next HB1.out hb2); clear hb2; clear H2)
              | (go_at_call 92; (with_reducible refine (H3.out _).mono ?_); rintro e w3 ⟨rfl, hb3⟩; have HB3 := Lib.hid (below_next HB2.out hb3); clear hb3; clear H3)
              | (go_at_call 91; (with_reducible refine (H4.out _).mono ?_); rintro e w4 ⟨rfl, hb4⟩; have HB4 := Lib.hid (below_next HB3.out hb4); clear hb4; clear H4)
              | (go_at_call 93; (with_reducible refine (H5.out _).mono ?_); rintro e w5 ⟨rfl, hb5⟩; have HB5 := Lib.hid (below_next HB4.out hb5); clear hb5; clear H5)
              | (go_at_call 93; (with_reducible refine (H6.out _).mono ?_); rintro e w6 ⟨rfl, hb6⟩; have HB6 := Lib.hid (below_next HB5.out hb6); clear hb6; clear H6))
            go_ret
            exact ⟨by rw [HE.out]; rfl, HB6.out⟩
          · obtain ⟨f3, f4⟩ := same_not h4
            have HE := Lib.hid (show addrWithinB a b = false by rw [HW.out, decide_eq_false h4]; rfl)
            rw [hA] at H3 H4 ea ⊢
            rw [hB] at H1 H2 eb ⊢
            clear h1 h2 h4 hY hA hB hh hr
            go_enter Tryz.func51, Tryz.ntmps51
            go_wp2_with (first
              | (go_at_call 91; (with_reducible refine (H1.out _).mono ?_); rintro e w1 ⟨rfl, hb1⟩; have HB1 := Lib.hid hb1; clear hb1; clear H1)
              | (go_at_call 92; (with_reducible refine (H2.out _).mono ?_); rintro e w2 ⟨rfl, hb2⟩; have HB2 := Lib.hid (below_next HB1.out hb2); clear hb2; clear H2)
              | (go_at_call 92; (with_reducible refine (H3.out _).mono ?_); rintro e w3 ⟨rfl, hb3⟩; have HB3 := Lib.hid (below_next HB2.out hb3); clear hb3; clear H3)
              | (go_at_call 91; (with_reducible refine (H4.out _).mono ?_); rintro e w4 ⟨rfl, hb4⟩; have HB4 := Lib.hid (below_next HB3.out hb4); clear hb4; clear H4)
              | (go_at_call 93; (with_reducible refine (H5.out _).mono ?_); rintro e w5 ⟨rfl, hb5⟩; have HB5 := Lib.hid (below_next HB4.out hb5); clear hb5; clear H5)
              | (go_at_call 93; (with_reducible refine (H6.out _).mono ?_); rintro e w6 ⟨rfl, hb6⟩; have HB6 := Lib.hid (below_next HB5.out hb6); clear hb6; clear H6))
            go_ret
            exact ⟨by rw [HE.out]; rfl, HB6.out⟩
        · obtain ⟨f1, f2⟩ := same_not h3
          have HE := Lib.hid (show addrWithinB a b = false by rw [HW.out, decide_eq_false h3, Bool.and_false, Bool.false_and])
          rw [hA] at H3 H4 ea ⊢
          rw [hB] at H1 H2 eb ⊢
          clear h1 h2 h3 hX hA hB hh hr
          go_enter Tryz.func51, Tryz.ntmps51
          go_wp2_with (first
            | (go_at_call 91; (with_reducible refine (H1.out _).mono ?_); rintro e w1 ⟨rfl, hb1⟩; have HB1 := Lib.hid hb1; clear hb1; clear H1)
            | (go_at_call 92; (with_reducible refine (H2.out _).mono ?_); rintro e w2 ⟨rfl, hb2⟩; have HB2 := Lib.hid (below_next HB1.out hb2); clear hb2; clear H2)
            | (go_at_call 92; (with_reducible refine (H3.out _).mono ?_); rintro e w3 ⟨rfl, hb3⟩; have HB3 := Lib.hid (below_next HB2.out hb3); clear hb3; clear H3)
            | (go_at_call 91; (with_reducible refine (H4.out _).mono ?_); rintro e w4 ⟨rfl, hb4⟩; have HB4 := Lib.hid (below_next HB3.out hb4); clear hb4; clear H4)
            | (go_at_call 93; (with_reducible refine (H5.out _).mono ?_); rintro e w5 ⟨rfl, hb5⟩; have HB5 := Lib.hid (below_next HB4.out hb5); clear hb5; clear H5))
          go_ret
          exact ⟨by rw [HE.out]; rfl, HB5.out⟩
    · have g1 : ((a.length : Int) == (b.length : Int)) = false := by rw [beq_eq_false_iff_ne]; omega
      by_cases k2 : a.length = h
      · have HW := Lib.hid (within_addr hh hr h1 k2)
        have g2 : ((a.length : Int) == ((b.take h).length : Int)) = true := by rw [beq_iff_eq]; omega
        obtain ⟨Y, hY⟩ : ∃ Y, mskd a (b.drop h) = Y := ⟨_, rfl⟩
        have H6 := Lib.hid (fun w => pmasked_is hY (by omega) (by omega) w)
        rw [hY] at HW
        generalize b.take h = T at *
        generalize b.drop h = D at *
        obtain ⟨A, hA⟩ : ∃ A, strOf a = A := ⟨_, rfl⟩
        obtain ⟨B, hB⟩ : ∃ B, strOf b = B := ⟨_, rfl⟩
        by_cases h4 : Y = T
        · obtain ⟨f3, f4⟩ := same_is h4
          have HE := Lib.hid (show addrWithinB a b = true by rw [HW.out, decide_eq_true h4])
          rw [hA] at H6 ea ⊢
          rw [hB] at H1 H2 eb ⊢
          clear h1 h4 hY hA hB hh hr
          go_enter Tryz.func51, Tryz.ntmps51
          go_wp2_with (first
            | (go_at_call 91; (with_reducible refine (H1.out _).mono ?_); rintro e w1 ⟨rfl, hb1⟩; have HB1 := Lib.hid hb1; clear hb1; clear H1)
            | (go_at_call 92; (with_reducible refine (H2.out _).mono ?_); rintro e w2 ⟨rfl, hb2⟩; have HB2 := Lib.hid (below_next HB1.out hb2); clear hb2; clear H2)
            | (go_at_call 93; (with_reducible refine (H6.out _).mono ?_); rintro e w6 ⟨rfl, hb6⟩; have HB6 := Lib.hid (below_next HB2.out hb6); clear hb6; clear H6))
          go_ret
          exact ⟨by rw [HE.out]; rfl, HB6.out⟩
        · obtain ⟨f3, f4⟩ := same_not h4
          have HE := Lib.hid (show addrWithinB a b = false by rw [HW.out, decide_eq_false h4])
          rw [hA] at H6 ea ⊢
          rw [hB] at H1 H2 eb ⊢
          clear h1 h4 hY hA hB hh hr
          go_enter Tryz.func51, Tryz.ntmps51
          go_wp2_with (first
            | (go_at_call 91; (with_reducible refine (H1.out _).mono ?_); rintro e w1 ⟨rfl, hb1⟩; have HB1 := Lib.hid hb1; clear hb1; clear H1)
            | (go_at_call 92; (with_reducible refine (H2.out _).mono ?_); rintro e w2 ⟨rfl, hb2⟩; have HB2 := Lib.hid (below_next HB1.out hb2); clear hb2; clear H2)
            | (go_at_call 93; (with_reducible refine (H6.out _).mono ?_); rintro e w6 ⟨rfl, hb6⟩; have HB6 := Lib.hid (below_next HB2.out hb6); clear hb6; clear H6))
          go_ret
          exact ⟨by rw [HE.out]; rfl, HB6.out⟩
      · have HE := Lib.hid (within_none (a := a) hr k1 k2)
        have g2 : ((a.length : Int) == ((b.take h).length : Int)) = false := by rw [beq_eq_false_iff_ne]; omega
        generalize b.take h = T at *
        generalize b.drop h = D at *
        clear h1 hh hr
        go_enter Tryz.func51, Tryz.ntmps51
        go_wp2_with (first
          | (go_at_call 91; (with_reducible refine (H1.out _).mono ?_); rintro e w1 ⟨rfl, hb1⟩; have HB1 := Lib.hid hb1; clear hb1)
          | (go_at_call 92; (with_reducible refine (H2.out _).mono ?_); rintro e w2 ⟨rfl, hb2⟩; have HB2 := Lib.hid (below_next HB1.out hb2); clear hb2))
        go_ret
        exact ⟨by rw [HE.out]; rfl, HB2.out⟩
end Go.Proofs.YtkiniledfcdgjaaGreatDoor

namespace Go.Proofs.YtkiniledfcdgjaaGreatDoor
open Go.RowKit

set_option maxRecDepth 100000 in
set_option maxHeartbeats 2000000 in
theorem pisname_any (k : Int) (t : List UInt8) (ht : t.length ≤ 100000) (w : World) (hm : Mx w) :
    Calls Tryz.prog 71 #[.int .i64 ((kdOf k : Nat) : Int), .string (strOf t)] w fun e w' => e = .returned (.bool (okT k false t)) ∧ Below w.heap.size w w' := by
  rcases kind_or k with rfl | rfl | rfl | rfl | hk
  · have HC := Lib.hid (pmail_any t ht w hm)
    rw [show ((kdOf 1 : Nat) : Int) = 0 from rfl, show okT 1 false t = mailB t from rfl]
    clear hm
    go_enter Tryz.func71, Tryz.ntmps71
    go_wp2_with (go_at_call 77; (with_reducible refine HC.out.mono ?_); rintro e w1 ⟨rfl, hb1⟩; have HB1 := Lib.hid hb1; clear hb1)
    go_ret
    exact ⟨rfl, HB1.out⟩
  · have HC := Lib.hid (ppat_any t ht w)
    rw [show ((kdOf 2 : Nat) : Int) = 1 from rfl, show okT 2 false t = patB t from rfl]
    clear hm
    go_enter Tryz.func71, Tryz.ntmps71
    go_wp2_with (go_at_call 82; (with_reducible refine HC.out.mono ?_); rintro e w1 ⟨rfl, hb1⟩; have HB1 := Lib.hid hb1; clear hb1)
    go_ret
    exact ⟨rfl, HB1.out⟩
  · rw [show ((kdOf 4 : Nat) : Int) = 2 from rfl, show okT 4 false t = false from rfl]
    clear hm
    go_enter Tryz.func71, Tryz.ntmps71
    go_wp2_with fail
    go_ret
    exact ⟨rfl, Below.refl _ _⟩
  · have HC := Lib.hid (paddr_any t ht w)
    rw [show ((kdOf 7 : Nat) : Int) = 3 from rfl, show okT 7 false t = addrB t from rfl]
    clear hm
    go_enter Tryz.func71, Tryz.ntmps71
    go_wp2_with (go_at_call 102; (with_reducible refine HC.out.mono ?_); rintro e w1 ⟨rfl, hb1⟩; have HB1 := Lib.hid hb1; clear hb1)
    go_ret
    exact ⟨rfl, HB1.out⟩
  · rw [kdOf_no hk, okT_no hk]
    rw [show (((4 : Nat)) : Int) = 4 from rfl]
    clear hm hk
    go_enter Tryz.func71, Tryz.ntmps71
    go_wp2_with fail
    go_ret
    exact ⟨rfl, Below.refl _ _⟩
set_option maxRecDepth 100000 in
set_option maxHeartbeats 2000000 in
theorem pisbase_any (k : Int) (t : List UInt8) (ht : t.length ≤ 100000) (w : World) (hm : Mx w) :
    Calls Tryz.prog 70 #[.int .i64 ((kdOf k : Nat) : Int), .string (strOf t)] w fun e w' => e = .returned (.bool (okT k true t)) ∧ Below w.heap.size w w' := by
  rcases kind_or k with rfl | rfl | rfl | rfl | hk
  · have HC := Lib.hid (pmb_any t ht w hm)
    rw [show ((kdOf 1 : Nat) : Int) = 0 from rfl, show okT 1 true t = mailBaseB t from rfl]
    clear hm
    go_enter Tryz.func70, Tryz.ntmps70
    go_wp2_with (go_at_call 87; (with_reducible refine HC.out.mono ?_); rintro e w1 ⟨rfl, hb1⟩; have HB1 := Lib.hid hb1; clear hb1)
    go_ret
    exact ⟨rfl, HB1.out⟩
  · have HC := Lib.hid (pbase_any t ht w)
    rw [show ((kdOf 2 : Nat) : Int) = 1 from rfl, show okT 2 true t = baseB t from rfl]
    clear hm
    go_enter Tryz.func70, Tryz.ntmps70
    go_wp2_with (go_at_call 89; (with_reducible refine HC.out.mono ?_); rintro e w1 ⟨rfl, hb1⟩; have HB1 := Lib.hid hb1; clear hb1)
    go_ret
    exact ⟨rfl, HB1.out⟩
  · rw [show ((kdOf 4 : Nat) : Int) = 2 from rfl, show okT 4 true t = false from rfl]
    clear hm
    go_enter Tryz.func70, Tryz.ntmps70
    go_wp2_with fail
    go_ret
    exact ⟨rfl, Below.refl _ _⟩
  · have HC := Lib.hid (prange_any t ht w)
    rw [show ((kdOf 7 : Nat) : Int) = 3 from rfl, show okT 7 true t = rangeB t from rfl]
    clear hm
    go_enter Tryz.func70, Tryz.ntmps70
    go_wp2_with (go_at_call 91; (with_reducible refine HC.out.mono ?_); rintro e w1 ⟨rfl, hb1⟩; have HB1 := Lib.hid hb1; clear hb1)
    go_ret
    exact ⟨rfl, HB1.out⟩
  · rw [kdOf_no hk, okT_no hk]
    rw [show (((4 : Nat)) : Int) = 4 from rfl]
    clear hm hk
    go_enter Tryz.func70, Tryz.ntmps70
    go_wp2_with fail
    go_ret
    exact ⟨rfl, Below.refl _ _⟩
/-- Has a general name what its kind needs, and nothing else? -/
noncomputable def partsG (con : Bool) (k : Int) (t : List UInt8) (n : Nm) : Bool := if k = 4 then decide (t = []) else (decide (n = []) && okT k con t)
theorem chkN_nil : chkN [] = 0 := rfl
theorem chkG_parts (con : Bool) (k : Int) (t : List UInt8) (n : Nm) : chkG con k t n = if partsG con k t n = true then chkN n else 14 := by
  by_cases h4 : k = 4
  · subst h4
    rw [chkG_dir]
    unfold partsG
    rw [if_pos rfl]
    by_cases h0 : t = []
    · rw [if_pos h0, if_pos (decide_eq_true h0)]
    · rw [if_neg h0, if_neg (by rw [decide_eq_false h0]; decide)]
  · rw [chkG_not h4]
    unfold partsG
    rw [if_neg h4]
    by_cases hn : n = []
    · subst hn
      rw [chkN_nil, decide_eq_true (rfl : ([] : Nm) = []), Bool.true_and]
      by_cases ho : okT k con t = true
      · rw [if_pos ⟨ho, rfl⟩, if_pos ho]
      · rw [if_neg (fun q => ho q.1), if_neg ho]
    · rw [if_neg (fun q => hn q.2), decide_eq_false hn, Bool.false_and, if_neg (by decide)]
theorem kdOf_not4 {k : Int} (h : k ≠ 4) : (((kdOf k : Nat) : Int) == 2) = false := by
  rcases kind_or k with rfl | rfl | rfl | rfl | hk
  · rfl
  · rfl
  · exact absurd rfl h
  · rfl
  · rw [kdOf_no hk]; rfl
set_option maxRecDepth 100000 in
set_option maxHeartbeats 4000000 in
theorem parts_core (a0 : Option Addr) (c m : Nat) (k : Int) (t : List UInt8) (n : Nm) (con : Bool) (w : World) (hn : m = n.length) (ht : t.length ≤ 100000) (hmk : Mk w) :
    Calls Tryz.prog 31 #[.agg #[.int .i64 k, .string (strOf t), .slice a0 m c], .bool con] w fun e w' => e = .returned (.bool (partsG con k t n)) ∧ Below w.heap.size w w' := by
  obtain ⟨W0, hW0⟩ : ∃ W0, W0 = w.alloc (.cells #[.int .i64 k, .string (strOf t), .slice a0 m c] 26) := ⟨_, rfl⟩
  have hwr : w.alloc (.cells #[.int .i64 k, .string (strOf t), .slice a0 m c] 26) = W0 := hW0.symm
  have hb0 : Below w.heap.size w W0 := by rw [hW0]; exact belowNew w _
  have hq0 : W0.heap[w.heap.size]? = some (.cells #[.int .i64 k, .string (strOf t), .slice a0 m c] 26 (0, 0)) := by rw [hW0]; exact heap_alloc_new w _
  obtain ⟨c0, c1, c2, l0⟩ := three_facts hq0
  have HB0 := Lib.hid hb0
  have HK := Lib.hid (gkind_any k (strOf t) a0 m c W0 (hmk.below hb0).2)
  have HI1 := Lib.hid (fun W (hb : Below w.heap.size w W) => pisname_any k t ht W (hmk.below hb).1)
  have HI2 := Lib.hid (fun W (hb : Below w.heap.size w W) => pisbase_any k t ht W (hmk.below hb).1)
  have hnil := nil_iff hn
  obtain ⟨E, hE⟩ : ∃ E, E = partsG con k t n := ⟨_, rfl⟩
  rw [← hE]
  clear hmk ht hn hW0 hb0 hq0
  by_cases h4 : k = 4
  · subst h4
    rw [show ((kdOf 4 : Nat) : Int) = 2 from rfl] at HK
    by_cases h0 : t = []
    · have HX := Lib.hid (show E = true by rw [hE]; unfold partsG; rw [if_pos rfl, decide_eq_true h0])
      obtain ⟨f1, f2⟩ := empty_is h0
      clear h0 hE hnil
      go_enter Tryz.func31, Tryz.ntmps31
      go_wp2_with (go_at_call 26; (with_reducible refine HK.out.mono ?_); rintro e w1 ⟨rfl, hb1⟩; have HB1 := Lib.hid (below_next HB0.out hb1); have d1 := (hb1.cell (p := ⟨w.heap.size, 1, none⟩) l0).trans c1; have d2 := (hb1.cell (p := ⟨w.heap.size, 2, none⟩) l0).trans c2; clear hb1)
      go_ret
      exact ⟨by rw [HX.out]; rfl, HB1.out⟩
    · have HX := Lib.hid (show E = false by rw [hE]; unfold partsG; rw [if_pos rfl, decide_eq_false h0])
      obtain ⟨f1, f2⟩ := empty_not h0
      clear h0 hE hnil
      go_enter Tryz.func31, Tryz.ntmps31
      go_wp2_with (go_at_call 26; (with_reducible refine HK.out.mono ?_); rintro e w1 ⟨rfl, hb1⟩; have HB1 := Lib.hid (below_next HB0.out hb1); have d1 := (hb1.cell (p := ⟨w.heap.size, 1, none⟩) l0).trans c1; have d2 := (hb1.cell (p := ⟨w.heap.size, 2, none⟩) l0).trans c2; clear hb1)
      go_ret
      exact ⟨by rw [HX.out]; rfl, HB1.out⟩
  · have hz2 := kdOf_not4 h4
    by_cases hm : m = 0
    · have hd : decide ((0 : Int) < (m : Int)) = false := decide_eq_false (by omega)
      have hd2 : decide (0 < m) = false := decide_eq_false (by omega)
      have HX := Lib.hid (show E = okT k con t by rw [hE]; unfold partsG; rw [if_neg h4, decide_eq_true (hnil.2 hm), Bool.true_and])
      clear hm h4 hE hnil
      rw [HX.out]
      generalize ((kdOf k : Nat) : Int) = z at HK HI1 HI2 hz2
      cases con
      · skip
        go_enter Tryz.func31, Tryz.ntmps31
        go_wp2_with (first
          | (go_at_call 26; (with_reducible refine HK.out.mono ?_); rintro e w1 ⟨rfl, hb1⟩; have HB1 := Lib.hid (below_next HB0.out hb1); have d1 := (hb1.cell (p := ⟨w.heap.size, 1, none⟩) l0).trans c1; have d2 := (hb1.cell (p := ⟨w.heap.size, 2, none⟩) l0).trans c2; clear hb1)
          | (go_at_call 71; (with_reducible refine (HI1.out _ HB1.out).mono ?_); rintro e w2 ⟨rfl, hb2⟩; have HB2 := Lib.hid (below_next HB1.out hb2); clear hb2))
        go_ret
        exact ⟨rfl, HB2.out⟩
      · skip
        go_enter Tryz.func31, Tryz.ntmps31
        go_wp2_with (first
          | (go_at_call 26; (with_reducible refine HK.out.mono ?_); rintro e w1 ⟨rfl, hb1⟩; have HB1 := Lib.hid (below_next HB0.out hb1); have d1 := (hb1.cell (p := ⟨w.heap.size, 1, none⟩) l0).trans c1; have d2 := (hb1.cell (p := ⟨w.heap.size, 2, none⟩) l0).trans c2; clear hb1)
          | (go_at_call 70; (with_reducible refine (HI2.out _ HB1.out).mono ?_); rintro e w2 ⟨rfl, hb2⟩; have HB2 := Lib.hid (below_next HB1.out hb2); clear hb2))
        go_ret
        exact ⟨rfl, HB2.out⟩
    · have hd : decide ((0 : Int) < (m : Int)) = true := decide_eq_true (by omega)
      have hd2 : decide (0 < m) = true := decide_eq_true (by omega)
      have HX := Lib.hid (show E = false by rw [hE]; unfold partsG; rw [if_neg h4, decide_eq_false (fun q => hm (hnil.1 q)), Bool.false_and])
      clear hm h4 hE hnil
      generalize ((kdOf k : Nat) : Int) = z at HK HI1 HI2 hz2
      go_enter Tryz.func31, Tryz.ntmps31
      go_wp2_with (go_at_call 26; (with_reducible refine HK.out.mono ?_); rintro e w1 ⟨rfl, hb1⟩; have HB1 := Lib.hid (below_next HB0.out hb1); have d1 := (hb1.cell (p := ⟨w.heap.size, 1, none⟩) l0).trans c1; have d2 := (hb1.cell (p := ⟨w.heap.size, 2, none⟩) l0).trans c2; clear hb1)
      go_ret
      exact ⟨by rw [HX.out]; rfl, HB1.out⟩
set_option maxRecDepth 100000 in
set_option maxHeartbeats 4000000 in
theorem gchk_core (a0 : Option Addr) (c m : Nat) (k : Int) (t : List UInt8) (n : Nm) (con : Bool) (w : World) (h : RLies w a0 n) (hn : m = n.length) (ht : t.length ≤ 100000) (hs : SmallN n) (hT : Tab w) (hmk : Mk w) :
    Calls Tryz.prog 12 #[.agg #[.int .i64 k, .string (strOf t), .slice a0 m c], .bool con] w fun e w' => e = .returned (.int .i64 ((chkG con k t n : Nat) : Int)) ∧ Below w.heap.size w w' := by
  obtain ⟨W0, hW0⟩ : ∃ W0, W0 = w.alloc (.cells #[.int .i64 k, .string (strOf t), .slice a0 m c] 26) := ⟨_, rfl⟩
  have hwr : w.alloc (.cells #[.int .i64 k, .string (strOf t), .slice a0 m c] 26) = W0 := hW0.symm
  have hb0 : Below w.heap.size w W0 := by rw [hW0]; exact belowNew w _
  have hq0 : W0.heap[w.heap.size]? = some (.cells #[.int .i64 k, .string (strOf t), .slice a0 m c] 26 (0, 0)) := by rw [hW0]; exact heap_alloc_new w _
  obtain ⟨c0, c1, c2, l0⟩ := three_facts hq0
  have HB0 := Lib.hid hb0
  have HP := Lib.hid (parts_core a0 c m k t n con W0 hn ht (hmk.below hb0))
  have HC := Lib.hid (fun W (hb : Below w.heap.size w W) => chk_core a0 c m n W (h.below hb) hn hs (hT.below hb))
  have hE := chkG_parts con k t n
  generalize chkG con k t n = E at hE ⊢
  clear hmk ht hn hW0 hb0 hq0 h hs hT
  cases hp : partsG con k t n with
  | true =>
    rw [hp] at HP
    rw [hp, if_pos rfl] at hE
    subst hE
    clear hp
    go_enter Tryz.func12, Tryz.ntmps12
    go_wp2_with (first
      | (go_at_call 31; (with_reducible refine HP.out.mono ?_); rintro e w1 ⟨rfl, hb1⟩; have HB1 := Lib.hid (below_next HB0.out hb1); have d1 := (hb1.cell (p := ⟨w.heap.size, 1, none⟩) l0).trans c1; have d2 := (hb1.cell (p := ⟨w.heap.size, 2, none⟩) l0).trans c2; clear hb1)
      | (go_at_call 32; (with_reducible refine (HC.out _ HB1.out).mono ?_); rintro e w2 ⟨rfl, hb2⟩; have HB2 := Lib.hid (below_next HB1.out hb2); clear hb2))
    go_ret
    exact ⟨rfl, HB2.out⟩
  | false =>
    rw [hp] at HP
    rw [hp, if_neg (by decide)] at hE
    subst hE
    clear hp
    go_enter Tryz.func12, Tryz.ntmps12
    go_wp2_with (go_at_call 31; (with_reducible refine HP.out.mono ?_); rintro e w1 ⟨rfl, hb1⟩; have HB1 := Lib.hid (below_next HB0.out hb1); clear hb1)
    go_ret
    exact ⟨rfl, HB1.out⟩
end Go.Proofs.YtkiniledfcdgjaaGreatDoor
namespace Go.Proofs.YtkiniledfcdgjaaGreatDoor
open Go.RowKit

set_option maxRecDepth 100000 in
set_option maxHeartbeats 1000000 in
theorem next_end_t (p : Nat) (a : Option Addr) (cap : Nat) (zs : List Int) (k : Nat) (N : Nat) (w : World) (h : DeckAt w p a cap zs k) (hk : zs.length ≤ k) :
    Calls Tryz.prog 22 #[.pointer (some ⟨p, 0, none⟩), .int .i64 (N : Int)] w fun e w' => e = .returned (.int .i64 0) ∧ DeckAt w' p a cap zs k ∧ Below p w w' := by
  have HD := Lib.hid h
  obtain ⟨h1, _, _, _, h4⟩ := h
  obtain ⟨n, hn⟩ : ∃ n, n = zs.length := ⟨_, rfl⟩
  rw [← hn] at h1 hk h4
  have c0 : w.cell? ⟨p, 0, none⟩ = some (.slice a n cap) := by rw [Lib.cell_of_heap h1]; rfl
  have c1 : w.cell? ⟨p, 1, none⟩ = some (.int .i64 (k : Int)) := by rw [Lib.cell_of_heap h1]; rfl
  have d0 : decide ((n : Int) ≤ (k : Int)) = true := by simp; omega
  clear h1 hn
  go_enter Tryz.func22, Tryz.ntmps22
  go_wp2_with fail
  go_region
  go_wp2_with fail
  go_ret
  exact ⟨rfl, HD.out, (Below.refl _ _).drew⟩
set_option maxRecDepth 100000 in
set_option maxHeartbeats 1000000 in
theorem next_more_t (p : Nat) (a : Option Addr) (cap : Nat) (zs : List Int) (k : Nat) (N : Nat) (w : World) (h : DeckAt w p a cap zs k) (hk : k < zs.length) (hk2 : k < 1000) (hN : 0 < N) (hN2 : N ≤ 1099511627776) :
    Calls Tryz.prog 22 #[.pointer (some ⟨p, 0, none⟩), .int .i64 (N : Int)] w fun e w' => (∃ r : Nat, r < N ∧ e = .returned (.int .i64 (r : Int))) ∧ DeckAt w' p a cap zs (k + 1) ∧ Below p w w' := by
  have HD := Lib.hid h
  obtain ⟨h1, h2, h3, _, h4⟩ := h
  obtain ⟨b, o, ha, hc⟩ := h2.at k hk
  have hbp := h3 _ ha (fun e => by rw [e] at hk; exact absurd hk (Nat.not_lt_zero _))
  subst ha
  generalize zs.getD k 0 = z at hc
  obtain ⟨x, y, r, e1, x1, x2, e2, y1, y2, e3, hr⟩ := next_num z N hN hN2
  obtain ⟨n, hn⟩ : ∃ n, n = zs.length := ⟨_, rfl⟩
  rw [← hn] at h1 hk h4
  have c0 : w.cell? ⟨p, 0, none⟩ = some (.slice (some ⟨b, o, none⟩) n cap) := by rw [Lib.cell_of_heap h1]; rfl
  have c1 : w.cell? ⟨p, 1, none⟩ = some (.int .i64 (k : Int)) := by rw [Lib.cell_of_heap h1]; rfl
  have f1 : w.frozen? ⟨p, 1, none⟩ = false := Lib.frozen_of_heap h1 1
  have hne : b ≠ p := by simp at hbp; omega
  have d0 : decide ((n : Int) ≤ (k : Int)) = false := by simp; omega
  have HR := Lib.hid hr
  clear h1 hn h2 h3 hr hbp
  go_enter Tryz.func22, Tryz.ntmps22
  go_wp2_with fail
  go_region
  go_wp2_with fail
  go_region
  go_wp2_with fail
  go_ret
  exact ⟨⟨r, HR.out, rfl⟩, deck_set HD.out hk2, ((Below.refl p w).setCell (p := ⟨p, 1, none⟩) (Nat.le_refl _) _).drew.drew⟩

theorem next_any_t (p : Nat) (a : Option Addr) (cap : Nat) (zs : List Int) (k : Nat) (N : Nat) (w : World) (h : DeckAt w p a cap zs k) (hk2 : k < 1000) (hN : 0 < N) (hN2 : N ≤ 1099511627776) :
    Calls Tryz.prog 22 #[.pointer (some ⟨p, 0, none⟩), .int .i64 (N : Int)] w fun e w' => ∃ r k' : Nat, r < N ∧ e = .returned (.int .i64 (r : Int)) ∧ DeckAt w' p a cap zs k' ∧ k' ≤ k + 1 ∧ Below p w w' := by
  by_cases hk : k < zs.length
  · exact (next_more_t p a cap zs k N w h hk hk2 hN hN2).mono fun e w' hh => by
      obtain ⟨⟨r, hr, he⟩, h1, h2⟩ := hh
      exact ⟨r, k + 1, hr, he, h1, Nat.le_refl _, h2⟩
  · exact (next_end_t p a cap zs k N w h (by omega)).mono fun e w' hh => ⟨0, k, hN, by rw [hh.1]; rfl, hh.2.1, by omega, hh.2.2⟩

end Go.Proofs.YtkiniledfcdgjaaGreatDoor
namespace Go.Proofs.YtkiniledfcdgjaaGreatDoor
open Go.RowKit

theorem deck_alloc {w : World} {p : Nat} {a : Option Addr} {cap : Nat} {zs : List Int} {k : Nat} (h : DeckAt w p a cap zs k) (o : Obj) : DeckAt (w.alloc o) p a cap zs k := by
  obtain ⟨h1, h2, h3, h5, h4⟩ := h
  have hp : p < w.heap.size := (Array.getElem?_eq_some_iff.1 h1).1
  exact ⟨heap_keep h1 o, h2.below ((Below.refl p w).alloc (by omega) o) h3, h3, h5, h4⟩
theorem next_int (p : Nat) (a : Option Addr) (cap : Nat) (zs : List Int) (k : Nat) (N : Nat) (M : Int) (w : World) (h : DeckAt w p a cap zs k) (hk2 : k < 1000) (hN : 0 < N) (hN2 : N ≤ 1099511627776) (hM : M = (N : Int)) :
    Calls Tryz.prog 22 #[.pointer (some ⟨p, 0, none⟩), .int .i64 M] w fun e w' => ∃ r k' : Nat, r < N ∧ e = .returned (.int .i64 (r : Int)) ∧ DeckAt w' p a cap zs k' ∧ k' ≤ k + 1 ∧ Below p w w' := by
  rw [hM]
  exact next_any_t p a cap zs k N w h hk2 hN hN2

theorem below_any {p : Nat} {w w1 w2 w3 : World} {o : Obj} (h1 : Below p w w1) (h2 : Below p w1 w2) (h3 : Below p (w2.alloc o) w3) (hp : p ≤ w2.heap.size) : Below p w w3 :=
  ((h1.trans h2).alloc hp o).trans h3
end Go.Proofs.YtkiniledfcdgjaaGreatDoor
namespace Go.Proofs.YtkiniledfcdgjaaGreatDoor
open Go.RowKit

theorem next_intN (p : Nat) (a : Option Addr) (cap : Nat) (zs : List Int) (k : Nat) (N : Nat) (M : Int) (w : World) (h : DeckAt w p a cap zs k) (hk2 : k < 1000) (hN : 0 < N) (hN2 : N ≤ 1099511627776) (hM : M = (N : Int)) :
    Calls Tryz.prog 22 #[.pointer (some ⟨p, 0, none⟩), .int .i64 M] w fun e w' => ∃ r k' : Nat, r < N ∧ e = .returned (.int .i64 (r : Int)) ∧ DeckAt w' p a cap zs k' ∧ k' ≤ k + 1 ∧ But p w w' := by
  rw [hM]
  exact next_any p a cap zs k N w h hk2 hN hN2
theorem but_any {p : Nat} {w w1 w2 w3 : World} {o : Obj} (h1 : But p w w1) (h2 : But p w1 w2) (h3 : But p (w2.alloc o) w3) : But p w w3 :=
  ((h1.next h2).next (But.of (belowNew w2 o))).next h3
theorem but_drew {p : Nat} {w w' : World} (h : But p w w') : But p w w'.drew := h.next (But.of (Below.refl _ w').drew)
end Go.Proofs.YtkiniledfcdgjaaGreatDoor
namespace Go.Proofs.YtkiniledfcdgjaaGreatDoor
open Go.RowKit

theorem wr1_size (T : Int) (x : ByteArray) : (wr1 T x).size ≤ 131080 := wrapStr_size _ _
end Go.Proofs.YtkiniledfcdgjaaGreatDoor
namespace Go.Proofs.YtkiniledfcdgjaaGreatDoor
open Go.RowKit

theorem str_dig (d : UInt8) (w : World) : (convert 64 9 (.slice (some ⟨w.heap.size, 0, none⟩) 1 1)).run Tryz.prog (w.alloc (.cells #[.int .u8 ((d.toNat : Nat) : Int)] 5)) = .ok (.string (strOf [d])) (w.alloc (.cells #[.int .u8 ((d.toNat : Nat) : Int)] 5)) :=
  own_str (l := [d]) ⟨rfl, .inr ⟨w.heap.size, 1, _, rfl, Nat.le_refl _, heap_alloc_new w _, Nat.le_refl _, by decide, rfl, rfl⟩⟩

theorem conv_later (d : UInt8) (w w1 : World) (hb : Below (w.alloc (.cells #[.int .u8 ((d.toNat : Nat) : Int)] 5)).drew.heap.size (w.alloc (.cells #[.int .u8 ((d.toNat : Nat) : Int)] 5)).drew w1) :
    (convert 64 9 (.slice (some ⟨w.heap.size, 0, none⟩) 1 1)).run Tryz.prog w1 = .ok (.string (strOf [d])) w1 :=
  own_str (B := w.heap.size) (l := [d]) (own_below (w := (w.alloc (.cells #[.int .u8 ((d.toNat : Nat) : Int)] 5)).drew) (World.ownsRow.drew ⟨rfl, .inr ⟨w.heap.size, 1, _, rfl, Nat.le_refl _, heap_alloc_new w _, Nat.le_refl _, by decide, rfl, rfl⟩⟩) hb)
theorem str_dig_drew (d : UInt8) (w : World) : (convert 64 9 (.slice (some ⟨w.heap.size, 0, none⟩) 1 1)).run Tryz.prog (w.alloc (.cells #[.int .u8 ((d.toNat : Nat) : Int)] 5)).drew = .ok (.string (strOf [d])) (w.alloc (.cells #[.int .u8 ((d.toNat : Nat) : Int)] 5)).drew :=
  own_str (B := w.heap.size) (l := [d]) (World.ownsRow.drew ⟨rfl, .inr ⟨w.heap.size, 1, _, rfl, Nat.le_refl _, heap_alloc_new w _, Nat.le_refl _, by decide, rfl, rfl⟩⟩)
end Go.Proofs.YtkiniledfcdgjaaGreatDoor
