/-
  The contracts of Address, Range and AddressWithin of the program.
  All contracts of package host at one place.
  The contracts of gname's isName, isBase, hasParts and Check: the first error of a general name.
  The contract of certpathmade's ShortName: what it says is short has few and short parts.
  General names in memory, and the contract of the generator's ShortNames.
  The contract of the laws' spelled: a name in another spelling, which matches the one handed in; of the memory that was there only the deck's block has changed.
-/
import Derived.Test.YtbpdenfiifcfcaaGreatDoorKaw
import Derived.Test.YtbpdenfiifcfcaaGreatDoorKar
import Derived.Test.YtbpdenfiifcfcaaGreatDoorKag
import Derived.Test.YtbpdenfiifcfcaaGreatDoorKaq
import Derived.Test.YtbpdenfiifcfcaaGreatDoorKai
import Derived.Test.YtbpdenfiifcfcaaGreatDoorKak
import Derived.Test.YtbpdenfiifcfcaaGreatDoorKac
import Derived.Laws.AppendOwnNone
namespace Go.Proofs.YtbpdenfiifcfcaaGreatDoor
open Go.RowKit

set_option maxRecDepth 100000 in
set_option maxHeartbeats 1000000 in
theorem paddr_any (L : List UInt8) (_ : L.length ≤ 150000) (w : World) :
    Calls Tryz.prog 132 #[.string (strOf L)] w fun e w' => e = .returned (.bool (addrB L)) ∧ Below w.heap.size w w' := by
  have e0 := strOf_size L
  by_cases h : L.length = 4
  · have d1 : ((L.length : Int) == (4 : Int)) = true := by rw [h]; rfl
    have HE := Lib.hid (show addrB L = true by unfold addrB; rw [decide_eq_true h]; rfl)
    clear h
    go_enter Tryz.func132, Tryz.ntmps132
    go_wp2_with fail
    go_ret
    exact ⟨by rw [HE.out]; rfl, Below.refl _ _⟩
  · have d1 : ((L.length : Int) == (4 : Int)) = false := by simp; omega
    by_cases h2 : L.length = 16
    · have d2 : ((L.length : Int) == (16 : Int)) = true := by rw [h2]; rfl
      have HE := Lib.hid (show addrB L = true by unfold addrB; rw [decide_eq_true h2, Bool.or_true])
      clear h2
      go_enter Tryz.func132, Tryz.ntmps132
      go_wp2_with fail
      go_ret
      exact ⟨by rw [HE.out]; rfl, Below.refl _ _⟩
    · have d2 : ((L.length : Int) == (16 : Int)) = false := by simp; omega
      have HE := Lib.hid (show addrB L = false by unfold addrB; rw [decide_eq_false h, decide_eq_false h2]; rfl)
      go_enter Tryz.func132, Tryz.ntmps132
      go_wp2_with fail
      go_ret
      exact ⟨by rw [HE.out]; rfl, Below.refl _ _⟩

theorem pmask_is {M : List UInt8} {b : Bool} (h : maskOk true M = b) (hM : M.length ≤ 150000) (w : World) :
    Calls Tryz.prog 152 #[.string (strOf M)] w fun e w' => e = .returned (.bool b) ∧ Below w.heap.size w w' := by
  have := pmask_any M hM w
  rwa [h] at this

set_option maxRecDepth 100000 in
set_option maxHeartbeats 2000000 in
theorem prange_h (L : List UInt8) (h : Nat) (hh : h = 4 ∨ h = 16) (hL : L.length = 2 * h) (w : World) :
    Calls Tryz.prog 129 #[.string (strOf L)] w fun e w' => e = .returned (.bool (rangeB L)) ∧ Below w.heap.size w w' := by
  have es := strOf_size L
  have HP := Lib.hid (range_parts L h hh hL)
  have HH := Lib.hid (fun w => phalves_any L h hh hL w)
  have hT : (L.take h).length = h := by rw [List.length_take]; omega
  have hD : (L.drop h).length = h := by rw [List.length_drop]; omega
  have HM := Lib.hid (fun w => pmasked_any (L.take h) (L.drop h) (by omega) (by omega) w)
  have d8 : ((L.length : Int) != (8 : Int)) = decide (h = 16) := by
    rw [Bool.eq_iff_iff, bne_iff_ne, decide_eq_true_iff]; omega
  have d32 : ((L.length : Int) != (32 : Int)) = decide (h = 4) := by
    rw [Bool.eq_iff_iff, bne_iff_ne, decide_eq_true_iff]; omega
  generalize L.take h = T at *
  generalize L.drop h = D at *
  have hor : (decide (h = 16) && decide (h = 4)) = false := by
    rw [Bool.and_eq_false_iff, decide_eq_false_iff_not, decide_eq_false_iff_not]; omega
  cases h1 : maskOk true D with
  | false =>
    have HE := Lib.hid (show rangeB L = false by rw [HP.out, h1]; rfl)
    have HK := Lib.hid (fun w => pmask_is h1 (by omega) w)
    clear h1
    rcases hh with rfl | rfl
    · have d8a : ((L.length : Int) != (8 : Int)) = false := d8
      have d32a : ((L.length : Int) != (32 : Int)) = true := d32
      clear d8 d32 hor hT hD hL
      go_enter Tryz.func129, Tryz.ntmps129
      go_wp2_with (first
        | (go_at_call 145; (with_reducible refine (HH.out _).mono ?_); rintro e w1 ⟨rfl, hb1⟩; have HB1 := Lib.hid hb1; clear hb1)
        | (go_at_call 152; (with_reducible refine (HK.out _).mono ?_); rintro e w2 ⟨rfl, hb2⟩; have HB2 := Lib.hid (below_next HB1.out hb2); clear hb2))
      go_ret
      exact ⟨by rw [HE.out]; rfl, HB2.out⟩
    · have d8a : ((L.length : Int) != (8 : Int)) = true := d8
      have d32a : ((L.length : Int) != (32 : Int)) = false := d32
      clear d8 d32 hor hT hD hL
      go_enter Tryz.func129, Tryz.ntmps129
      go_wp2_with (first
        | (go_at_call 145; (with_reducible refine (HH.out _).mono ?_); rintro e w1 ⟨rfl, hb1⟩; have HB1 := Lib.hid hb1; clear hb1)
        | (go_at_call 152; (with_reducible refine (HK.out _).mono ?_); rintro e w2 ⟨rfl, hb2⟩; have HB2 := Lib.hid (below_next HB1.out hb2); clear hb2))
      go_ret
      exact ⟨by rw [HE.out]; rfl, HB2.out⟩
  | true =>
    have HK := Lib.hid (fun w => pmask_is h1 (by omega) w)
    by_cases h2 : mskd T D = T
    · have HE := Lib.hid (show rangeB L = true by rw [HP.out, h1, decide_eq_true h2]; rfl)
      obtain ⟨f1, f2⟩ := same_is h2
      generalize mskd T D = X at *
      clear h1 h2
      rcases hh with rfl | rfl
      · have d8a : ((L.length : Int) != (8 : Int)) = false := d8
        have d32a : ((L.length : Int) != (32 : Int)) = true := d32
        clear d8 d32 hor hT hD hL
        go_enter Tryz.func129, Tryz.ntmps129
        go_wp2_with (first
          | (go_at_call 145; (with_reducible refine (HH.out _).mono ?_); rintro e w1 ⟨rfl, hb1⟩; have HB1 := Lib.hid hb1; clear hb1)
          | (go_at_call 152; (with_reducible refine (HK.out _).mono ?_); rintro e w2 ⟨rfl, hb2⟩; have HB2 := Lib.hid (below_next HB1.out hb2); clear hb2)
          | (go_at_call 146; (with_reducible refine (HM.out _).mono ?_); rintro e w3 ⟨rfl, hb3⟩; have HB3 := Lib.hid (below_next HB2.out hb3); clear hb3))
        go_ret
        exact ⟨by rw [HE.out]; rfl, HB3.out⟩
      · have d8a : ((L.length : Int) != (8 : Int)) = true := d8
        have d32a : ((L.length : Int) != (32 : Int)) = false := d32
        clear d8 d32 hor hT hD hL
        go_enter Tryz.func129, Tryz.ntmps129
        go_wp2_with (first
          | (go_at_call 145; (with_reducible refine (HH.out _).mono ?_); rintro e w1 ⟨rfl, hb1⟩; have HB1 := Lib.hid hb1; clear hb1)
          | (go_at_call 152; (with_reducible refine (HK.out _).mono ?_); rintro e w2 ⟨rfl, hb2⟩; have HB2 := Lib.hid (below_next HB1.out hb2); clear hb2)
          | (go_at_call 146; (with_reducible refine (HM.out _).mono ?_); rintro e w3 ⟨rfl, hb3⟩; have HB3 := Lib.hid (below_next HB2.out hb3); clear hb3))
        go_ret
        exact ⟨by rw [HE.out]; rfl, HB3.out⟩
    · have HE := Lib.hid (show rangeB L = false by rw [HP.out, h1, decide_eq_false h2]; rfl)
      obtain ⟨f1, f2⟩ := same_not h2
      generalize mskd T D = X at *
      clear h1 h2
      rcases hh with rfl | rfl
      · have d8a : ((L.length : Int) != (8 : Int)) = false := d8
        have d32a : ((L.length : Int) != (32 : Int)) = true := d32
        clear d8 d32 hor hT hD hL
        go_enter Tryz.func129, Tryz.ntmps129
        go_wp2_with (first
          | (go_at_call 145; (with_reducible refine (HH.out _).mono ?_); rintro e w1 ⟨rfl, hb1⟩; have HB1 := Lib.hid hb1; clear hb1)
          | (go_at_call 152; (with_reducible refine (HK.out _).mono ?_); rintro e w2 ⟨rfl, hb2⟩; have HB2 := Lib.hid (below_next HB1.out hb2); clear hb2)
          | (go_at_call 146; (with_reducible refine (HM.out _).mono ?_); rintro e w3 ⟨rfl, hb3⟩; have HB3 := Lib.hid (below_next HB2.out hb3); clear hb3))
        go_ret
        exact ⟨by rw [HE.out]; rfl, HB3.out⟩
      · have d8a : ((L.length : Int) != (8 : Int)) = true := d8
        have d32a : ((L.length : Int) != (32 : Int)) = false := d32
        clear d8 d32 hor hT hD hL
        go_enter Tryz.func129, Tryz.ntmps129
        go_wp2_with (first
          | (go_at_call 145; (with_reducible refine (HH.out _).mono ?_); rintro e w1 ⟨rfl, hb1⟩; have HB1 := Lib.hid hb1; clear hb1)
          | (go_at_call 152; (with_reducible refine (HK.out _).mono ?_); rintro e w2 ⟨rfl, hb2⟩; have HB2 := Lib.hid (below_next HB1.out hb2); clear hb2)
          | (go_at_call 146; (with_reducible refine (HM.out _).mono ?_); rintro e w3 ⟨rfl, hb3⟩; have HB3 := Lib.hid (below_next HB2.out hb3); clear hb3))
        go_ret
        exact ⟨by rw [HE.out]; rfl, HB3.out⟩
set_option maxRecDepth 100000 in
set_option maxHeartbeats 2000000 in
theorem prange_any (L : List UInt8) (_ : L.length ≤ 150000) (w : World) :
    Calls Tryz.prog 129 #[.string (strOf L)] w fun e w' => e = .returned (.bool (rangeB L)) ∧ Below w.heap.size w w' := by
  by_cases h1 : L.length = 8
  · exact prange_h L 4 (.inl rfl) (by omega) w
  · by_cases h2 : L.length = 32
    · exact prange_h L 16 (.inr rfl) (by omega) w
    · have es := strOf_size L
      have HE := Lib.hid (range_no h1 h2)
      have d8 : ((L.length : Int) != (8 : Int)) = true := by simp; omega
      have d32 : ((L.length : Int) != (32 : Int)) = true := by simp; omega
      go_enter Tryz.func129, Tryz.ntmps129
      go_wp2_with fail
      go_ret
      exact ⟨by rw [HE.out]; rfl, Below.refl _ _⟩
theorem prange_is {L : List UInt8} {b : Bool} (h : rangeB L = b) (hL : L.length ≤ 150000) (w : World) :
    Calls Tryz.prog 129 #[.string (strOf L)] w fun e w' => e = .returned (.bool b) ∧ Below w.heap.size w w' := by
  have := prange_any L hL w
  rwa [h] at this
theorem pmasked_is {S M X : List UInt8} (h : mskd S M = X) (hS : S.length ≤ 150000) (hM : S.length ≤ M.length) (w : World) :
    Calls Tryz.prog 146 #[.string (strOf S), .string (strOf M)] w fun e w' => e = .returned (.string (strOf X)) ∧ Below w.heap.size w w' := by
  have := pmasked_any S M hS hM w
  rwa [h] at this
set_option maxRecDepth 100000 in
set_option maxHeartbeats 4000000 in
theorem paw_any (a b : List UInt8) (ha : a.length ≤ 150000) (hb : b.length ≤ 150000) (w : World) :
    Calls Tryz.prog 121 #[.string (strOf a), .string (strOf b)] w fun e w' => e = .returned (.bool (addrWithinB a b)) ∧ Below w.heap.size w w' := by
  have ea := strOf_size a
  have eb := strOf_size b
  cases h1 : rangeB b with
  | false =>
    have HE := Lib.hid (within_bad (a := a) h1)
    have H1 := Lib.hid (fun w => prange_is h1 hb w)
    clear h1
    go_enter Tryz.func121, Tryz.ntmps121
    go_wp2_with (go_at_call 129; (with_reducible refine (H1.out _).mono ?_); rintro e w1 ⟨rfl, hb1⟩; have HB1 := Lib.hid hb1; clear hb1)
    go_ret
    exact ⟨by rw [HE.out]; rfl, HB1.out⟩
  | true =>
    obtain ⟨h, hh, hr⟩ : ∃ h, (h = 4 ∨ h = 16) ∧ b.length = 2 * h := by
      rcases range_sizes h1 with e | e
      · exact ⟨4, .inl rfl, by omega⟩
      · exact ⟨16, .inr rfl, by omega⟩
    have H1 := Lib.hid (fun w => prange_is h1 hb w)
    have H2 := Lib.hid (fun w => phalves_any b h hh hr w)
    have hT : (b.take h).length = h := by rw [List.length_take]; omega
    have hD : (b.drop h).length = h := by rw [List.length_drop]; omega
    have eT := strOf_size (b.take h)
    by_cases k1 : a.length = 2 * h
    · have HW := Lib.hid (within_range (a := a) hh hr h1 k1)
      have g1 : ((a.length : Int) == (b.length : Int)) = true := by rw [beq_iff_eq]; omega
      have H3 := Lib.hid (fun w => phalves_any a h hh k1 w)
      have hTa : (a.take h).length = h := by rw [List.length_take]; omega
      have hDa : (a.drop h).length = h := by rw [List.length_drop]; omega
      generalize b.take h = T at *
      generalize b.drop h = D at *
      generalize a.take h = Ta at *
      generalize a.drop h = Da at *
      obtain ⟨A, hA⟩ : ∃ A, strOf a = A := ⟨_, rfl⟩
      obtain ⟨B, hB⟩ : ∃ B, strOf b = B := ⟨_, rfl⟩
      cases h2 : rangeB a with
      | false =>
        have HE := Lib.hid (show addrWithinB a b = false by rw [HW.out, h2]; rfl)
        have H4 := Lib.hid (fun w => prange_is h2 ha w)
        rw [hA] at H3 H4 ea ⊢
        rw [hB] at H1 H2 eb ⊢
        clear h1 h2 hA hB hh hr
        go_enter Tryz.func121, Tryz.ntmps121
        go_wp2_with (first
          | (go_at_call 129; (with_reducible refine (H1.out _).mono ?_); rintro e w1 ⟨rfl, hb1⟩; have HB1 := Lib.hid hb1; clear hb1; clear H1)
          | (go_at_call 145; (with_reducible refine (H2.out _).mono ?_); rintro e w2 ⟨rfl, hb2⟩; have HB2 := Lib.hid (below_next HB1.out hb2); clear hb2; clear H2)
          | (go_at_call 145; (with_reducible refine (H3.out _).mono ?_); rintro e w3 ⟨rfl, hb3⟩; have HB3 := Lib.hid (below_next HB2.out hb3); clear hb3; clear H3)
          | (go_at_call 129; (with_reducible refine (H4.out _).mono ?_); rintro e w4 ⟨rfl, hb4⟩; have HB4 := Lib.hid (below_next HB3.out hb4); clear hb4; clear H4))
        go_ret
        exact ⟨by rw [HE.out]; rfl, HB4.out⟩
      | true =>
        have H4 := Lib.hid (fun w => prange_is h2 ha w)
        obtain ⟨X, hX⟩ : ∃ X, mskd D Da = X := ⟨_, rfl⟩
        have H5 := Lib.hid (fun w => pmasked_is hX (by omega) (by omega) w)
        rw [hX] at HW
        by_cases h3 : X = D
        · obtain ⟨f1, f2⟩ := same_is h3
          obtain ⟨Y, hY⟩ : ∃ Y, mskd Ta D = Y := ⟨_, rfl⟩
          have H6 := Lib.hid (fun w => pmasked_is hY (by omega) (by omega) w)
          rw [hY, h2, decide_eq_true h3] at HW
          clear hX h3
          by_cases h4 : Y = T
          · obtain ⟨f3, f4⟩ := same_is h4
            have HE := Lib.hid (show addrWithinB a b = true by rw [HW.out, decide_eq_true h4]; rfl)
            rw [hA] at H3 H4 ea ⊢
            rw [hB] at H1 H2 eb ⊢
            clear h1 h2 h4 hY hA hB hh hr
            go_enter Tryz.func121, Tryz.ntmps121
            go_wp2_with (first
              | (go_at_call 129; (with_reducible refine (H1.out _).mono ?_); rintro e w1 ⟨rfl, hb1⟩; have HB1 := Lib.hid hb1; clear hb1; clear H1)
              | (go_at_call 145; (with_reducible refine (H2.out _).mono ?_); rintro e w2 ⟨rfl, hb2⟩; have HB2 := Lib.hid (below_next HB1.out hb2); clear hb2; clear H2)
              | (go_at_call 145; (with_reducible refine (H3.out _).mono ?_); rintro e w3 ⟨rfl, hb3⟩; have HB3 := Lib.hid (below_next HB2.out hb3); clear hb3; clear H3)
              | (go_at_call 129; (with_reducible refine (H4.out _).mono ?_); rintro e w4 ⟨rfl, hb4⟩; have HB4 := Lib.hid (below_next HB3.out hb4); clear hb4; clear H4)
              | (go_at_call 146; (with_reducible refine (H5.out _).mono ?_); rintro e w5 ⟨rfl, hb5⟩; have HB5 := Lib.hid (below_next HB4.out hb5); clear hb5; clear H5)
              | (go_at_call 146; (with_reducible refine (H6.out _).mono ?_); rintro e w6 ⟨rfl, hb6⟩; have HB6 := Lib.hid (below_next HB5.out hb6); clear hb6; clear H6))
            go_ret
            exact ⟨by rw [HE.out]; rfl, HB6.out⟩
          · obtain ⟨f3, f4⟩ := same_not h4
            have HE := Lib.hid (show addrWithinB a b = false by rw [HW.out, decide_eq_false h4]; rfl)
            rw [hA] at H3 H4 ea ⊢
            rw [hB] at H1 H2 eb ⊢
            clear h1 h2 h4 hY hA hB hh hr
            go_enter Tryz.func121, Tryz.ntmps121
            go_wp2_with (first
              | (go_at_call 129; (with_reducible refine (H1.out _).mono ?_); rintro e w1 ⟨rfl, hb1⟩; have HB1 := Lib.hid hb1; clear hb1; clear H1)
              | (go_at_call 145; (with_reducible refine (H2.out _).mono ?_); rintro e w2 ⟨rfl, hb2⟩; have HB2 := Lib.hid (below_next HB1.out hb2); clear hb2; clear H2)
              | (go_at_call 145; (with_reducible refine (H3.out _).mono ?_); rintro e w3 ⟨rfl, hb3⟩; have HB3 := Lib.hid (below_next HB2.out hb3); clear hb3; clear H3)
              | (go_at_call 129; (with_reducible refine (H4.out _).mono ?_); rintro e w4 ⟨rfl, hb4⟩; have HB4 := Lib.hid (below_next HB3.out hb4); clear hb4; clear H4)
              | (go_at_call 146; (with_reducible refine (H5.out _).mono ?_); rintro e w5 ⟨rfl, hb5⟩; have HB5 := Lib.hid (below_next HB4.out hb5); clear hb5; clear H5)
              | (go_at_call 146; (with_reducible refine (H6.out _).mono ?_); rintro e w6 ⟨rfl, hb6⟩; have HB6 := Lib.hid (below_next HB5.out hb6); clear hb6; clear H6))
            go_ret
            exact ⟨by rw [HE.out]; rfl, HB6.out⟩
        · obtain ⟨f1, f2⟩ := same_not h3
          have HE := Lib.hid (show addrWithinB a b = false by rw [HW.out, decide_eq_false h3, Bool.and_false, Bool.false_and])
          rw [hA] at H3 H4 ea ⊢
          rw [hB] at H1 H2 eb ⊢
          clear h1 h2 h3 hX hA hB hh hr
          go_enter Tryz.func121, Tryz.ntmps121
          go_wp2_with (first
            | (go_at_call 129; (with_reducible refine (H1.out _).mono ?_); rintro e w1 ⟨rfl, hb1⟩; have HB1 := Lib.hid hb1; clear hb1; clear H1)
            | (go_at_call 145; (with_reducible refine (H2.out _).mono ?_); rintro e w2 ⟨rfl, hb2⟩; have HB2 := Lib.hid (below_next HB1.out hb2); clear hb2; clear H2)
            | (go_at_call 145; (with_reducible refine (H3.out _).mono ?_); rintro e w3 ⟨rfl, hb3⟩; have HB3 := Lib.hid (below_next HB2.out hb3); clear hb3; clear H3)
            | (go_at_call 129; (with_reducible refine (H4.out _).mono ?_); rintro e w4 ⟨rfl, hb4⟩; have HB4 := Lib.hid (below_next HB3.out hb4); clear hb4; clear H4)
            | (go_at_call 146; (with_reducible refine (H5.out _).mono ?_); rintro e w5 ⟨rfl, hb5⟩; have HB5 := Lib.hid (below_next HB4.out hb5); clear hb5; clear H5))
          go_ret
          exact ⟨by rw [HE.out]; rfl, HB5.out⟩
    · have g1 : ((a.length : Int) == (b.length : Int)) = false := by rw [beq_eq_false_iff_ne]; omega
      by_cases k2 : a.length = h
      · have HW := Lib.hid (within_addr hh hr h1 k2)
        have g2 : ((a.length : Int) == ((b.take h).length : Int)) = true := by rw [beq_iff_eq]; omega
        obtain ⟨Y, hY⟩ : ∃ Y, mskd a (b.drop h) = Y := ⟨_, rfl⟩
        have H6 := Lib.hid (fun w => pmasked_is hY (by omega) (by omega) w)
        rw [hY] at HW
        generalize b.take h = T at *
        generalize b.drop h = D at *
        obtain ⟨A, hA⟩ : ∃ A, strOf a = A := ⟨_, rfl⟩
        obtain ⟨B, hB⟩ : ∃ B, strOf b = B := ⟨_, rfl⟩
        by_cases h4 : Y = T
        · obtain ⟨f3, f4⟩ := same_is h4
          have HE := Lib.hid (show addrWithinB a b = true by rw [HW.out, decide_eq_true h4])
          rw [hA] at H6 ea ⊢
          rw [hB] at H1 H2 eb ⊢
          clear h1 h4 hY hA hB hh hr
          go_enter Tryz.func121, Tryz.ntmps121
          go_wp2_with (first
            | (go_at_call 129; (with_reducible refine (H1.out _).mono ?_); rintro e w1 ⟨rfl, hb1⟩; have HB1 := Lib.hid hb1; clear hb1; clear H1)
            | (go_at_call 145; (with_reducible refine (H2.out _).mono ?_); rintro e w2 ⟨rfl, hb2⟩; have HB2 := Lib.hid (below_next HB1.out hb2); clear hb2; clear H2)
            | (go_at_call 146; (with_reducible refine (H6.out _).mono ?_); rintro e w6 ⟨rfl, hb6⟩; have HB6 := Lib.hid (below_next HB2.out hb6); clear hb6; clear H6))
          go_ret
          exact ⟨by rw [HE.out]; rfl, HB6.out⟩
        · obtain ⟨f3, f4⟩ := same_not h4
          have HE := Lib.hid (show addrWithinB a b = false by rw [HW.out, decide_eq_false h4])
          rw [hA] at H6 ea ⊢
          rw [hB] at H1 H2 eb ⊢
          clear h1 h4 hY hA hB hh hr
          go_enter Tryz.func121, Tryz.ntmps121
          go_wp2_with (first
            | (go_at_call 129; (with_reducible refine (H1.out _).mono ?_); rintro e w1 ⟨rfl, hb1⟩; have HB1 := Lib.hid hb1; clear hb1; clear H1)
            | (go_at_call 145; (with_reducible refine (H2.out _).mono ?_); rintro e w2 ⟨rfl, hb2⟩; have HB2 := Lib.hid (below_next HB1.out hb2); clear hb2; clear H2)
            | (go_at_call 146; (with_reducible refine (H6.out _).mono ?_); rintro e w6 ⟨rfl, hb6⟩; have HB6 := Lib.hid (below_next HB2.out hb6); clear hb6; clear H6))
          go_ret
          exact ⟨by rw [HE.out]; rfl, HB6.out⟩
      · have HE := Lib.hid (within_none (a := a) hr k1 k2)
        have g2 : ((a.length : Int) == ((b.take h).length : Int)) = false := by rw [beq_eq_false_iff_ne]; omega
        generalize b.take h = T at *
        generalize b.drop h = D at *
        clear h1 hh hr
        go_enter Tryz.func121, Tryz.ntmps121
        go_wp2_with (first
          | (go_at_call 129; (with_reducible refine (H1.out _).mono ?_); rintro e w1 ⟨rfl, hb1⟩; have HB1 := Lib.hid hb1; clear hb1)
          | (go_at_call 145; (with_reducible refine (H2.out _).mono ?_); rintro e w2 ⟨rfl, hb2⟩; have HB2 := Lib.hid (below_next HB1.out hb2); clear hb2))
        go_ret
        exact ⟨by rw [HE.out]; rfl, HB2.out⟩
end Go.Proofs.YtbpdenfiifcfcaaGreatDoor

namespace Go.Proofs.YtbpdenfiifcfcaaGreatDoor
open Go.RowKit

set_option maxRecDepth 100000 in
set_option maxHeartbeats 2000000 in
theorem pisname_any (k : Int) (t : List UInt8) (ht : t.length ≤ 150000) (w : World) (hm : Mx w) :
    Calls Tryz.prog 108 #[.int .i64 ((kdOf k : Nat) : Int), .string (strOf t)] w fun e w' => e = .returned (.bool (okT k false t)) ∧ Below w.heap.size w w' := by
  rcases kind_or k with rfl | rfl | rfl | rfl | hk
  · have HC := Lib.hid (pmail_any t ht w hm)
    rw [show ((kdOf 1 : Nat) : Int) = 0 from rfl, show okT 1 false t = mailB t from rfl]
    clear hm
    go_enter Tryz.func108, Tryz.ntmps108
    go_wp2_with (go_at_call 130; (with_reducible refine HC.out.mono ?_); rintro e w1 ⟨rfl, hb1⟩; have HB1 := Lib.hid hb1; clear hb1)
    go_ret
    exact ⟨rfl, HB1.out⟩
  · have HC := Lib.hid (ppat_any t ht w)
    rw [show ((kdOf 2 : Nat) : Int) = 1 from rfl, show okT 2 false t = patB t from rfl]
    clear hm
    go_enter Tryz.func108, Tryz.ntmps108
    go_wp2_with (go_at_call 131; (with_reducible refine HC.out.mono ?_); rintro e w1 ⟨rfl, hb1⟩; have HB1 := Lib.hid hb1; clear hb1)
    go_ret
    exact ⟨rfl, HB1.out⟩
  · rw [show ((kdOf 4 : Nat) : Int) = 2 from rfl, show okT 4 false t = false from rfl]
    clear hm
    go_enter Tryz.func108, Tryz.ntmps108
    go_wp2_with fail
    go_ret
    exact ⟨rfl, Below.refl _ _⟩
  · have HC := Lib.hid (paddr_any t ht w)
    rw [show ((kdOf 7 : Nat) : Int) = 3 from rfl, show okT 7 false t = addrB t from rfl]
    clear hm
    go_enter Tryz.func108, Tryz.ntmps108
    go_wp2_with (go_at_call 132; (with_reducible refine HC.out.mono ?_); rintro e w1 ⟨rfl, hb1⟩; have HB1 := Lib.hid hb1; clear hb1)
    go_ret
    exact ⟨rfl, HB1.out⟩
  · rw [kdOf_no hk, okT_no hk]
    rw [show (((4 : Nat)) : Int) = 4 from rfl]
    clear hm hk
    go_enter Tryz.func108, Tryz.ntmps108
    go_wp2_with fail
    go_ret
    exact ⟨rfl, Below.refl _ _⟩
set_option maxRecDepth 100000 in
set_option maxHeartbeats 2000000 in
theorem pisbase_any (k : Int) (t : List UInt8) (ht : t.length ≤ 150000) (w : World) (hm : Mx w) :
    Calls Tryz.prog 107 #[.int .i64 ((kdOf k : Nat) : Int), .string (strOf t)] w fun e w' => e = .returned (.bool (okT k true t)) ∧ Below w.heap.size w w' := by
  rcases kind_or k with rfl | rfl | rfl | rfl | hk
  · have HC := Lib.hid (pmb_any t ht w hm)
    rw [show ((kdOf 1 : Nat) : Int) = 0 from rfl, show okT 1 true t = mailBaseB t from rfl]
    clear hm
    go_enter Tryz.func107, Tryz.ntmps107
    go_wp2_with (go_at_call 127; (with_reducible refine HC.out.mono ?_); rintro e w1 ⟨rfl, hb1⟩; have HB1 := Lib.hid hb1; clear hb1)
    go_ret
    exact ⟨rfl, HB1.out⟩
  · have HC := Lib.hid (pbase_any t ht w)
    rw [show ((kdOf 2 : Nat) : Int) = 1 from rfl, show okT 2 true t = baseB t from rfl]
    clear hm
    go_enter Tryz.func107, Tryz.ntmps107
    go_wp2_with (go_at_call 128; (with_reducible refine HC.out.mono ?_); rintro e w1 ⟨rfl, hb1⟩; have HB1 := Lib.hid hb1; clear hb1)
    go_ret
    exact ⟨rfl, HB1.out⟩
  · rw [show ((kdOf 4 : Nat) : Int) = 2 from rfl, show okT 4 true t = false from rfl]
    clear hm
    go_enter Tryz.func107, Tryz.ntmps107
    go_wp2_with fail
    go_ret
    exact ⟨rfl, Below.refl _ _⟩
  · have HC := Lib.hid (prange_any t ht w)
    rw [show ((kdOf 7 : Nat) : Int) = 3 from rfl, show okT 7 true t = rangeB t from rfl]
    clear hm
    go_enter Tryz.func107, Tryz.ntmps107
    go_wp2_with (go_at_call 129; (with_reducible refine HC.out.mono ?_); rintro e w1 ⟨rfl, hb1⟩; have HB1 := Lib.hid hb1; clear hb1)
    go_ret
    exact ⟨rfl, HB1.out⟩
  · rw [kdOf_no hk, okT_no hk]
    rw [show (((4 : Nat)) : Int) = 4 from rfl]
    clear hm hk
    go_enter Tryz.func107, Tryz.ntmps107
    go_wp2_with fail
    go_ret
    exact ⟨rfl, Below.refl _ _⟩
/-- Has a general name what its kind needs, and nothing else? -/
noncomputable def partsG (con : Bool) (k : Int) (t : List UInt8) (n : Nm) : Bool := if k = 4 then decide (t = []) else (decide (n = []) && okT k con t)
theorem chkN_nil : chkN [] = 0 := rfl
theorem chkG_parts (con : Bool) (k : Int) (t : List UInt8) (n : Nm) : chkG con k t n = if partsG con k t n = true then chkN n else 14 := by
  by_cases h4 : k = 4
  · subst h4
    rw [chkG_dir]
    unfold partsG
    rw [if_pos rfl]
    by_cases h0 : t = []
    · rw [if_pos h0, if_pos (decide_eq_true h0)]
    · rw [if_neg h0, if_neg (by rw [decide_eq_false h0]; decide)]
  · rw [chkG_not h4]
    unfold partsG
    rw [if_neg h4]
    by_cases hn : n = []
    · subst hn
      rw [chkN_nil, decide_eq_true (rfl : ([] : Nm) = []), Bool.true_and]
      by_cases ho : okT k con t = true
      · rw [if_pos ⟨ho, rfl⟩, if_pos ho]
      · rw [if_neg (fun q => ho q.1), if_neg ho]
    · rw [if_neg (fun q => hn q.2), decide_eq_false hn, Bool.false_and, if_neg (by decide)]
theorem kdOf_not4 {k : Int} (h : k ≠ 4) : (((kdOf k : Nat) : Int) == 2) = false := by
  rcases kind_or k with rfl | rfl | rfl | rfl | hk
  · rfl
  · rfl
  · exact absurd rfl h
  · rfl
  · rw [kdOf_no hk]; rfl
set_option maxRecDepth 100000 in
set_option maxHeartbeats 4000000 in
theorem parts_core (a0 : Option Addr) (c m : Nat) (k : Int) (t : List UInt8) (n : Nm) (con : Bool) (w : World) (hn : m = n.length) (ht : t.length ≤ 150000) (hmk : Mk w) :
    Calls Tryz.prog 84 #[.agg #[.int .i64 k, .string (strOf t), .slice a0 m c], .bool con] w fun e w' => e = .returned (.bool (partsG con k t n)) ∧ Below w.heap.size w w' := by
  obtain ⟨W0, hW0⟩ : ∃ W0, W0 = w.alloc (.cells #[.int .i64 k, .string (strOf t), .slice a0 m c] 29) := ⟨_, rfl⟩
  have hwr : w.alloc (.cells #[.int .i64 k, .string (strOf t), .slice a0 m c] 29) = W0 := hW0.symm
  have hb0 : Below w.heap.size w W0 := by rw [hW0]; exact belowNew w _
  have hq0 : W0.heap[w.heap.size]? = some (.cells #[.int .i64 k, .string (strOf t), .slice a0 m c] 29 (0, 0)) := by rw [hW0]; exact heap_alloc_new w _
  obtain ⟨c0, c1, c2, l0⟩ := three_facts hq0
  have HB0 := Lib.hid hb0
  have HK := Lib.hid (gkind_any k (strOf t) a0 m c W0 (hmk.below hb0).2)
  have HI1 := Lib.hid (fun W (hb : Below w.heap.size w W) => pisname_any k t ht W (hmk.below hb).1)
  have HI2 := Lib.hid (fun W (hb : Below w.heap.size w W) => pisbase_any k t ht W (hmk.below hb).1)
  have hnil := nil_iff hn
  obtain ⟨E, hE⟩ : ∃ E, E = partsG con k t n := ⟨_, rfl⟩
  rw [← hE]
  clear hmk ht hn hW0 hb0 hq0
  by_cases h4 : k = 4
  · subst h4
    rw [show ((kdOf 4 : Nat) : Int) = 2 from rfl] at HK
    by_cases h0 : t = []
    · have HX := Lib.hid (show E = true by rw [hE]; unfold partsG; rw [if_pos rfl, decide_eq_true h0])
      obtain ⟨f1, f2⟩ := empty_is h0
      clear h0 hE hnil
      go_enter Tryz.func84, Tryz.ntmps84
      go_wp2_with (go_at_call 100; (with_reducible refine HK.out.mono ?_); rintro e w1 ⟨rfl, hb1⟩; have HB1 := Lib.hid (below_next HB0.out hb1); have d1 := (hb1.cell (p := ⟨w.heap.size, 1, none⟩) l0).trans c1; have d2 := (hb1.cell (p := ⟨w.heap.size, 2, none⟩) l0).trans c2; clear hb1)
      go_ret
      exact ⟨by rw [HX.out]; rfl, HB1.out⟩
    · have HX := Lib.hid (show E = false by rw [hE]; unfold partsG; rw [if_pos rfl, decide_eq_false h0])
      obtain ⟨f1, f2⟩ := empty_not h0
      clear h0 hE hnil
      go_enter Tryz.func84, Tryz.ntmps84
      go_wp2_with (go_at_call 100; (with_reducible refine HK.out.mono ?_); rintro e w1 ⟨rfl, hb1⟩; have HB1 := Lib.hid (below_next HB0.out hb1); have d1 := (hb1.cell (p := ⟨w.heap.size, 1, none⟩) l0).trans c1; have d2 := (hb1.cell (p := ⟨w.heap.size, 2, none⟩) l0).trans c2; clear hb1)
      go_ret
      exact ⟨by rw [HX.out]; rfl, HB1.out⟩
  · have hz2 := kdOf_not4 h4
    by_cases hm : m = 0
    · have hd : decide ((0 : Int) < (m : Int)) = false := decide_eq_false (by omega)
      have hd2 : decide (0 < m) = false := decide_eq_false (by omega)
      have HX := Lib.hid (show E = okT k con t by rw [hE]; unfold partsG; rw [if_neg h4, decide_eq_true (hnil.2 hm), Bool.true_and])
      clear hm h4 hE hnil
      rw [HX.out]
      generalize ((kdOf k : Nat) : Int) = z at HK HI1 HI2 hz2
      cases con
      · skip
        go_enter Tryz.func84, Tryz.ntmps84
        go_wp2_with (first
          | (go_at_call 100; (with_reducible refine HK.out.mono ?_); rintro e w1 ⟨rfl, hb1⟩; have HB1 := Lib.hid (below_next HB0.out hb1); have d1 := (hb1.cell (p := ⟨w.heap.size, 1, none⟩) l0).trans c1; have d2 := (hb1.cell (p := ⟨w.heap.size, 2, none⟩) l0).trans c2; clear hb1)
          | (go_at_call 108; (with_reducible refine (HI1.out _ HB1.out).mono ?_); rintro e w2 ⟨rfl, hb2⟩; have HB2 := Lib.hid (below_next HB1.out hb2); clear hb2))
        go_ret
        exact ⟨rfl, HB2.out⟩
      · skip
        go_enter Tryz.func84, Tryz.ntmps84
        go_wp2_with (first
          | (go_at_call 100; (with_reducible refine HK.out.mono ?_); rintro e w1 ⟨rfl, hb1⟩; have HB1 := Lib.hid (below_next HB0.out hb1); have d1 := (hb1.cell (p := ⟨w.heap.size, 1, none⟩) l0).trans c1; have d2 := (hb1.cell (p := ⟨w.heap.size, 2, none⟩) l0).trans c2; clear hb1)
          | (go_at_call 107; (with_reducible refine (HI2.out _ HB1.out).mono ?_); rintro e w2 ⟨rfl, hb2⟩; have HB2 := Lib.hid (below_next HB1.out hb2); clear hb2))
        go_ret
        exact ⟨rfl, HB2.out⟩
    · have hd : decide ((0 : Int) < (m : Int)) = true := decide_eq_true (by omega)
      have hd2 : decide (0 < m) = true := decide_eq_true (by omega)
      have HX := Lib.hid (show E = false by rw [hE]; unfold partsG; rw [if_neg h4, decide_eq_false (fun q => hm (hnil.1 q)), Bool.false_and])
      clear hm h4 hE hnil
      generalize ((kdOf k : Nat) : Int) = z at HK HI1 HI2 hz2
      go_enter Tryz.func84, Tryz.ntmps84
      go_wp2_with (go_at_call 100; (with_reducible refine HK.out.mono ?_); rintro e w1 ⟨rfl, hb1⟩; have HB1 := Lib.hid (below_next HB0.out hb1); have d1 := (hb1.cell (p := ⟨w.heap.size, 1, none⟩) l0).trans c1; have d2 := (hb1.cell (p := ⟨w.heap.size, 2, none⟩) l0).trans c2; clear hb1)
      go_ret
      exact ⟨by rw [HX.out]; rfl, HB1.out⟩
set_option maxRecDepth 100000 in
set_option maxHeartbeats 4000000 in
theorem gchk_core (a0 : Option Addr) (c m : Nat) (k : Int) (t : List UInt8) (n : Nm) (con : Bool) (w : World) (h : RLies w a0 n) (hn : m = n.length) (ht : t.length ≤ 150000) (hs : SmallN n) (hT : Tab w) (hmk : Mk w) :
    Calls Tryz.prog 55 #[.agg #[.int .i64 k, .string (strOf t), .slice a0 m c], .bool con] w fun e w' => e = .returned (.int .i64 ((chkG con k t n : Nat) : Int)) ∧ Below w.heap.size w w' := by
  obtain ⟨W0, hW0⟩ : ∃ W0, W0 = w.alloc (.cells #[.int .i64 k, .string (strOf t), .slice a0 m c] 29) := ⟨_, rfl⟩
  have hwr : w.alloc (.cells #[.int .i64 k, .string (strOf t), .slice a0 m c] 29) = W0 := hW0.symm
  have hb0 : Below w.heap.size w W0 := by rw [hW0]; exact belowNew w _
  have hq0 : W0.heap[w.heap.size]? = some (.cells #[.int .i64 k, .string (strOf t), .slice a0 m c] 29 (0, 0)) := by rw [hW0]; exact heap_alloc_new w _
  obtain ⟨c0, c1, c2, l0⟩ := three_facts hq0
  have HB0 := Lib.hid hb0
  have HP := Lib.hid (parts_core a0 c m k t n con W0 hn ht (hmk.below hb0))
  have HC := Lib.hid (fun W (hb : Below w.heap.size w W) => chk_core a0 c m n W (h.below hb) hn hs (hT.below hb))
  have hE := chkG_parts con k t n
  generalize chkG con k t n = E at hE ⊢
  clear hmk ht hn hW0 hb0 hq0 h hs hT
  cases hp : partsG con k t n with
  | true =>
    rw [hp] at HP
    rw [hp, if_pos rfl] at hE
    subst hE
    clear hp
    go_enter Tryz.func55, Tryz.ntmps55
    go_wp2_with (first
      | (go_at_call 84; (with_reducible refine HP.out.mono ?_); rintro e w1 ⟨rfl, hb1⟩; have HB1 := Lib.hid (below_next HB0.out hb1); have d1 := (hb1.cell (p := ⟨w.heap.size, 1, none⟩) l0).trans c1; have d2 := (hb1.cell (p := ⟨w.heap.size, 2, none⟩) l0).trans c2; clear hb1)
      | (go_at_call 85; (with_reducible refine (HC.out _ HB1.out).mono ?_); rintro e w2 ⟨rfl, hb2⟩; have HB2 := Lib.hid (below_next HB1.out hb2); clear hb2))
    go_ret
    exact ⟨rfl, HB2.out⟩
  | false =>
    rw [hp] at HP
    rw [hp, if_neg (by decide)] at hE
    subst hE
    clear hp
    go_enter Tryz.func55, Tryz.ntmps55
    go_wp2_with (go_at_call 84; (with_reducible refine HP.out.mono ?_); rintro e w1 ⟨rfl, hb1⟩; have HB1 := Lib.hid (below_next HB0.out hb1); clear hb1)
    go_ret
    exact ⟨rfl, HB1.out⟩
end Go.Proofs.YtbpdenfiifcfcaaGreatDoor
namespace Go.Proofs.YtbpdenfiifcfcaaGreatDoor
open Go.RowKit

/-- A name of at most twelve relative names of at most eight attributes, each of at most 200 bytes. -/
def ShR (r : List At) : Prop := r.length ≤ 8 ∧ ∀ i, i < r.length → (r.getD i noAt).1.size ≤ 200 ∧ (r.getD i noAt).2.2.size ≤ 200
def ShN (n : Nm) : Prop := n.length ≤ 12 ∧ ∀ i, i < n.length → ShR (n.getD i [])
theorem ShN.small {n : Nm} (h : ShN n) : SmallN n :=
  ⟨Nat.le_trans h.1 (by omega), fun i hi => ⟨Nat.le_trans (h.2 i hi).1 (by omega), fun j hj => ⟨Nat.le_trans ((h.2 i hi).2 j hj).1 (by omega), Nat.le_trans ((h.2 i hi).2 j hj).2 (by omega)⟩⟩⟩

end Go.Proofs.YtbpdenfiifcfcaaGreatDoor
namespace Go.Proofs.YtbpdenfiifcfcaaGreatDoor
open Go.RowKit

abbrev Gn := Int × List UInt8 × Nm
def noG : Gn := (0, [], [])
/-- At the address lie the general names l. -/
def GLies (w : World) (a : Option Addr) (l : List Gn) : Prop :=
  l = [] ∨ ∃ b o, a = some ⟨b, o, none⟩ ∧ ∀ i, i < l.length → w.cell? ⟨b, o + i * 3, none⟩ = some (.int .i64 (l.getD i noG).1) ∧ w.cell? ⟨b, o + i * 3 + 1, none⟩ = some (.string (strOf (l.getD i noG).2.1)) ∧
    ∃ a' c', w.cell? ⟨b, o + i * 3 + 2, none⟩ = some (.slice a' (l.getD i noG).2.2.length c') ∧ (l.getD i noG).2.2.length ≤ c' ∧ RLies w a' (l.getD i noG).2.2
theorem GLies.below {w w' : World} {a : Option Addr} {l : List Gn} (h : GLies w a l) (hb : Below w.heap.size w w') : GLies w' a l := by
  rcases h with h | ⟨b, o, h1, h2⟩
  · exact .inl h
  · refine .inr ⟨b, o, h1, fun i hi => ?_⟩
    obtain ⟨c0, c1, a', c', c2, c3, c4⟩ := h2 i hi
    exact ⟨(hb.cell (block_lt c0)).trans c0, (hb.cell (block_lt c1)).trans c1, a', c', (hb.cell (block_lt c2)).trans c2, c3, c4.below hb⟩
theorem GLies.at {w : World} {a : Option Addr} {l : List Gn} (h : GLies w a l) (k : Nat) (hk : k < l.length) : ∃ b o, a = some ⟨b, o, none⟩ ∧ b < w.heap.size ∧
    w.cell? ⟨b, o + k * 3, none⟩ = some (.int .i64 (l.getD k noG).1) ∧ w.cell? ⟨b, o + k * 3 + 1, none⟩ = some (.string (strOf (l.getD k noG).2.1)) ∧
    ∃ a' c', w.cell? ⟨b, o + k * 3 + 2, none⟩ = some (.slice a' (l.getD k noG).2.2.length c') ∧ (l.getD k noG).2.2.length ≤ c' ∧ RLies w a' (l.getD k noG).2.2 := by
  rcases h with h | ⟨b, o, h1, h2⟩
  · rw [h] at hk; exact absurd hk (Nat.not_lt_zero _)
  · obtain ⟨c0, c1, a', c', c2, c3, c4⟩ := h2 k hk
    exact ⟨b, o, h1, block_lt c0, c0, c1, a', c', c2, c3, c4⟩
/-- A row of one general name. -/
theorem glies_one {w : World} {g : Nat} {k : Int} {t : List UInt8} {n : Nm} {a : Option Addr} {c : Nat} {T : TypeId} (h : w.heap[g]? = some (.cells #[.int .i64 k, .string (strOf t), .slice a n.length c] T (0, 0))) (hc : n.length ≤ c) (hr : RLies w a n) : GLies w (some ⟨g, 0, none⟩) [(k, t, n)] := by
  obtain ⟨c0, c1, c2, _⟩ := three_facts h
  refine .inr ⟨g, 0, rfl, fun i hi => ?_⟩
  obtain rfl : i = 0 := by simp at hi; omega
  exact ⟨c0, c1, a, c, c2, hc, hr⟩
/-- What a law takes of a general name that is handed in. -/
def ShG (g : Gn) : Prop := g.2.1.length ≤ 300 ∧ ShN g.2.2
end Go.Proofs.YtbpdenfiifcfcaaGreatDoor
namespace Go.Proofs.YtbpdenfiifcfcaaGreatDoor
open Go.RowKit

/-- A name of at most three relative names of at most two attributes, each value of at most L bytes. -/
def SpR (L : Nat) (r : List At) : Prop := r.length ≤ 2 ∧ ∀ x ∈ r, x.1.size ≤ 100 ∧ x.2.2.size ≤ L
def SpN (L : Nat) (n : Nm) : Prop := n.length ≤ 3 ∧ ∀ r ∈ n, SpR L r
theorem next3 (p : Nat) (a : Option Addr) (cap : Nat) (zs : List Int) (k : Nat) (w : World) (h : DeckAt w p a cap zs k) (hk2 : k < 1000) :
    Calls Tryz.prog 11 #[.pointer (some ⟨p, 0, none⟩), .int .i64 3] w fun e w' => ∃ r k' : Nat, r < 3 ∧ e = .returned (.int .i64 (r : Int)) ∧ DeckAt w' p a cap zs k' ∧ k' ≤ k + 1 ∧ But p w w' :=
  next_any p a cap zs k 3 w h hk2 (by omega) (by omega)

theorem getD_memS {α : Type} (l : List α) (i : Nat) (h : i < l.length) (d : α) : l.getD i d ∈ l := by
  rw [List.getD_eq_getElem?_getD, List.getElem?_eq_getElem h]
  exact List.getElem_mem h

end Go.Proofs.YtbpdenfiifcfcaaGreatDoor
