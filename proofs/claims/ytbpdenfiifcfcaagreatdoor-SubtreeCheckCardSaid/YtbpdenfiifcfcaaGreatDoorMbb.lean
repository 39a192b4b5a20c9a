/-
  The contracts of Address, Range and AddressWithin of the program.
-/
import Derived.Test.YtbpdenfiifcfcaaGreatDoorMba
namespace Go.Proofs.YtbpdenfiifcfcaaGreatDoor
open Go.RowKit

set_option maxRecDepth 100000 in
set_option maxHeartbeats 1000000 in
theorem paddr_any (L : List UInt8) (_ : L.length ≤ 150000) (w : World) :
    Calls Tryz.prog 132 #[.string (strOf L)] w fun e w' => e = .returned (.bool (addrB L)) ∧ Below w.heap.size w w' := by
  have e0 := strOf_size L
  by_cases h : L.length = 4
  · have d1 : ((L.length : Int) == (4 : Int)) = true := by rw [h]; rfl
    have HE := Lib.hid (show addrB L = true by unfold addrB; rw [decide_eq_true h]; rfl)
    clear h
    go_enter Tryz.func132, Tryz.ntmps132
    go_wp2_with fail
    go_ret
    exact ⟨by rw [HE.out]; rfl, Below.refl _ _⟩
  · have d1 : ((L.length : Int) == (4 : Int)) = false := by simp; omega
    by_cases h2 : L.length = 16
    · have d2 : ((L.length : Int) == (16 : Int)) = true := by rw [h2]; rfl
      have HE := Lib.hid (show addrB L = true by unfold addrB; rw [decide_eq_true h2, Bool.or_true])
      clear h2
      go_enter Tryz.func132, Tryz.ntmps132
      go_wp2_with fail
      go_ret
      exact ⟨by rw [HE.out]; rfl, Below.refl _ _⟩
    · have d2 : ((L.length : Int) == (16 : Int)) = false := by simp; omega
      have HE := Lib.hid (show addrB L = false by unfold addrB; rw [decide_eq_false h, decide_eq_false h2]; rfl)
      go_enter Tryz.func132, Tryz.ntmps132
      go_wp2_with fail
      go_ret
      exact ⟨by rw [HE.out]; rfl, Below.refl _ _⟩

theorem pmask_is {M : List UInt8} {b : Bool} (h : maskOk true M = b) (hM : M.length ≤ 150000) (w : World) :
    Calls Tryz.prog 152 #[.string (strOf M)] w fun e w' => e = .returned (.bool b) ∧ Below w.heap.size w w' := by
  have := pmask_any M hM w
  rwa [h] at this

set_option maxRecDepth 100000 in
set_option maxHeartbeats 2000000 in
theorem prange_h (L : List UInt8) (h : Nat) (hh : h = 4 ∨ h = 16) (hL : L.length = 2 * h) (w : World) :
    Calls Tryz.prog 129 #[.string (strOf L)] w fun e w' => e = .returned (.bool (rangeB L)) ∧ Below w.heap.size w w' := by
  have es := strOf_size L
  have HP := Lib.hid (range_parts L h hh hL)
  have HH := Lib.hid (fun w => phalves_any L h hh hL w)
  have hT : (L.take h).length = h := by rw [List.length_take]; omega
  have hD : (L.drop h).length = h := by rw [List.length_drop]; omega
  have HM := Lib.hid (fun w => pmasked_any (L.take h) (L.drop h) (by omega) (by omega) w)
  have d8 : ((L.length : Int) != (8 : Int)) = decide (h = 16) := by
    rw [Bool.eq_iff_iff, bne_iff_ne, decide_eq_true_iff]; omega
  have d32 : ((L.length : Int) != (32 : Int)) = decide (h = 4) := by
    rw [Bool.eq_iff_iff, bne_iff_ne, decide_eq_true_iff]; omega
  generalize L.take h = T at *
  generalize L.drop h = D at *
  have hor : (decide (h = 16) && decide (h = 4)) = false := by
    rw [Bool.and_eq_false_iff, decide_eq_false_iff_not, decide_eq_false_iff_not]; omega
  cases h1 : maskOk true D with
  | false =>
    have HE := Lib.hid (show rangeB L = false by rw [HP.out, h1]; rfl)
    have HK := Lib.hid (fun w => pmask_is h1 (by omega) w)
    clear h1
    rcases hh with rfl | rfl
    · have d8a : ((L.length : Int) != (8 : Int)) = false := d8
      have d32a : ((L.length : Int) != (32 : Int)) = true := d32
      clear d8 d32 hor hT hD hL
      go_enter Tryz.func129, Tryz.ntmps129
      go_wp2_with (first
        | (go_at_call 145; (with_reducible refine (HH.out _).mono ?_); rintro e w1 ⟨rfl, hb1⟩; have HB1 := Lib.hid hb1; clear hb1)
        | (go_at_call 152; (with_reducible refine (HK.out _).mono ?_); rintro e w2 ⟨rfl, hb2⟩; have HB2 := Lib.hid (below_next HB1.out hb2); clear hb2))
      go_ret
      exact ⟨by rw [HE.out]; rfl, HB2.out⟩
    · have d8a : ((L.length : Int) != (8 : Int)) = true := d8
      have d32a : ((L.length : Int) != (32 : Int)) = false := d32
      clear d8 d32 hor hT hD hL
      go_enter Tryz.func129, Tryz.ntmps129
      go_wp2_with (first
        | (go_at_call 145; (with_reducible refine (HH.out _).mono ?_); rintro e w1 ⟨rfl, hb1⟩; have HB1 := Lib.hid hb1; clear hb1)
        | (go_at_call 152; (with_reducible refine (HK.out _).mono ?_); rintro e w2 ⟨rfl, hb2⟩; have HB2 := Lib.hid (below_next HB1.out hb2); clear hb2))
      go_ret
      exact ⟨by rw [HE.out]; rfl, HB2.out⟩
  | true =>
    have HK := Lib.hid (fun w => pmask_is h1 (by omega) w)
    by_cases h2 : mskd T D = T
    · have HE := Lib.hid (show rangeB L = true by rw [HP.out, h1, decide_eq_true h2]; rfl)
      obtain ⟨f1, f2⟩ := same_is h2
      generalize mskd T D = X at *
      clear h1 h2
      rcases hh with rfl | rfl
      · have d8a : ((L.length : Int) != (8 : Int)) = false := d8
        have d32a : ((L.length : Int) != (32 : Int)) = true := d32
        clear d8 d32 hor hT hD hL
        go_enter Tryz.func129, Tryz.ntmps129
        go_wp2_with (first
          | (go_at_call 145; (with_reducible refine (HH.out _).mono ?_); rintro e w1 ⟨rfl, hb1⟩; have HB1 := Lib.hid hb1; clear hb1)
          | (go_at_call 152; (with_reducible refine (HK.out _).mono ?_); rintro e w2 ⟨rfl, hb2⟩; have HB2 := Lib.hid (below_next HB1.out hb2); clear hb2)
          | (go_at_call 146; (with_reducible refine (HM.out _).mono ?_); rintro e w3 ⟨rfl, hb3⟩; have HB3 := Lib.hid (below_next HB2.out hb3); clear hb3))
        go_ret
        exact ⟨by rw [HE.out]; rfl, HB3.out⟩
      · have d8a : ((L.length : Int) != (8 : Int)) = true := d8
        have d32a : ((L.length : Int) != (32 : Int)) = false := d32
        clear d8 d32 hor hT hD hL
        go_enter Tryz.func129, Tryz.ntmps129
        go_wp2_with (first
          | (go_at_call 145; (with_reducible refine (HH.out _).mono ?_); rintro e w1 ⟨rfl, hb1⟩; have HB1 := Lib.hid hb1; clear hb1)
          | (go_at_call 152; (with_reducible refine (HK.out _).mono ?_); rintro e w2 ⟨rfl, hb2⟩; have HB2 := Lib.hid (below_next HB1.out hb2); clear hb2)
          | (go_at_call 146; (with_reducible refine (HM.out _).mono ?_); rintro e w3 ⟨rfl, hb3⟩; have HB3 := Lib.hid (below_next HB2.out hb3); clear hb3))
        go_ret
        exact ⟨by rw [HE.out]; rfl, HB3.out⟩
    · have HE := Lib.hid (show rangeB L = false by rw [HP.out, h1, decide_eq_false h2]; rfl)
      obtain ⟨f1, f2⟩ := same_not h2
      generalize mskd T D = X at *
      clear h1 h2
      rcases hh with rfl | rfl
      · have d8a : ((L.length : Int) != (8 : Int)) = false := d8
        have d32a : ((L.length : Int) != (32 : Int)) = true := d32
        clear d8 d32 hor hT hD hL
        go_enter Tryz.func129, Tryz.ntmps129
        go_wp2_with (first
          | (go_at_call 145; (with_reducible refine (HH.out _).mono ?_); rintro e w1 ⟨rfl, hb1⟩; have HB1 := Lib.hid hb1; clear hb1)
          | (go_at_call 152; (with_reducible refine (HK.out _).mono ?_); rintro e w2 ⟨rfl, hb2⟩; have HB2 := Lib.hid (below_next HB1.out hb2); clear hb2)
          | (go_at_call 146; (with_reducible refine (HM.out _).mono ?_); rintro e w3 ⟨rfl, hb3⟩; have HB3 := Lib.hid (below_next HB2.out hb3); clear hb3))
        go_ret
        exact ⟨by rw [HE.out]; rfl, HB3.out⟩
      · have d8a : ((L.length : Int) != (8 : Int)) = true := d8
        have d32a : ((L.length : Int) != (32 : Int)) = false := d32
        clear d8 d32 hor hT hD hL
        go_enter Tryz.func129, Tryz.ntmps129
        go_wp2_with (first
          | (go_at_call 145; (with_reducible refine (HH.out _).mono ?_); rintro e w1 ⟨rfl, hb1⟩; have HB1 := Lib.hid hb1; clear hb1)
          | (go_at_call 152; (with_reducible refine (HK.out _).mono ?_); rintro e w2 ⟨rfl, hb2⟩; have HB2 := Lib.hid (below_next HB1.out hb2); clear hb2)
          | (go_at_call 146; (with_reducible refine (HM.out _).mono ?_); rintro e w3 ⟨rfl, hb3⟩; have HB3 := Lib.hid (below_next HB2.out hb3); clear hb3))
        go_ret
        exact ⟨by rw [HE.out]; rfl, HB3.out⟩
set_option maxRecDepth 100000 in
set_option maxHeartbeats 2000000 in
theorem prange_any (L : List UInt8) (_ : L.length ≤ 150000) (w : World) :
    Calls Tryz.prog 129 #[.string (strOf L)] w fun e w' => e = .returned (.bool (rangeB L)) ∧ Below w.heap.size w w' := by
  by_cases h1 : L.length = 8
  · exact prange_h L 4 (.inl rfl) (by omega) w
  · by_cases h2 : L.length = 32
    · exact prange_h L 16 (.inr rfl) (by omega) w
    · have es := strOf_size L
      have HE := Lib.hid (range_no h1 h2)
      have d8 : ((L.length : Int) != (8 : Int)) = true := by simp; omega
      have d32 : ((L.length : Int) != (32 : Int)) = true := by simp; omega
      go_enter Tryz.func129, Tryz.ntmps129
      go_wp2_with fail
      go_ret
      exact ⟨by rw [HE.out]; rfl, Below.refl _ _⟩
theorem prange_is {L : List UInt8} {b : Bool} (h : rangeB L = b) (hL : L.length ≤ 150000) (w : World) :
    Calls Tryz.prog 129 #[.string (strOf L)] w fun e w' => e = .returned (.bool b) ∧ Below w.heap.size w w' := by
  have := prange_any L hL w
  rwa [h] at this
theorem pmasked_is {S M X : List UInt8} (h : mskd S M = X) (hS : S.length ≤ 150000) (hM : S.length ≤ M.length) (w : World) :
    Calls Tryz.prog 146 #[.string (strOf S), .string (strOf M)] w fun e w' => e = .returned (.string (strOf X)) ∧ Below w.heap.size w w' := by
  have := pmasked_any S M hS hM w
  rwa [h] at this
set_option maxRecDepth 100000 in
set_option maxHeartbeats 4000000 in
theorem paw_any (a b : List UInt8) (ha : a.length ≤ 150000) (hb : b.length ≤ 150000) (w : World) :
    Calls Tryz.prog 121 #[.string (strOf a), .string (strOf b)] w fun e w' => e = .returned (.bool (addrWithinB a b)) ∧ Below w.heap.size w w' := by
  have ea := strOf_size a
  have eb := strOf_size b
  cases h1 : rangeB b with
  | false =>
    have HE := Lib.hid (within_bad (a := a) h1)
    have H1 := Lib.hid (fun w => prange_is h1 hb w)
    clear h1
    go_enter Tryz.func121, Tryz.ntmps121
    go_wp2_with (go_at_call 129; (with_reducible refine (H1.out _).mono ?_); rintro e w1 ⟨rfl, hb1⟩; have HB1 := Lib.hid hb1; clear hb1)
    go_ret
    exact ⟨by rw [HE.out]; rfl, HB1.out⟩
  | true =>
    obtain ⟨h, hh, hr⟩ : ∃ h, (h = 4 ∨ h = 16) ∧ b.length = 2 * h := by
      rcases range_sizes h1 with e | e
      · exact ⟨4, .inl rfl, by omega⟩
      · exact ⟨16, .inr rfl, by omega⟩
    have H1 := Lib.hid (fun w => prange_is h1 hb w)
    have H2 := Lib.hid (fun w => phalves_any b h hh hr w)
    have hT : (b.take h).length = h := by rw [List.length_take]; omega
    have hD : (b.drop h).length = h := by rw [List.length_drop]; omega
    have eT := strOf_size (b.take h)
    by_cases k1 : a.length = 2 * h
    · have HW := Lib.hid (within_range (a := a) hh hr h1 k1)
      have g1 : ((a.length : Int) == (b.length : Int)) = true := by rw [beq_iff_eq]; omega
      have H3 := Lib.hid (fun w => phalves_any a h hh k1 w)
      have hTa : (a.take h).length = h := by rw [List.length_take]; omega
      have hDa : (a.drop h).length = h := by rw [List.length_drop]; omega
      generalize b.take h = T at *
      generalize b.drop h = D at *
      generalize a.take h = Ta at *
      generalize a.drop h = Da at *
      obtain ⟨A, hA⟩ : ∃ A, strOf a = A := ⟨_, rfl⟩
      obtain ⟨B, hB⟩ : ∃ B, strOf b = B := ⟨_, rfl⟩
      cases h2 : rangeB a with
      | false =>
        have HE := Lib.hid (show addrWithinB a b = false by rw [HW.out, h2]; rfl)
        have H4 := Lib.hid (fun w => prange_is h2 ha w)
        rw [hA] at H3 H4 ea ⊢
        rw [hB] at H1 H2 eb ⊢
        clear h1 h2 hA hB hh hr
        go_enter Tryz.func121, Tryz.ntmps121
        go_wp2_with (first
          | (go_at_call 129; (with_reducible refine (H1.out _).mono ?_); rintro e w1 ⟨rfl, hb1⟩; have HB1 := Lib.hid hb1; clear hb1; clear H1)
          | (go_at_call 145; (with_reducible refine (H2.out _).mono ?_); rintro e w2 ⟨rfl, hb2⟩; have HB2 := Lib.hid (below_next HB1.out hb2); clear hb2; clear H2)
          | (go_at_call 145; (with_reducible refine (H3.out _).mono ?_); rintro e w3 ⟨rfl, hb3⟩; have HB3 := Lib.hid (below_next HB2.out hb3); clear hb3; clear H3)
          | (go_at_call 129; (with_reducible refine (H4.out _).mono ?_); rintro e w4 ⟨rfl, hb4⟩; have HB4 := Lib.hid (below_next HB3.out hb4); clear hb4; clear H4))
        go_ret
        exact ⟨by rw [HE.out]; rfl, HB4.out⟩
      | true =>
        have H4 := Lib.hid (fun w => prange_is h2 ha w)
        obtain ⟨X, hX⟩ : ∃ X, mskd D Da = X := ⟨_, rfl⟩
        have H5 := Lib.hid (fun w => pmasked_is hX (by omega) (by omega) w)
        rw [hX] at HW
        by_cases h3 : X = D
        · obtain ⟨f1, f2⟩ := same_is h3
          obtain ⟨Y, hY⟩ : ∃ Y, mskd Ta D = Y := ⟨_, rfl⟩
          have H6 := Lib.hid (fun w => pmasked_is hY (by omega) (by omega) w)
          rw [hY, h2, decide_eq_true h3] at HW
          clear hX h3
          by_cases h4 : Y = T
          · obtain ⟨f3, f4⟩ := same_is h4
            have HE := Lib.hid (show addrWithinB a b = true by rw [HW.out, decide_eq_true h4]; rfl)
            rw [hA] at H3 H4 ea ⊢
            rw [hB] at H1 H2 eb ⊢
            clear h1 h2 h4 hY hA hB hh hr
            go_enter Tryz.func121, Tryz.ntmps121
            go_wp2_with (first
              | (go_at_call 129; (with_reducible refine (H1.out _).mono ?_); rintro e w1 ⟨rfl, hb1⟩; have HB1 := Lib.hid hb1; clear hb1; clear H1)
              | (go_at_call 145; (with_reducible refine (H2.out _).mono ?_); rintro e w2 ⟨rfl, hb2⟩; have HB2 := Lib.hid (below_next HB1.out hb2); clear hb2; clear H2)
              | (go_at_call 145; (with_reducible refine (H3.out _).mono ?_); rintro e w3 ⟨rfl, hb3⟩; have HB3 := Lib.hid (below_next HB2.out hb3); clear hb3; clear H3)
              | (go_at_call 129; (with_reducible refine (H4.out _).mono ?_); rintro e w4 ⟨rfl, hb4⟩; have HB4 := Lib.hid (below_next HB3.out hb4); clear hb4; clear H4)
              | (go_at_call 146; (with_reducible refine (H5.out _).mono ?_); rintro e w5 ⟨rfl, hb5⟩; have HB5 := Lib.hid (below_next HB4.out hb5); clear hb5; clear H5)
              | (go_at_call 146; (with_reducible refine (H6.out _).mono ?_); rintro e w6 ⟨rfl, hb6⟩; have HB6 := Lib.hid (below_next HB5.out hb6); clear hb6; clear H6))
            go_ret
            exact ⟨by rw [HE.out]; rfl, HB6.out⟩
          · obtain ⟨f3, f4⟩ := same_not h4
            have HE := Lib.hid (show addrWithinB a b = false by rw [HW.out, decide_eq_false h4]; rfl)
            rw [hA] at H3 H4 ea ⊢
            rw [hB] at H1 H2 eb ⊢
            clear h1 h2 h4 hY hA hB hh hr
            go_enter Tryz.func121, Tryz.ntmps121
            go_wp2_with (first
              | (go_at_call 129; (with_reducible refine (H1.out _).mono ?_); rintro e w1 ⟨rfl, hb1⟩; have HB1 := Lib.hid hb1; clear hb1; clear H1)
              | (go_at_call 145; (with_reducible refine (H2.out _).mono ?_); rintro e w2 ⟨rfl, hb2⟩; have HB2 := Lib.hid (below_next HB1.out hb2); clear hb2; clear H2)
              | (go_at_call 145; (with_reducible refine (H3.out _).mono ?_); rintro e w3 ⟨rfl, hb3⟩; have HB3 := Lib.hid (below_next HB2.out hb3); clear hb3; clear H3)
              | (go_at_call 129; (with_reducible refine (H4.out _).mono ?_); rintro e w4 ⟨rfl, hb4⟩; have HB4 := Lib.hid (below_next HB3.out hb4); clear hb4; clear H4)
              | (go_at_call 146; (with_reducible refine (H5.out _).mono ?_); rintro e w5 ⟨rfl, hb5⟩; have HB5 := Lib.hid (below_next HB4.out hb5); clear hb5; clear H5)
              | (go_at_call 146; (with_reducible refine (H6.out _).mono ?_); rintro e w6 ⟨rfl, hb6⟩; have HB6 := Lib.hid (below_next HB5.out hb6); clear hb6; clear H6))
            go_ret
            exact ⟨by rw [HE.out]; rfl, HB6.out⟩
        · obtain ⟨f1, f2⟩ := same_not h3
          have HE := Lib.hid (show addrWithinB a b = false by rw [HW.out, decide_eq_false h3, Bool.and_false, Bool.false_and])
          rw [hA] at H3 H4 ea ⊢
          rw [hB] at H1 H2 eb ⊢
          clear h1 h2 h3 hX hA hB hh hr
          go_enter Tryz.func121, Tryz.ntmps121
          go_wp2_with (first
            | (go_at_call 129; (with_reducible refine (H1.out _).mono ?_); rintro e w1 ⟨rfl, hb1⟩; have HB1 := Lib.hid hb1; clear hb1; clear H1)
            | (go_at_call 145; (with_reducible refine (H2.out _).mono ?_); rintro e w2 ⟨rfl, hb2⟩; have HB2 := Lib.hid (below_next HB1.out hb2); clear hb2; clear H2)
            | (go_at_call 145; (with_reducible refine (H3.out _).mono ?_); rintro e w3 ⟨rfl, hb3⟩; have HB3 := Lib.hid (below_next HB2.out hb3); clear hb3; clear H3)
            | (go_at_call 129; (with_reducible refine (H4.out _).mono ?_); rintro e w4 ⟨rfl, hb4⟩; have HB4 := Lib.hid (below_next HB3.out hb4); clear hb4; clear H4)
            | (go_at_call 146; (with_reducible refine (H5.out _).mono ?_); rintro e w5 ⟨rfl, hb5⟩; have HB5 := Lib.hid (below_next HB4.out hb5); clear hb5; clear H5))
          go_ret
          exact ⟨by rw [HE.out]; rfl, HB5.out⟩
    · have g1 : ((a.length : Int) == (b.length : Int)) = false := by rw [beq_eq_false_iff_ne]; omega
      by_cases k2 : a.length = h
      · have HW := Lib.hid (within_addr hh hr h1 k2)
        have g2 : ((a.length : Int) == ((b.take h).length : Int)) = true := by rw [beq_iff_eq]; omega
        obtain ⟨Y, hY⟩ : ∃ Y, mskd a (b.drop h) = Y := ⟨_, rfl⟩
        have H6 := Lib.hid (fun w => pmasked_is hY (by omega) (by omega) w)
        rw [hY] at HW
        generalize b.take h = T at *
        generalize b.drop h = D at *
        obtain ⟨A, hA⟩ : ∃ A, strOf a = A := ⟨_, rfl⟩
        obtain ⟨B, hB⟩ : ∃ B, strOf b = B := ⟨_, rfl⟩
        by_cases h4 : Y = T
        · obtain ⟨f3, f4⟩ := same_is h4
          have HE := Lib.hid (show addrWithinB a b = true by rw [HW.out, decide_eq_true h4])
          rw [hA] at H6 ea ⊢
          rw [hB] at H1 H2 eb ⊢
          clear h1 h4 hY hA hB hh hr
          go_enter Tryz.func121, Tryz.ntmps121
          go_wp2_with (first
            | (go_at_call 129; (with_reducible refine (H1.out _).mono ?_); rintro e w1 ⟨rfl, hb1⟩; have HB1 := Lib.hid hb1; clear hb1; clear H1)
            | (go_at_call 145; (with_reducible refine (H2.out _).mono ?_); rintro e w2 ⟨rfl, hb2⟩; have HB2 := Lib.hid (below_next HB1.out hb2); clear hb2; clear H2)
            | (go_at_call 146; (with_reducible refine (H6.out _).mono ?_); rintro e w6 ⟨rfl, hb6⟩; have HB6 := Lib.hid (below_next HB2.out hb6); clear hb6; clear H6))
          go_ret
          exact ⟨by rw [HE.out]; rfl, HB6.out⟩
        · obtain ⟨f3, f4⟩ := same_not h4
          have HE := Lib.hid (show addrWithinB a b = false by rw [HW.out, decide_eq_false h4])
          rw [hA] at H6 ea ⊢
          rw [hB] at H1 H2 eb ⊢
          clear h1 h4 hY hA hB hh hr
          go_enter Tryz.func121, Tryz.ntmps121
          go_wp2_with (first
            | (go_at_call 129; (with_reducible refine (H1.out _).mono ?_); rintro e w1 ⟨rfl, hb1⟩; have HB1 := Lib.hid hb1; clear hb1; clear H1)
            | (go_at_call 145; (with_reducible refine (H2.out _).mono ?_); rintro e w2 ⟨rfl, hb2⟩; have HB2 := Lib.hid (below_next HB1.out hb2); clear hb2; clear H2)
            | (go_at_call 146; (with_reducible refine (H6.out _).mono ?_); rintro e w6 ⟨rfl, hb6⟩; have HB6 := Lib.hid (below_next HB2.out hb6); clear hb6; clear H6))
          go_ret
          exact ⟨by rw [HE.out]; rfl, HB6.out⟩
      · have HE := Lib.hid (within_none (a := a) hr k1 k2)
        have g2 : ((a.length : Int) == ((b.take h).length : Int)) = false := by rw [beq_eq_false_iff_ne]; omega
        generalize b.take h = T at *
        generalize b.drop h = D at *
        clear h1 hh hr
        go_enter Tryz.func121, Tryz.ntmps121
        go_wp2_with (first
          | (go_at_call 129; (with_reducible refine (H1.out _).mono ?_); rintro e w1 ⟨rfl, hb1⟩; have HB1 := Lib.hid hb1; clear hb1)
          | (go_at_call 145; (with_reducible refine (H2.out _).mono ?_); rintro e w2 ⟨rfl, hb2⟩; have HB2 := Lib.hid (below_next HB1.out hb2); clear hb2))
        go_ret
        exact ⟨by rw [HE.out]; rfl, HB2.out⟩
end Go.Proofs.YtbpdenfiifcfcaaGreatDoor
