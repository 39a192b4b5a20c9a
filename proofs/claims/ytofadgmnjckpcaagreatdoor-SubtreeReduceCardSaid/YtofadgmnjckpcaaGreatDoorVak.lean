/-
  The contract of the reference's MailWithin: whether a mail address or a base lies within a base.
  The contracts of the reference's Address and Range: whether bytes are an address; whether they are a range.
-/
import Derived.Test.YtofadgmnjckpcaaGreatDoorVaj
import Derived.Test.YtofadgmnjckpcaaGreatDoorVac
import Derived.Test.YtofadgmnjckpcaaGreatDoorVah
namespace Go.Proofs.YtofadgmnjckpcaaGreatDoor
open Go.RowKit

theorem mail_ne {L : List UInt8} (h : mailBaseB L = true) : 1 ≤ L.length := by
  cases L with
  | cons c r => simp
  | nil => exact absurd h (by decide +kernel)

set_option maxRecDepth 100000 in
set_option maxHeartbeats 2000000 in
theorem rmw_any (s b : List UInt8) (hs : s.length ≤ 100000) (hb : b.length ≤ 100000) (w : World) :
    Calls Tryz.prog 66 #[.string (strOf s), .string (strOf b)] w fun e w' => e = .returned (.bool (mailWithinB s b)) ∧ Below w.heap.size w w' := by
  have HBL := Lib.hid (show b.length ≤ 1000000 by omega)
  have HSL := Lib.hid (show s.length ≤ 1000000 by omega)
  have HDL := Lib.hid (show (domP s).length ≤ 1000000 by have := domP_len s; omega)
  cases h1 : mailBaseB b with
  | false =>
    have HMB := Lib.hid (fun w => rmailbase_is h1 hb w)
    have HE := Lib.hid (show mailWithinB s b = false by unfold mailWithinB; rw [h1]; rfl)
    clear h1
    go_enter Tryz.func66, Tryz.ntmps66
    go_wp2_with (first
      | (go_at_call 84; (with_reducible refine (HMB.out _).mono ?_); rintro e w1 ⟨rfl, hb1⟩; have HB1 := Lib.hid hb1; clear hb1))
    go_ret
    exact ⟨by rw [HE.out]; rfl, HB1.out⟩
  | true =>
    have HMB := Lib.hid (fun w => rmailbase_is h1 hb w)
    have e0 := strOf_size b
    have hb1 := mail_ne h1
    obtain ⟨x, hx, hxn⟩ := u8at_list (strOf b) 0 (by rw [e0]; omega)
    have hiz := run_index_u8 (P := Tryz.prog) Tryz.underlying9 (strOf b) 0 (by rw [e0]; omega) 0 rfl
    rw [hxn] at hiz
    rw [strOf_list] at hx
    clear hxn
    cases h2 : mailB s with
    | true =>
      have HP := Lib.hid (fun w => rparts_yes h2 hs w)
      cases h3 : mailB b with
      | true =>
        have HM := Lib.hid (fun w => rmail_is h3 hb w)
        have HMM := Lib.hid (fun w => rmm_any s b hs hb w)
        have HE := Lib.hid (show mailWithinB s b = mailMatchB s b by unfold mailWithinB; rw [h1, if_pos h2, if_pos h3]; rfl)
        clear h1 h2 h3 hx
        go_enter Tryz.func66, Tryz.ntmps66
        go_wp2_with (first
          | (go_at_call 84; (with_reducible refine (HMB.out _).mono ?_); rintro e w1 ⟨rfl, hb1⟩; have HB1 := Lib.hid hb1; clear hb1)
          | (go_at_call 85; (with_reducible refine (HP.out _).mono ?_); rintro e w2 ⟨rfl, hb2⟩; have HB2 := Lib.hid hb2; clear hb2)
          | (go_at_call 76; (with_reducible refine (HM.out _).mono ?_); rintro e w3 ⟨rfl, hb3⟩; have HB3 := Lib.hid hb3; clear hb3)
          | (go_at_call 77; (with_reducible refine (HMM.out _).mono ?_); rintro e w4 ⟨rfl, hb4⟩; have HB4 := Lib.hid hb4; clear hb4))
        go_ret
        exact ⟨by rw [HE.out]; rfl, below_next (below_next (below_next HB1.out HB2.out) HB3.out) HB4.out⟩
      | false =>
        have HM := Lib.hid (fun w => rmail_is h3 hb w)
        have HR := Lib.hid (show mailWithinB s b = relB (domP s) b by unfold mailWithinB; rw [h1, if_pos h2, if_neg (by rw [h3]; simp)]; rfl)
        clear h1 h2 h3
        generalize localP s = la at HP
        generalize domP s = d at HP HR HDL
        cases h4 : alikeB d b with
        | true =>
          have HA := Lib.hid (fun w => ralike_is h4 HDL.out HBL.out w)
          have HE := Lib.hid (show mailWithinB s b = true by rw [HR.out]; unfold relB; rw [h4]; rfl)
          clear h4 hx
          go_enter Tryz.func66, Tryz.ntmps66
          go_wp2_with (first
            | (go_at_call 84; (with_reducible refine (HMB.out _).mono ?_); rintro e w1 ⟨rfl, hb1⟩; have HB1 := Lib.hid hb1; clear hb1)
            | (go_at_call 85; (with_reducible refine (HP.out _).mono ?_); rintro e w2 ⟨rfl, hb2⟩; have HB2 := Lib.hid hb2; clear hb2)
            | (go_at_call 76; (with_reducible refine (HM.out _).mono ?_); rintro e w3 ⟨rfl, hb3⟩; have HB3 := Lib.hid hb3; clear hb3)
            | (go_at_call 78; (with_reducible refine (HA.out _).mono ?_); rintro e w4 ⟨rfl, hb4⟩; have HB4 := Lib.hid hb4; clear hb4))
          go_ret
          exact ⟨by rw [HE.out]; rfl, below_next (below_next (below_next HB1.out HB2.out) HB3.out) HB4.out⟩
        | false =>
          have HA := Lib.hid (fun w => ralike_is h4 HDL.out HBL.out w)
          by_cases h5 : x = 46
          · have dx : (((x.toNat : Nat) : Int) == (46 : Int)) = true := by rw [h5]; rfl
            have HEN := Lib.hid (fun w => rends_any d b HDL.out HBL.out w)
            have HE := Lib.hid (show mailWithinB s b = endsB d b by rw [HR.out]; unfold relB; rw [h4, List.head?_eq_getElem?, hx, h5]; rfl)
            clear h4 h5 hx
            go_enter Tryz.func66, Tryz.ntmps66
            go_wp2_with (first
              | (go_at_call 84; (with_reducible refine (HMB.out _).mono ?_); rintro e w1 ⟨rfl, hb1⟩; have HB1 := Lib.hid hb1; clear hb1)
              | (go_at_call 85; (with_reducible refine (HP.out _).mono ?_); rintro e w2 ⟨rfl, hb2⟩; have HB2 := Lib.hid hb2; clear hb2)
              | (go_at_call 76; (with_reducible refine (HM.out _).mono ?_); rintro e w3 ⟨rfl, hb3⟩; have HB3 := Lib.hid hb3; clear hb3)
              | (go_at_call 78; (with_reducible refine (HA.out _).mono ?_); rintro e w4 ⟨rfl, hb4⟩; have HB4 := Lib.hid hb4; clear hb4)
              | (go_at_call 86; (with_reducible refine (HEN.out _).mono ?_); rintro e w5 ⟨rfl, hb5⟩; have HB5 := Lib.hid hb5; clear hb5))
            go_ret
            exact ⟨by rw [HE.out]; rfl, below_next (below_next (below_next (below_next HB1.out HB2.out) HB3.out) HB4.out) HB5.out⟩
          · have dx : (((x.toNat : Nat) : Int) == (46 : Int)) = false := byte_ne h5
            have HE := Lib.hid (show mailWithinB s b = false by rw [HR.out]; unfold relB; rw [h4, List.head?_eq_getElem?, hx, show ((some x : Option UInt8) == some 46) = false from beq_eq_false_iff_ne.2 fun h => h5 (Option.some.inj h)]; rfl)
            clear h4 h5 hx
            go_enter Tryz.func66, Tryz.ntmps66
            go_wp2_with (first
              | (go_at_call 84; (with_reducible refine (HMB.out _).mono ?_); rintro e w1 ⟨rfl, hb1⟩; have HB1 := Lib.hid hb1; clear hb1)
              | (go_at_call 85; (with_reducible refine (HP.out _).mono ?_); rintro e w2 ⟨rfl, hb2⟩; have HB2 := Lib.hid hb2; clear hb2)
              | (go_at_call 76; (with_reducible refine (HM.out _).mono ?_); rintro e w3 ⟨rfl, hb3⟩; have HB3 := Lib.hid hb3; clear hb3)
              | (go_at_call 78; (with_reducible refine (HA.out _).mono ?_); rintro e w4 ⟨rfl, hb4⟩; have HB4 := Lib.hid hb4; clear hb4))
            go_ret
            exact ⟨by rw [HE.out]; rfl, below_next (below_next (below_next HB1.out HB2.out) HB3.out) HB4.out⟩
    | false =>
      have HP := Lib.hid (fun w => rparts_no h2 hs w)
      cases h6 : mailBaseB s with
      | false =>
        have HMS := Lib.hid (fun w => rmailbase_is h6 hs w)
        have HE := Lib.hid (show mailWithinB s b = false by unfold mailWithinB; rw [h1, if_neg (by rw [h2]; simp), h6]; rfl)
        clear h1 h2 h6 hx
        go_enter Tryz.func66, Tryz.ntmps66
        go_wp2_with (first
          | (go_at_call 84; (with_reducible refine (HMB.out _).mono ?_); rintro e w1 ⟨rfl, hb1⟩; have HB1 := Lib.hid hb1; clear hb1)
          | (go_at_call 85; (with_reducible refine (HP.out _).mono ?_); rintro e w2 ⟨rfl, hb2⟩; have HB2 := Lib.hid hb2; clear hb2)
          | (go_at_call 84; (with_reducible refine (HMS.out _).mono ?_); rintro e w6 ⟨rfl, hb6⟩; have HB6 := Lib.hid hb6; clear hb6))
        go_ret
        exact ⟨by rw [HE.out]; rfl, below_next (below_next HB1.out HB2.out) HB6.out⟩
      | true =>
        have HMS := Lib.hid (fun w => rmailbase_is h6 hs w)
        cases h3 : mailB b with
        | true =>
          have HM := Lib.hid (fun w => rmail_is h3 hb w)
          have HE := Lib.hid (show mailWithinB s b = false by unfold mailWithinB; rw [h1, if_neg (by rw [h2]; simp), h6, h3]; rfl)
          clear h1 h2 h6 h3 hx
          go_enter Tryz.func66, Tryz.ntmps66
          go_wp2_with (first
            | (go_at_call 84; (with_reducible refine (HMB.out _).mono ?_); rintro e w1 ⟨rfl, hb1⟩; have HB1 := Lib.hid hb1; clear hb1)
            | (go_at_call 85; (with_reducible refine (HP.out _).mono ?_); rintro e w2 ⟨rfl, hb2⟩; have HB2 := Lib.hid hb2; clear hb2)
            | (go_at_call 84; (with_reducible refine (HMS.out _).mono ?_); rintro e w6 ⟨rfl, hb6⟩; have HB6 := Lib.hid hb6; clear hb6)
            | (go_at_call 76; (with_reducible refine (HM.out _).mono ?_); rintro e w3 ⟨rfl, hb3⟩; have HB3 := Lib.hid hb3; clear hb3))
          go_ret
          exact ⟨by rw [HE.out]; rfl, below_next (below_next (below_next HB1.out HB2.out) HB6.out) HB3.out⟩
        | false =>
          have HM := Lib.hid (fun w => rmail_is h3 hb w)
          have HR := Lib.hid (show mailWithinB s b = relB s b by unfold mailWithinB; rw [h1, if_neg (by rw [h2]; simp), h6, h3]; rfl)
          clear h1 h2 h6 h3
          cases h4 : alikeB s b with
          | true =>
            have HA := Lib.hid (fun w => ralike_is h4 HSL.out HBL.out w)
            have HE := Lib.hid (show mailWithinB s b = true by rw [HR.out]; unfold relB; rw [h4]; rfl)
            clear h4 hx
            go_enter Tryz.func66, Tryz.ntmps66
            go_wp2_with (first
              | (go_at_call 84; (with_reducible refine (HMB.out _).mono ?_); rintro e w1 ⟨rfl, hb1⟩; have HB1 := Lib.hid hb1; clear hb1)
              | (go_at_call 85; (with_reducible refine (HP.out _).mono ?_); rintro e w2 ⟨rfl, hb2⟩; have HB2 := Lib.hid hb2; clear hb2)
              | (go_at_call 84; (with_reducible refine (HMS.out _).mono ?_); rintro e w6 ⟨rfl, hb6⟩; have HB6 := Lib.hid hb6; clear hb6)
              | (go_at_call 76; (with_reducible refine (HM.out _).mono ?_); rintro e w3 ⟨rfl, hb3⟩; have HB3 := Lib.hid hb3; clear hb3)
              | (go_at_call 78; (with_reducible refine (HA.out _).mono ?_); rintro e w4 ⟨rfl, hb4⟩; have HB4 := Lib.hid hb4; clear hb4))
            go_ret
            exact ⟨by rw [HE.out]; rfl, below_next (below_next (below_next (below_next HB1.out HB2.out) HB6.out) HB3.out) HB4.out⟩
          | false =>
            have HA := Lib.hid (fun w => ralike_is h4 HSL.out HBL.out w)
            by_cases h5 : x = 46
            · have dx : (((x.toNat : Nat) : Int) == (46 : Int)) = true := by rw [h5]; rfl
              have HEN := Lib.hid (fun w => rends_any s b HSL.out HBL.out w)
              have HE := Lib.hid (show mailWithinB s b = endsB s b by rw [HR.out]; unfold relB; rw [h4, List.head?_eq_getElem?, hx, h5]; rfl)
              clear h4 h5 hx
              go_enter Tryz.func66, Tryz.ntmps66
              go_wp2_with (first
                | (go_at_call 84; (with_reducible refine (HMB.out _).mono ?_); rintro e w1 ⟨rfl, hb1⟩; have HB1 := Lib.hid hb1; clear hb1)
                | (go_at_call 85; (with_reducible refine (HP.out _).mono ?_); rintro e w2 ⟨rfl, hb2⟩; have HB2 := Lib.hid hb2; clear hb2)
                | (go_at_call 84; (with_reducible refine (HMS.out _).mono ?_); rintro e w6 ⟨rfl, hb6⟩; have HB6 := Lib.hid hb6; clear hb6)
                | (go_at_call 76; (with_reducible refine (HM.out _).mono ?_); rintro e w3 ⟨rfl, hb3⟩; have HB3 := Lib.hid hb3; clear hb3)
                | (go_at_call 78; (with_reducible refine (HA.out _).mono ?_); rintro e w4 ⟨rfl, hb4⟩; have HB4 := Lib.hid hb4; clear hb4)
                | (go_at_call 86; (with_reducible refine (HEN.out _).mono ?_); rintro e w5 ⟨rfl, hb5⟩; have HB5 := Lib.hid hb5; clear hb5))
              go_ret
              exact ⟨by rw [HE.out]; rfl, below_next (below_next (below_next (below_next (below_next HB1.out HB2.out) HB6.out) HB3.out) HB4.out) HB5.out⟩
            · have dx : (((x.toNat : Nat) : Int) == (46 : Int)) = false := byte_ne h5
              have HE := Lib.hid (show mailWithinB s b = false by rw [HR.out]; unfold relB; rw [h4, List.head?_eq_getElem?, hx, show ((some x : Option UInt8) == some 46) = false from beq_eq_false_iff_ne.2 fun h => h5 (Option.some.inj h)]; rfl)
              clear h4 h5 hx
              go_enter Tryz.func66, Tryz.ntmps66
              go_wp2_with (first
                | (go_at_call 84; (with_reducible refine (HMB.out _).mono ?_); rintro e w1 ⟨rfl, hb1⟩; have HB1 := Lib.hid hb1; clear hb1)
                | (go_at_call 85; (with_reducible refine (HP.out _).mono ?_); rintro e w2 ⟨rfl, hb2⟩; have HB2 := Lib.hid hb2; clear hb2)
                | (go_at_call 84; (with_reducible refine (HMS.out _).mono ?_); rintro e w6 ⟨rfl, hb6⟩; have HB6 := Lib.hid hb6; clear hb6)
                | (go_at_call 76; (with_reducible refine (HM.out _).mono ?_); rintro e w3 ⟨rfl, hb3⟩; have HB3 := Lib.hid hb3; clear hb3)
                | (go_at_call 78; (with_reducible refine (HA.out _).mono ?_); rintro e w4 ⟨rfl, hb4⟩; have HB4 := Lib.hid hb4; clear hb4))
              go_ret
              exact ⟨by rw [HE.out]; rfl, below_next (below_next (below_next (below_next HB1.out HB2.out) HB6.out) HB3.out) HB4.out⟩
end Go.Proofs.YtofadgmnjckpcaaGreatDoor
namespace Go.Proofs.YtofadgmnjckpcaaGreatDoor
open Go.RowKit

set_option maxRecDepth 100000 in
set_option maxHeartbeats 1000000 in
theorem raddr_any (L : List UInt8) (w : World) :
    Calls Tryz.prog 91 #[.string (strOf L)] w fun e w' => e = .returned (.bool (addrB L)) ∧ Below w.heap.size w w' := by
  have e0 := strOf_size L
  by_cases h : L.length = 4
  · have d1 : ((L.length : Int) == (4 : Int)) = true := by rw [h]; rfl
    have HE := Lib.hid (show addrB L = true by unfold addrB; rw [decide_eq_true h]; rfl)
    clear h
    go_enter Tryz.func91, Tryz.ntmps91
    go_wp2_with fail
    go_ret
    exact ⟨by rw [HE.out]; rfl, Below.refl _ _⟩
  · have d1 : ((L.length : Int) == (4 : Int)) = false := by simp; omega
    by_cases h2 : L.length = 16
    · have d2 : ((L.length : Int) == (16 : Int)) = true := by rw [h2]; rfl
      have HE := Lib.hid (show addrB L = true by unfold addrB; rw [decide_eq_true h2, Bool.or_true])
      clear h2
      go_enter Tryz.func91, Tryz.ntmps91
      go_wp2_with fail
      go_ret
      exact ⟨by rw [HE.out]; rfl, Below.refl _ _⟩
    · have d2 : ((L.length : Int) == (16 : Int)) = false := by simp; omega
      have HE := Lib.hid (show addrB L = false by unfold addrB; rw [decide_eq_false h, decide_eq_false h2]; rfl)
      go_enter Tryz.func91, Tryz.ntmps91
      go_wp2_with fail
      go_ret
      exact ⟨by rw [HE.out]; rfl, Below.refl _ _⟩
theorem raddr_is {L : List UInt8} {b : Bool} (h : addrB L = b) (w : World) :
    Calls Tryz.prog 91 #[.string (strOf L)] w fun e w' => e = .returned (.bool b) ∧ Below w.heap.size w w' := by
  have := raddr_any L w
  rwa [h] at this

theorem range_all {L : List UInt8} {h : Nat} (hh : h = L.length / 2) (hl : L.length = 8 ∨ L.length = 32) (ha : ∀ j, j < 8 * h → bitOk L j = true) : rangeB L = true := by
  unfold rangeB
  rw [Bool.and_eq_true, Bool.or_eq_true, decide_eq_true_iff, decide_eq_true_iff, List.all_eq_true]
  exact ⟨hl, fun j hj => ha j (by rw [hh]; exact List.mem_range.1 hj)⟩
theorem range_bad {L : List UInt8} {h j : Nat} (hh : h = L.length / 2) (hj : j < 8 * h) (hb : bitOk L j = false) : rangeB L = false := by
  unfold rangeB
  rw [Bool.and_eq_false_iff]
  refine .inr ?_
  rw [Bool.eq_false_iff]
  intro k
  rw [List.all_eq_true] at k
  have := k j (List.mem_range.2 (by rw [← hh]; exact hj))
  rw [hb] at this
  cases this
theorem shr_two (M t : Nat) : ((M : Int) / 2 ^ t).tmod 2 = ((M / 2 ^ t % 2 : Nat) : Int) := by
  have e : (M : Int) / 2 ^ t = ((M / 2 ^ t : Nat) : Int) := by rw [Int.natCast_ediv, Int.natCast_pow]; rfl
  rw [e]
  generalize M / 2 ^ t = x
  rw [Int.tmod_eq_emod_of_nonneg (by omega)]
  omega
theorem tmod_one {M t : Nat} (h : M / 2 ^ t % 2 = 1) : ((M : Int) / 2 ^ t).tmod 2 = 1 := by rw [shr_two, h]; rfl
theorem tmod_zero {M t : Nat} (h : ¬ M / 2 ^ t % 2 = 1) : ((M : Int) / 2 ^ t).tmod 2 = 0 := by rw [shr_two, show M / 2 ^ t % 2 = 0 by omega]; rfl
theorem onesTo_succ (L : List UInt8) (i : Nat) : onesTo L (i + 1) = (onesTo L i && mbit L i) := by
  unfold onesTo
  rw [List.range_succ, List.all_append]
  simp

set_option maxRecDepth 100000 in
set_option maxHeartbeats 4000000 in
theorem rrange_any (L : List UInt8) (w : World) :
    Calls Tryz.prog 90 #[.string (strOf L)] w fun e w' => e = .returned (.bool (rangeB L)) ∧ Below w.heap.size w w' := by
  have e0 := strOf_size L
  by_cases hl : L.length = 8 ∨ L.length = 32
  · obtain ⟨h, hh⟩ : ∃ h, h = L.length / 2 := ⟨_, rfl⟩
    have HH := Lib.hid hh
    have HL := Lib.hid hl
    obtain ⟨n, hn⟩ : ∃ n, n = L.length := ⟨_, rfl⟩
    rw [← hn] at e0
    have HN := Lib.hid hn
    have hb : h ≤ 16 := by omega
    have hn2 : n = 2 * h := by omega
    have hq : (n : Int) / 2 = (h : Int) := by omega
    have HN2 := Lib.hid hn2
    have hor : (((n : Int) != 8) = false ∧ True) ∨ (((n : Int) != 8) = true ∧ ((n : Int) != 32) = false) := by
      rcases hl with h | h
      · rw [show n = 8 by omega]; exact .inl ⟨rfl, trivial⟩
      · rw [show n = 32 by omega]; exact .inr ⟨rfl, rfl⟩
    rcases hor with ⟨d8, d32⟩ | ⟨d8, d32⟩
    all_goals
      clear hl hh hn hn2
      go_enter Tryz.func90, Tryz.ntmps90
      go_wp2_with fail
      clear d8 d32 hq
      go_loopw [4, 5] (fun z i wr => ∃ (k : Nat) (Z : Bool), k ≤ 8 * h ∧ z = .bool Z ∧ Z = (!onesTo L k) ∧ i = .int .i64 (k : Int) ∧ (∀ j, j < k → bitOk L j = true) ∧ wr = w) (fun _ i _ => 8 * h - (intOf i).toNat)
      case atStart => exact ⟨0, false, Nat.zero_le _, rfl, rfl, rfl, fun j hj => absurd hj (Nat.not_lt_zero _), rfl⟩
      case round =>
        obtain ⟨k, Z, hk, rfl, hz, rfl, hall, rfl⟩ := hrel
        have HA := Lib.hid hall
        clear hall
        by_cases hlt : k < 8 * h
        · have hd : decide ((k : Int) < 8 * (h : Int)) = true := decide_eq_true (by omega)
          obtain ⟨q, hq⟩ : ∃ q, q = k / 8 := ⟨_, rfl⟩
          obtain ⟨r, hr⟩ : ∃ r, r = k % 8 := ⟨_, rfl⟩
          obtain ⟨t, ht⟩ : ∃ t, t = 7 - r := ⟨_, rfl⟩
          have q1 : (k : Int) / 8 = (q : Int) := by omega
          have q2 : (k : Int) % 8 = (r : Int) := by omega
          have q3 : (7 : Int) - (r : Int) = (t : Int) := by omega
          have ht7 : t ≤ 7 := by omega
          have hix := run_index_u8 (P := Tryz.prog) Tryz.underlying9 (strOf L) (h + q) (by rw [e0, HN2.out]; omega) ((h : Int) + (q : Int)) (by omega)
          have hiy := run_index_u8 (P := Tryz.prog) Tryz.underlying9 (strOf L) q (by rw [e0, HN2.out]; omega) (q : Int) rfl
          have hmb : mbit L k = decide (u8at (strOf L) (h + q) / 2 ^ t % 2 = 1) := by unfold mbit bitAt; rw [← HH.out, ← hq, ← hr, ← ht]; rfl
          have hab : abit L k = decide (u8at (strOf L) q / 2 ^ t % 2 = 1) := by unfold abit bitAt; rw [← hq, ← hr, ← ht, Nat.zero_add]; rfl
          have HBAD := Lib.hid (show bitOk L k = false → rangeB L = false from fun h => range_bad HH.out hlt h)
          have HNXT := Lib.hid (show bitOk L k = true → ∀ j, j < k + 1 → bitOk L j = true from fun h j hj => by
            rcases Nat.lt_or_ge j k with e | e
            · exact HA.out j e
            · rw [show j = k by omega]; exact h)
          have HT := Lib.hid ht
          clear hq hr ht
          generalize u8at (strOf L) (h + q) = M at hix hmb
          generalize u8at (strOf L) q = N at hiy hab
          cases hm : mbit L k with
          | true =>
            have f1 : ((M : Int) / 2 ^ t).tmod 2 = 1 := tmod_one (of_decide_eq_true (hmb.symm.trans hm))
            cases ho : onesTo L k with
            | true =>
              have hz' : Z = false := by rw [hz, ho]; rfl
              subst hz'
              have HO := Lib.hid (show false = !onesTo L (k + 1) by rw [onesTo_succ, ho, hm]; rfl)
              have HX := Lib.hid (HNXT.out (by unfold bitOk; rw [if_pos hm, ho]))
              clear hm ho hz hmb hab
              go_wp2_with fail
              go_roundw
              case rel => exact ⟨k + 1, _, by omega, rfl, HO.out, by go_num, HX.out, by first | exact trivial | rfl⟩
              case measure => simp [intOf]; omega
            | false =>
              have hz' : Z = true := by rw [hz, ho]; rfl
              subst hz'
              have HE := Lib.hid (HBAD.out (by unfold bitOk; rw [if_pos hm, ho]))
              clear hm ho hz hmb hab
              go_wp2_with fail
              go_ret
              exact ⟨by rw [HE.out]; rfl, Below.refl _ _⟩
          | false =>
            have f1 : ((M : Int) / 2 ^ t).tmod 2 = 0 := tmod_zero (of_decide_eq_false (hmb.symm.trans hm))
            cases ha : abit L k with
            | true =>
              have f2 : ((N : Int) / 2 ^ t).tmod 2 = 1 := tmod_one (of_decide_eq_true (hab.symm.trans ha))
              have HE := Lib.hid (HBAD.out (by unfold bitOk; rw [if_neg (by rw [hm]; simp), ha]; rfl))
              clear hm ha hmb hab
              go_wp2_with fail
              go_ret
              exact ⟨by rw [HE.out]; rfl, Below.refl _ _⟩
            | false =>
              have f2 : ((N : Int) / 2 ^ t).tmod 2 = 0 := tmod_zero (of_decide_eq_false (hab.symm.trans ha))
              have HO := Lib.hid (show true = !onesTo L (k + 1) by rw [onesTo_succ, hm, Bool.and_false]; rfl)
              have HX := Lib.hid (HNXT.out (by unfold bitOk; rw [if_neg (by rw [hm]; simp), ha]; rfl))
              cases ho : onesTo L k with
              | true =>
                have hz' : Z = false := by rw [hz, ho]; rfl
                subst hz'
                clear hm ha ho hz hmb hab
                go_wp2_with fail
                go_roundw
                case rel => exact ⟨k + 1, _, by omega, rfl, HO.out, by go_num, HX.out, by first | exact trivial | rfl⟩
                case measure => simp [intOf]; omega
              | false =>
                have hz' : Z = true := by rw [hz, ho]; rfl
                subst hz'
                clear hm ha ho hz hmb hab
                go_wp2_with fail
                go_roundw
                case rel => exact ⟨k + 1, _, by omega, rfl, HO.out, by go_num, HX.out, by first | exact trivial | rfl⟩
                case measure => simp [intOf]; omega
        · have ek : k = 8 * h := by omega
          have hd : decide ((k : Int) < 8 * (h : Int)) = false := decide_eq_false (by omega)
          have HE := Lib.hid (range_all HH.out HL.out fun j hj => HA.out j (by omega))
          clear ek
          go_wp2_with fail
          go_ret
          exact ⟨by rw [HE.out]; rfl, Below.refl _ _⟩
  · have HE := Lib.hid (show rangeB L = false by unfold rangeB; rw [decide_eq_false fun h => hl (.inl h), decide_eq_false fun h => hl (.inr h)]; rfl)
    have d1 : ((L.length : Int) != (8 : Int)) = true := by simp; omega
    have d2 : ((L.length : Int) != (32 : Int)) = true := by simp; omega
    clear hl
    go_enter Tryz.func90, Tryz.ntmps90
    go_wp2_with fail
    go_ret
    exact ⟨by rw [HE.out]; rfl, Below.refl _ _⟩
theorem rrange_is {L : List UInt8} {b : Bool} (h : rangeB L = b) (w : World) :
    Calls Tryz.prog 90 #[.string (strOf L)] w fun e w' => e = .returned (.bool b) ∧ Below w.heap.size w w' := by
  have := rrange_any L w
  rwa [h] at this
end Go.Proofs.YtofadgmnjckpcaaGreatDoor
