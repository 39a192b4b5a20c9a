/-
  The contract of the reference's MailWithin: whether a mail address or a base lies within a base.
-/
import Derived.Test.YtoogfipmdkneoaaDoorJaq
namespace Go.Proofs.YtoogfipmdkneoaaDoor
open Go.RowKit

theorem mail_ne {L : List UInt8} (h : mailBaseB L = true) : 1 ≤ L.length := by
  cases L with
  | cons c r => simp
  | nil => exact absurd h (by decide +kernel)

set_option maxRecDepth 100000 in
set_option maxHeartbeats 2000000 in
theorem rmw_any (s b : List UInt8) (hs : s.length ≤ 100000) (hb : b.length ≤ 100000) (w : World) :
    Calls Tryd.prog 31 #[.string (strOf s), .string (strOf b)] w fun e w' => e = .returned (.bool (mailWithinB s b)) ∧ Below w.heap.size w w' := by
  have HBL := Lib.hid (show b.length ≤ 1000000 by omega)
  have HSL := Lib.hid (show s.length ≤ 1000000 by omega)
  have HDL := Lib.hid (show (domP s).length ≤ 1000000 by have := domP_len s; omega)
  cases h1 : mailBaseB b with
  | false =>
    have HMB := Lib.hid (fun w => rmailbase_is h1 hb w)
    have HE := Lib.hid (show mailWithinB s b = false by unfold mailWithinB; rw [h1]; rfl)
    clear h1
    go_enter Tryd.func31, Tryd.ntmps31
    go_wp2_with (first
      | (go_at_call 22; (with_reducible refine (HMB.out _).mono ?_); rintro e w1 ⟨rfl, hb1⟩; have HB1 := Lib.hid hb1; clear hb1))
    go_ret
    exact ⟨by rw [HE.out]; rfl, HB1.out⟩
  | true =>
    have HMB := Lib.hid (fun w => rmailbase_is h1 hb w)
    have e0 := strOf_size b
    have hb1 := mail_ne h1
    obtain ⟨x, hx, hxn⟩ := u8at_list (strOf b) 0 (by rw [e0]; omega)
    have hiz := run_index_u8 (P := Tryd.prog) Tryd.underlying9 (strOf b) 0 (by rw [e0]; omega) 0 rfl
    rw [hxn] at hiz
    rw [strOf_list] at hx
    clear hxn
    cases h2 : mailB s with
    | true =>
      have HP := Lib.hid (fun w => rparts_yes h2 hs w)
      cases h3 : mailB b with
      | true =>
        have HM := Lib.hid (fun w => rmail_is h3 hb w)
        have HMM := Lib.hid (fun w => rmm_any s b hs hb w)
        have HE := Lib.hid (show mailWithinB s b = mailMatchB s b by unfold mailWithinB; rw [h1, if_pos h2, if_pos h3]; rfl)
        clear h1 h2 h3 hx
        go_enter Tryd.func31, Tryd.ntmps31
        go_wp2_with (first
          | (go_at_call 22; (with_reducible refine (HMB.out _).mono ?_); rintro e w1 ⟨rfl, hb1⟩; have HB1 := Lib.hid hb1; clear hb1)
          | (go_at_call 47; (with_reducible refine (HP.out _).mono ?_); rintro e w2 ⟨rfl, hb2⟩; have HB2 := Lib.hid hb2; clear hb2)
          | (go_at_call 20; (with_reducible refine (HM.out _).mono ?_); rintro e w3 ⟨rfl, hb3⟩; have HB3 := Lib.hid hb3; clear hb3)
          | (go_at_call 29; (with_reducible refine (HMM.out _).mono ?_); rintro e w4 ⟨rfl, hb4⟩; have HB4 := Lib.hid hb4; clear hb4))
        go_ret
        exact ⟨by rw [HE.out]; rfl, below_next (below_next (below_next HB1.out HB2.out) HB3.out) HB4.out⟩
      | false =>
        have HM := Lib.hid (fun w => rmail_is h3 hb w)
        have HR := Lib.hid (show mailWithinB s b = relB (domP s) b by unfold mailWithinB; rw [h1, if_pos h2, if_neg (by rw [h3]; simp)]; rfl)
        clear h1 h2 h3
        generalize localP s = la at HP
        generalize domP s = d at HP HR HDL
        cases h4 : alikeB d b with
        | true =>
          have HA := Lib.hid (fun w => ralike_is h4 HDL.out HBL.out w)
          have HE := Lib.hid (show mailWithinB s b = true by rw [HR.out]; unfold relB; rw [h4]; rfl)
          clear h4 hx
          go_enter Tryd.func31, Tryd.ntmps31
          go_wp2_with (first
            | (go_at_call 22; (with_reducible refine (HMB.out _).mono ?_); rintro e w1 ⟨rfl, hb1⟩; have HB1 := Lib.hid hb1; clear hb1)
            | (go_at_call 47; (with_reducible refine (HP.out _).mono ?_); rintro e w2 ⟨rfl, hb2⟩; have HB2 := Lib.hid hb2; clear hb2)
            | (go_at_call 20; (with_reducible refine (HM.out _).mono ?_); rintro e w3 ⟨rfl, hb3⟩; have HB3 := Lib.hid hb3; clear hb3)
            | (go_at_call 50; (with_reducible refine (HA.out _).mono ?_); rintro e w4 ⟨rfl, hb4⟩; have HB4 := Lib.hid hb4; clear hb4))
          go_ret
          exact ⟨by rw [HE.out]; rfl, below_next (below_next (below_next HB1.out HB2.out) HB3.out) HB4.out⟩
        | false =>
          have HA := Lib.hid (fun w => ralike_is h4 HDL.out HBL.out w)
          by_cases h5 : x = 46
          · have dx : (((x.toNat : Nat) : Int) == (46 : Int)) = true := by rw [h5]; rfl
            have HEN := Lib.hid (fun w => rends_any d b HDL.out HBL.out w)
            have HE := Lib.hid (show mailWithinB s b = endsB d b by rw [HR.out]; unfold relB; rw [h4, List.head?_eq_getElem?, hx, h5]; rfl)
            clear h4 h5 hx
            go_enter Tryd.func31, Tryd.ntmps31
            go_wp2_with (first
              | (go_at_call 22; (with_reducible refine (HMB.out _).mono ?_); rintro e w1 ⟨rfl, hb1⟩; have HB1 := Lib.hid hb1; clear hb1)
              | (go_at_call 47; (with_reducible refine (HP.out _).mono ?_); rintro e w2 ⟨rfl, hb2⟩; have HB2 := Lib.hid hb2; clear hb2)
              | (go_at_call 20; (with_reducible refine (HM.out _).mono ?_); rintro e w3 ⟨rfl, hb3⟩; have HB3 := Lib.hid hb3; clear hb3)
              | (go_at_call 50; (with_reducible refine (HA.out _).mono ?_); rintro e w4 ⟨rfl, hb4⟩; have HB4 := Lib.hid hb4; clear hb4)
              | (go_at_call 52; (with_reducible refine (HEN.out _).mono ?_); rintro e w5 ⟨rfl, hb5⟩; have HB5 := Lib.hid hb5; clear hb5))
            go_ret
            exact ⟨by rw [HE.out]; rfl, below_next (below_next (below_next (below_next HB1.out HB2.out) HB3.out) HB4.out) HB5.out⟩
          · have dx : (((x.toNat : Nat) : Int) == (46 : Int)) = false := byte_ne h5
            have HE := Lib.hid (show mailWithinB s b = false by rw [HR.out]; unfold relB; rw [h4, List.head?_eq_getElem?, hx, show ((some x : Option UInt8) == some 46) = false from beq_eq_false_iff_ne.2 fun h => h5 (Option.some.inj h)]; rfl)
            clear h4 h5 hx
            go_enter Tryd.func31, Tryd.ntmps31
            go_wp2_with (first
              | (go_at_call 22; (with_reducible refine (HMB.out _).mono ?_); rintro e w1 ⟨rfl, hb1⟩; have HB1 := Lib.hid hb1; clear hb1)
              | (go_at_call 47; (with_reducible refine (HP.out _).mono ?_); rintro e w2 ⟨rfl, hb2⟩; have HB2 := Lib.hid hb2; clear hb2)
              | (go_at_call 20; (with_reducible refine (HM.out _).mono ?_); rintro e w3 ⟨rfl, hb3⟩; have HB3 := Lib.hid hb3; clear hb3)
              | (go_at_call 50; (with_reducible refine (HA.out _).mono ?_); rintro e w4 ⟨rfl, hb4⟩; have HB4 := Lib.hid hb4; clear hb4))
            go_ret
            exact ⟨by rw [HE.out]; rfl, below_next (below_next (below_next HB1.out HB2.out) HB3.out) HB4.out⟩
    | false =>
      have HP := Lib.hid (fun w => rparts_no h2 hs w)
      cases h6 : mailBaseB s with
      | false =>
        have HMS := Lib.hid (fun w => rmailbase_is h6 hs w)
        have HE := Lib.hid (show mailWithinB s b = false by unfold mailWithinB; rw [h1, if_neg (by rw [h2]; simp), h6]; rfl)
        clear h1 h2 h6 hx
        go_enter Tryd.func31, Tryd.ntmps31
        go_wp2_with (first
          | (go_at_call 22; (with_reducible refine (HMB.out _).mono ?_); rintro e w1 ⟨rfl, hb1⟩; have HB1 := Lib.hid hb1; clear hb1)
          | (go_at_call 47; (with_reducible refine (HP.out _).mono ?_); rintro e w2 ⟨rfl, hb2⟩; have HB2 := Lib.hid hb2; clear hb2)
          | (go_at_call 22; (with_reducible refine (HMS.out _).mono ?_); rintro e w6 ⟨rfl, hb6⟩; have HB6 := Lib.hid hb6; clear hb6))
        go_ret
        exact ⟨by rw [HE.out]; rfl, below_next (below_next HB1.out HB2.out) HB6.out⟩
      | true =>
        have HMS := Lib.hid (fun w => rmailbase_is h6 hs w)
        cases h3 : mailB b with
        | true =>
          have HM := Lib.hid (fun w => rmail_is h3 hb w)
          have HE := Lib.hid (show mailWithinB s b = false by unfold mailWithinB; rw [h1, if_neg (by rw [h2]; simp), h6, h3]; rfl)
          clear h1 h2 h6 h3 hx
          go_enter Tryd.func31, Tryd.ntmps31
          go_wp2_with (first
            | (go_at_call 22; (with_reducible refine (HMB.out _).mono ?_); rintro e w1 ⟨rfl, hb1⟩; have HB1 := Lib.hid hb1; clear hb1)
            | (go_at_call 47; (with_reducible refine (HP.out _).mono ?_); rintro e w2 ⟨rfl, hb2⟩; have HB2 := Lib.hid hb2; clear hb2)
            | (go_at_call 22; (with_reducible refine (HMS.out _).mono ?_); rintro e w6 ⟨rfl, hb6⟩; have HB6 := Lib.hid hb6; clear hb6)
            | (go_at_call 20; (with_reducible refine (HM.out _).mono ?_); rintro e w3 ⟨rfl, hb3⟩; have HB3 := Lib.hid hb3; clear hb3))
          go_ret
          exact ⟨by rw [HE.out]; rfl, below_next (below_next (below_next HB1.out HB2.out) HB6.out) HB3.out⟩
        | false =>
          have HM := Lib.hid (fun w => rmail_is h3 hb w)
          have HR := Lib.hid (show mailWithinB s b = relB s b by unfold mailWithinB; rw [h1, if_neg (by rw [h2]; simp), h6, h3]; rfl)
          clear h1 h2 h6 h3
          cases h4 : alikeB s b with
          | true =>
            have HA := Lib.hid (fun w => ralike_is h4 HSL.out HBL.out w)
            have HE := Lib.hid (show mailWithinB s b = true by rw [HR.out]; unfold relB; rw [h4]; rfl)
            clear h4 hx
            go_enter Tryd.func31, Tryd.ntmps31
            go_wp2_with (first
              | (go_at_call 22; (with_reducible refine (HMB.out _).mono ?_); rintro e w1 ⟨rfl, hb1⟩; have HB1 := Lib.hid hb1; clear hb1)
              | (go_at_call 47; (with_reducible refine (HP.out _).mono ?_); rintro e w2 ⟨rfl, hb2⟩; have HB2 := Lib.hid hb2; clear hb2)
              | (go_at_call 22; (with_reducible refine (HMS.out _).mono ?_); rintro e w6 ⟨rfl, hb6⟩; have HB6 := Lib.hid hb6; clear hb6)
              | (go_at_call 20; (with_reducible refine (HM.out _).mono ?_); rintro e w3 ⟨rfl, hb3⟩; have HB3 := Lib.hid hb3; clear hb3)
              | (go_at_call 50; (with_reducible refine (HA.out _).mono ?_); rintro e w4 ⟨rfl, hb4⟩; have HB4 := Lib.hid hb4; clear hb4))
            go_ret
            exact ⟨by rw [HE.out]; rfl, below_next (below_next (below_next (below_next HB1.out HB2.out) HB6.out) HB3.out) HB4.out⟩
          | false =>
            have HA := Lib.hid (fun w => ralike_is h4 HSL.out HBL.out w)
            by_cases h5 : x = 46
            · have dx : (((x.toNat : Nat) : Int) == (46 : Int)) = true := by rw [h5]; rfl
              have HEN := Lib.hid (fun w => rends_any s b HSL.out HBL.out w)
              have HE := Lib.hid (show mailWithinB s b = endsB s b by rw [HR.out]; unfold relB; rw [h4, List.head?_eq_getElem?, hx, h5]; rfl)
              clear h4 h5 hx
              go_enter Tryd.func31, Tryd.ntmps31
              go_wp2_with (first
                | (go_at_call 22; (with_reducible refine (HMB.out _).mono ?_); rintro e w1 ⟨rfl, hb1⟩; have HB1 := Lib.hid hb1; clear hb1)
                | (go_at_call 47; (with_reducible refine (HP.out _).mono ?_); rintro e w2 ⟨rfl, hb2⟩; have HB2 := Lib.hid hb2; clear hb2)
                | (go_at_call 22; (with_reducible refine (HMS.out _).mono ?_); rintro e w6 ⟨rfl, hb6⟩; have HB6 := Lib.hid hb6; clear hb6)
                | (go_at_call 20; (with_reducible refine (HM.out _).mono ?_); rintro e w3 ⟨rfl, hb3⟩; have HB3 := Lib.hid hb3; clear hb3)
                | (go_at_call 50; (with_reducible refine (HA.out _).mono ?_); rintro e w4 ⟨rfl, hb4⟩; have HB4 := Lib.hid hb4; clear hb4)
                | (go_at_call 52; (with_reducible refine (HEN.out _).mono ?_); rintro e w5 ⟨rfl, hb5⟩; have HB5 := Lib.hid hb5; clear hb5))
              go_ret
              exact ⟨by rw [HE.out]; rfl, below_next (below_next (below_next (below_next (below_next HB1.out HB2.out) HB6.out) HB3.out) HB4.out) HB5.out⟩
            · have dx : (((x.toNat : Nat) : Int) == (46 : Int)) = false := byte_ne h5
              have HE := Lib.hid (show mailWithinB s b = false by rw [HR.out]; unfold relB; rw [h4, List.head?_eq_getElem?, hx, show ((some x : Option UInt8) == some 46) = false from beq_eq_false_iff_ne.2 fun h => h5 (Option.some.inj h)]; rfl)
              clear h4 h5 hx
              go_enter Tryd.func31, Tryd.ntmps31
              go_wp2_with (first
                | (go_at_call 22; (with_reducible refine (HMB.out _).mono ?_); rintro e w1 ⟨rfl, hb1⟩; have HB1 := Lib.hid hb1; clear hb1)
                | (go_at_call 47; (with_reducible refine (HP.out _).mono ?_); rintro e w2 ⟨rfl, hb2⟩; have HB2 := Lib.hid hb2; clear hb2)
                | (go_at_call 22; (with_reducible refine (HMS.out _).mono ?_); rintro e w6 ⟨rfl, hb6⟩; have HB6 := Lib.hid hb6; clear hb6)
                | (go_at_call 20; (with_reducible refine (HM.out _).mono ?_); rintro e w3 ⟨rfl, hb3⟩; have HB3 := Lib.hid hb3; clear hb3)
                | (go_at_call 50; (with_reducible refine (HA.out _).mono ?_); rintro e w4 ⟨rfl, hb4⟩; have HB4 := Lib.hid hb4; clear hb4))
              go_ret
              exact ⟨by rw [HE.out]; rfl, below_next (below_next (below_next (below_next HB1.out HB2.out) HB6.out) HB3.out) HB4.out⟩
end Go.Proofs.YtoogfipmdkneoaaDoor
