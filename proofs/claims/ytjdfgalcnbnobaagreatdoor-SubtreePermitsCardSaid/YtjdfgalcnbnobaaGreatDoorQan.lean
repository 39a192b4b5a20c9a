/-
  The contracts of the reference's Mail and MailBase: whether a text is a mail address; whether it is a base of such.
  The contract of the reference's MailMatch: whether two mail addresses are the same.
-/
import Derived.Test.YtjdfgalcnbnobaaGreatDoorQam
namespace Go.Proofs.YtjdfgalcnbnobaaGreatDoor
open Go.RowKit

theorem rparts_no {L : List UInt8} (h : mailB L = false) (hL : L.length ≤ 100000) (w : World) :
    Calls Tryz.prog 85 #[.string (strOf L)] w fun e w' => e = .returned (.tuple #[.string ⟨#[]⟩, .string ⟨#[]⟩, .bool false]) ∧ Below w.heap.size w w' := by
  have := rparts_any L hL w
  rwa [partsR_no h] at this
theorem rparts_yes {L : List UInt8} (h : mailB L = true) (hL : L.length ≤ 100000) (w : World) :
    Calls Tryz.prog 85 #[.string (strOf L)] w fun e w' => e = .returned (.tuple #[.string (strOf (localP L)), .string (strOf (domP L)), .bool true]) ∧ Below w.heap.size w w' := by
  have := rparts_any L hL w
  rwa [partsR_yes h] at this
set_option maxRecDepth 100000 in
set_option maxHeartbeats 1000000 in
theorem rmail_any (L : List UInt8) (hL : L.length ≤ 100000) (w : World) :
    Calls Tryz.prog 76 #[.string (strOf L)] w fun e w' => e = .returned (.bool (mailB L)) ∧ Below w.heap.size w w' := by
  cases h : mailB L with
  | true =>
    have HP := Lib.hid (fun w => rparts_yes h hL w)
    clear h
    go_enter Tryz.func76, Tryz.ntmps76
    go_wp2_with (go_at_call 85; (with_reducible refine (HP.out _).mono ?_); rintro e w2 ⟨rfl, hb2⟩; have HB2 := Lib.hid hb2; clear hb2)
    go_ret
    exact ⟨rfl, HB2.out⟩
  | false =>
    have HP := Lib.hid (fun w => rparts_no h hL w)
    clear h
    go_enter Tryz.func76, Tryz.ntmps76
    go_wp2_with (go_at_call 85; (with_reducible refine (HP.out _).mono ?_); rintro e w2 ⟨rfl, hb2⟩; have HB2 := Lib.hid hb2; clear hb2)
    go_ret
    exact ⟨rfl, HB2.out⟩
theorem rmail_is {L : List UInt8} {b : Bool} (h : mailB L = b) (hL : L.length ≤ 100000) (w : World) :
    Calls Tryz.prog 76 #[.string (strOf L)] w fun e w' => e = .returned (.bool b) ∧ Below w.heap.size w w' := by
  have := rmail_any L hL w
  rwa [h] at this
def dotB (l : List UInt8) : Bool := decide (l.length ≤ 128) && decide (1 < l.length) && l.head? == some 46 && dnsB (l.drop 1)
theorem mailBase_def (l : List UInt8) : mailBaseB l = (mailB l || dnsB l || dotB l) := rfl

set_option maxRecDepth 100000 in
set_option maxHeartbeats 2000000 in
theorem rmailbase_any (L : List UInt8) (hL : L.length ≤ 100000) (w : World) :
    Calls Tryz.prog 84 #[.string (strOf L)] w fun e w' => e = .returned (.bool (mailBaseB L)) ∧ Below w.heap.size w w' := by
  have e0 := strOf_size L
  cases h1 : mailB L with
  | true =>
    have HE := Lib.hid (show mailBaseB L = true by rw [mailBase_def, h1]; rfl)
    have HM := Lib.hid (fun w => rmail_is h1 hL w)
    clear h1
    go_enter Tryz.func84, Tryz.ntmps84
    go_wp2_with (go_at_call 76; (with_reducible refine (HM.out _).mono ?_); rintro e w1 ⟨rfl, hb1⟩; have HB1 := Lib.hid hb1; clear hb1)
    go_ret
    exact ⟨by rw [HE.out]; rfl, HB1.out⟩
  | false =>
    have HM := Lib.hid (fun w => rmail_is h1 hL w)
    cases h2 : dnsB L with
    | true =>
      have HE := Lib.hid (show mailBaseB L = true by rw [mailBase_def, h1, h2]; rfl)
      have HS := Lib.hid (fun w => rdns_is h2 hL w)
      clear h1 h2
      go_enter Tryz.func84, Tryz.ntmps84
      go_wp2_with (first
        | (go_at_call 76; (with_reducible refine (HM.out _).mono ?_); rintro e w1 ⟨rfl, hb1⟩; have HB1 := Lib.hid hb1; clear hb1)
        | (go_at_call 108; (with_reducible refine (HS.out _).mono ?_); rintro e w2 ⟨rfl, hb2⟩; have HB2 := Lib.hid hb2; clear hb2))
      go_ret
      exact ⟨by rw [HE.out]; rfl, below_next HB1.out HB2.out⟩
    | false =>
      have HS := Lib.hid (fun w => rdns_is h2 hL w)
      have HE := Lib.hid (show mailBaseB L = dotB L by rw [mailBase_def, h1, h2]; rfl)
      clear h1 h2
      by_cases h3 : L.length ≤ 128
      · have d3 : decide ((L.length : Int) ≤ (128 : Int)) = true := by simp; omega
        by_cases h4 : 1 < L.length
        · have d4 : decide ((1 : Int) < (L.length : Int)) = true := by simp; omega
          obtain ⟨x, hx, hxn⟩ := u8at_list (strOf L) 0 (by rw [e0]; omega)
          have hiz := run_index_u8 (P := Tryz.prog) Tryz.underlying9 (strOf L) 0 (by rw [e0]; omega) 0 rfl
          rw [hxn] at hiz
          rw [strOf_list] at hx
          by_cases h5 : x = 46
          · have dx : (((x.toNat : Nat) : Int) == (46 : Int)) = true := by rw [h5]; rfl
            have HE2 := Lib.hid (show mailBaseB L = dnsB (L.drop 1) by rw [HE.out]; unfold dotB; rw [decide_eq_true h3, decide_eq_true h4, List.head?_eq_getElem?, hx, h5]; rfl)
            have htl := fun w => tail_of L 1 (by omega) 1 rfl w
            obtain ⟨D, hD⟩ : ∃ D, D = L.drop 1 := ⟨_, rfl⟩
            rw [← hD] at htl HE2
            have HDL := Lib.hid (show D.length ≤ 100000 by rw [hD, List.length_drop]; omega)
            clear h5 hx hxn hD
            go_enter Tryz.func84, Tryz.ntmps84
            go_wp2_with (first
              | (go_at_call 76; (with_reducible refine (HM.out _).mono ?_); rintro e w1 ⟨rfl, hb1⟩; have HB1 := Lib.hid hb1; clear hb1)
              | (go_at_call 108; (with_reducible refine (HS.out _).mono ?_); rintro e w2 ⟨rfl, hb2⟩; have HB2 := Lib.hid hb2; clear hb2)
              | (go_at_call 108; (with_reducible refine (rdns_any D HDL.out _).mono ?_); rintro e w3 ⟨rfl, hb3⟩; have HB3 := Lib.hid hb3; clear hb3))
            go_ret
            exact ⟨by rw [HE2.out]; rfl, below_next (below_next HB1.out HB2.out) HB3.out⟩
          · have dx : (((x.toNat : Nat) : Int) == (46 : Int)) = false := byte_ne h5
            have HE2 := Lib.hid (show mailBaseB L = false by rw [HE.out]; unfold dotB; rw [List.head?_eq_getElem?, hx, show ((some x : Option UInt8) == some 46) = false from beq_eq_false_iff_ne.2 fun h => h5 (Option.some.inj h)]; simp)
            clear h5 hx hxn
            go_enter Tryz.func84, Tryz.ntmps84
            go_wp2_with (first
              | (go_at_call 76; (with_reducible refine (HM.out _).mono ?_); rintro e w1 ⟨rfl, hb1⟩; have HB1 := Lib.hid hb1; clear hb1)
              | (go_at_call 108; (with_reducible refine (HS.out _).mono ?_); rintro e w2 ⟨rfl, hb2⟩; have HB2 := Lib.hid hb2; clear hb2))
            go_ret
            exact ⟨by rw [HE2.out]; rfl, below_next HB1.out HB2.out⟩
        · have d4 : decide ((1 : Int) < (L.length : Int)) = false := decide_eq_false (by omega)
          have HE2 := Lib.hid (show mailBaseB L = false by rw [HE.out]; unfold dotB; rw [decide_eq_false h4]; simp)
          go_enter Tryz.func84, Tryz.ntmps84
          go_wp2_with (first
            | (go_at_call 76; (with_reducible refine (HM.out _).mono ?_); rintro e w1 ⟨rfl, hb1⟩; have HB1 := Lib.hid hb1; clear hb1)
            | (go_at_call 108; (with_reducible refine (HS.out _).mono ?_); rintro e w2 ⟨rfl, hb2⟩; have HB2 := Lib.hid hb2; clear hb2))
          go_ret
          exact ⟨by rw [HE2.out]; rfl, below_next HB1.out HB2.out⟩
      · have d3 : decide ((L.length : Int) ≤ (128 : Int)) = false := decide_eq_false (by omega)
        have HE2 := Lib.hid (show mailBaseB L = false by rw [HE.out]; unfold dotB; rw [decide_eq_false h3]; simp)
        go_enter Tryz.func84, Tryz.ntmps84
        go_wp2_with (first
          | (go_at_call 76; (with_reducible refine (HM.out _).mono ?_); rintro e w1 ⟨rfl, hb1⟩; have HB1 := Lib.hid hb1; clear hb1)
          | (go_at_call 108; (with_reducible refine (HS.out _).mono ?_); rintro e w2 ⟨rfl, hb2⟩; have HB2 := Lib.hid hb2; clear hb2))
        go_ret
        exact ⟨by rw [HE2.out]; rfl, below_next HB1.out HB2.out⟩
theorem rmailbase_is {L : List UInt8} {b : Bool} (h : mailBaseB L = b) (hL : L.length ≤ 100000) (w : World) :
    Calls Tryz.prog 84 #[.string (strOf L)] w fun e w' => e = .returned (.bool b) ∧ Below w.heap.size w w' := by
  have := rmailbase_any L hL w
  rwa [h] at this
end Go.Proofs.YtjdfgalcnbnobaaGreatDoor
namespace Go.Proofs.YtjdfgalcnbnobaaGreatDoor
open Go.RowKit

theorem domP_len (L : List UInt8) : (domP L).length ≤ L.length := by unfold domP; rw [List.length_drop]; omega
theorem same_is {a b : List UInt8} (h : a = b) : ((strOf a).toList == (strOf b).toList) = true ∧ ((strOf a).toList = (strOf b).toList) = True := by subst h; simp
theorem same_not {a b : List UInt8} (h : a ≠ b) : ((strOf a).toList == (strOf b).toList) = false ∧ ((strOf a).toList = (strOf b).toList) = False := by
  rw [toList_of, toList_of]
  simp [h]

set_option maxRecDepth 100000 in
set_option maxHeartbeats 2000000 in
theorem rmm_any (a b : List UInt8) (ha : a.length ≤ 100000) (hb : b.length ≤ 100000) (w : World) :
    Calls Tryz.prog 77 #[.string (strOf a), .string (strOf b)] w fun e w' => e = .returned (.bool (mailMatchB a b)) ∧ Below w.heap.size w w' := by
  cases h1 : mailB a with
  | false =>
    have HP := Lib.hid (fun w => rparts_no h1 ha w)
    have HE := Lib.hid (show mailMatchB a b = false by unfold mailMatchB; rw [h1]; rfl)
    clear h1
    cases h2 : mailB b with
    | false =>
      have HQ := Lib.hid (fun w => rparts_no h2 hb w)
      clear h2
      go_enter Tryz.func77, Tryz.ntmps77
      go_wp2_with (first
        | (go_at_call 85; (with_reducible refine (HP.out _).mono ?_); rintro e w1 ⟨rfl, hb1⟩; have HB1 := Lib.hid hb1; clear hb1)
        | (go_at_call 85; (with_reducible refine (HQ.out _).mono ?_); rintro e w2 ⟨rfl, hb2⟩; have HB2 := Lib.hid hb2; clear hb2))
      go_ret
      exact ⟨by rw [HE.out]; rfl, below_next HB1.out HB2.out⟩
    | true =>
      have HQ := Lib.hid (fun w => rparts_yes h2 hb w)
      clear h2
      go_enter Tryz.func77, Tryz.ntmps77
      go_wp2_with (first
        | (go_at_call 85; (with_reducible refine (HP.out _).mono ?_); rintro e w1 ⟨rfl, hb1⟩; have HB1 := Lib.hid hb1; clear hb1)
        | (go_at_call 85; (with_reducible refine (HQ.out _).mono ?_); rintro e w2 ⟨rfl, hb2⟩; have HB2 := Lib.hid hb2; clear hb2))
      go_ret
      exact ⟨by rw [HE.out]; rfl, below_next HB1.out HB2.out⟩
  | true =>
    have HP := Lib.hid (fun w => rparts_yes h1 ha w)
    cases h2 : mailB b with
    | false =>
      have HE := Lib.hid (show mailMatchB a b = false by unfold mailMatchB; rw [h2]; simp)
      have HQ := Lib.hid (fun w => rparts_no h2 hb w)
      clear h1 h2
      go_enter Tryz.func77, Tryz.ntmps77
      go_wp2_with (first
        | (go_at_call 85; (with_reducible refine (HP.out _).mono ?_); rintro e w1 ⟨rfl, hb1⟩; have HB1 := Lib.hid hb1; clear hb1)
        | (go_at_call 85; (with_reducible refine (HQ.out _).mono ?_); rintro e w2 ⟨rfl, hb2⟩; have HB2 := Lib.hid hb2; clear hb2))
      go_ret
      exact ⟨by rw [HE.out]; rfl, below_next HB1.out HB2.out⟩
    | true =>
      have HQ := Lib.hid (fun w => rparts_yes h2 hb w)
      have HE := Lib.hid (show mailMatchB a b = (decide (localP a = localP b) && alikeB (domP a) (domP b)) by unfold mailMatchB; rw [h1, h2]; rfl)
      have H1 := Lib.hid (show (domP a).length ≤ 1000000 by have := domP_len a; omega)
      have H2 := Lib.hid (show (domP b).length ≤ 1000000 by have := domP_len b; omega)
      clear h1 h2
      generalize localP a = la at HP HE
      generalize localP b = lb at HQ HE
      generalize domP a = da at HP HE H1
      generalize domP b = db at HQ HE H2
      by_cases h3 : la = lb
      · obtain ⟨f1, f2⟩ := same_is h3
        have HE2 := Lib.hid (show mailMatchB a b = alikeB da db by rw [HE.out, decide_eq_true h3]; rfl)
        clear h3
        go_enter Tryz.func77, Tryz.ntmps77
        go_wp2_with (first
          | (go_at_call 85; (with_reducible refine (HP.out _).mono ?_); rintro e w1 ⟨rfl, hb1⟩; have HB1 := Lib.hid hb1; clear hb1)
          | (go_at_call 85; (with_reducible refine (HQ.out _).mono ?_); rintro e w2 ⟨rfl, hb2⟩; have HB2 := Lib.hid hb2; clear hb2)
          | (go_at_call 78; (with_reducible refine (ralike_any da db H1.out H2.out _).mono ?_); rintro e w3 ⟨rfl, hb3⟩; have HB3 := Lib.hid hb3; clear hb3))
        go_ret
        exact ⟨by rw [HE2.out]; rfl, below_next (below_next HB1.out HB2.out) HB3.out⟩
      · obtain ⟨f1, f2⟩ := same_not h3
        have HE2 := Lib.hid (show mailMatchB a b = false by rw [HE.out, decide_eq_false h3]; rfl)
        clear h3
        go_enter Tryz.func77, Tryz.ntmps77
        go_wp2_with (first
          | (go_at_call 85; (with_reducible refine (HP.out _).mono ?_); rintro e w1 ⟨rfl, hb1⟩; have HB1 := Lib.hid hb1; clear hb1)
          | (go_at_call 85; (with_reducible refine (HQ.out _).mono ?_); rintro e w2 ⟨rfl, hb2⟩; have HB2 := Lib.hid hb2; clear hb2))
        go_ret
        exact ⟨by rw [HE2.out]; rfl, below_next HB1.out HB2.out⟩
end Go.Proofs.YtjdfgalcnbnobaaGreatDoor
