/-
  The contracts of the reference's Pattern and Base: whether a text is a DNS name or a pattern; whether it is a base.
  The contract of the reference's DNSMatch: whether a pattern matches a name.
  The contract of the reference's DNSWithin: whether a name, a pattern or a base lies within a base.
-/
import Derived.Test.YtofadgmnjckpcaaGreatDoorVah
import Derived.Lib.QuietBelow
import Derived.BigQuiet
namespace Go.Proofs.YtofadgmnjckpcaaGreatDoor
open Go.RowKit

theorem rdns_is {L : List UInt8} {b : Bool} (h : dnsB L = b) (hL : L.length ≤ 100000) (w : World) :
    Calls Tryz.prog 108 #[.string (strOf L)] w fun e w' => e = .returned (.bool b) ∧ Below w.heap.size w w' := by
  have := rdns_any L hL w
  rwa [h] at this
theorem split_num (L : List UInt8) (h : L.length ≤ 100000) (w : World) :
    Calls Tryz.prog 111 #[.string (strOf L), .int .u8 46] w fun e w' => (∃ a cp, e = .returned (.slice a (pcsL 46 L).length cp)) ∧ Below w.heap.size w w' := by
  refine (split_dot L h w).mono ?_
  rintro e w1 ⟨⟨v, rfl, ho⟩, hb⟩
  obtain ⟨g, cp, rfl, _⟩ := ho.pieces
  exact ⟨⟨_, cp, rfl⟩, hb⟩
theorem toList_of (l : List UInt8) : (strOf l).toList = l := by rw [toList_eq_list]; rfl
/-- The form of a pattern that is no name. -/
def starB (l : List UInt8) : Bool := decide (l.length ≤ 128) && decide (2 < l.length) && decide (l.take 2 = [42, 46]) && dnsB (l.drop 2) && decide (2 < (pcsL 46 l).length)
theorem patB_def (l : List UInt8) : patB l = (dnsB l || starB l) := rfl

set_option maxRecDepth 100000 in
set_option maxHeartbeats 2000000 in
theorem rpat_any (L : List UInt8) (hL : L.length ≤ 100000) (w : World) :
    Calls Tryz.prog 87 #[.string (strOf L)] w fun e w' => e = .returned (.bool (patB L)) ∧ Below w.heap.size w w' := by
  have e0 := strOf_size L
  have HL := Lib.hid hL
  rw [patB_def]
  cases hd : dnsB L with
  | true =>
    have HD := Lib.hid (fun w => rdns_is hd hL w)
    clear hL hd
    go_enter Tryz.func87, Tryz.ntmps87
    go_wp2_with (go_at_call 108; (with_reducible refine (HD.out _).mono ?_); rintro e w1 ⟨rfl, hb1⟩; have HB1 := Lib.hid hb1; clear hb1)
    go_ret
    exact ⟨rfl, HB1.out⟩
  | false =>
    have HD := Lib.hid (fun w => rdns_is hd hL w)
    clear hd
    by_cases h1 : L.length ≤ 128
    · have d1 : decide ((L.length : Int) ≤ (128 : Int)) = true := by simp; omega
      by_cases h2 : 2 < L.length
      · have d2 : decide ((2 : Int) < (L.length : Int)) = true := by simp; omega
        have hsh := fun w => head_of L 2 (by omega) (2 : Int) rfl w
        have hbe : ((strOf (L.take 2)).toList == [42, 46]) = decide (L.take 2 = [42, 46]) := by rw [toList_of, Bool.eq_iff_iff, beq_iff_eq, decide_eq_true_iff]
        have hbp : ((strOf (L.take 2)).toList = [42, 46]) = (L.take 2 = [42, 46]) := by rw [toList_of]
        by_cases h3 : L.take 2 = [42, 46]
        · rw [decide_eq_true h3] at hbe
          rw [eq_true h3] at hbp
          have hst := fun w => tail_of L 2 (by omega) (2 : Int) rfl w
          generalize hT : L.take 2 = T at hsh hbe hbp
          obtain ⟨D, hD⟩ : ∃ D, D = L.drop 2 := ⟨_, rfl⟩
          rw [← hD] at hst
          have HDL := Lib.hid (show D.length ≤ 100000 by rw [hD, List.length_drop]; omega)
          have HS := Lib.hid (show starB L = (dnsB D && decide (2 < (pcsL 46 L).length)) by
            unfold starB; rw [decide_eq_true h1, decide_eq_true h2, decide_eq_true h3, ← hD]; rfl)
          have HTT := Lib.hid hT
          clear hT hD h3
          cases hq : dnsB D with
          | true =>
            have HQ := Lib.hid (fun w => rdns_is hq HDL.out w)
            have HS2 := Lib.hid (show starB L = decide (2 < (pcsL 46 L).length) by rw [HS.out, hq]; rfl)
            clear hq
            go_enter Tryz.func87, Tryz.ntmps87
            go_wp2_with (first
              | (go_at_call 108; (with_reducible refine (HD.out _).mono ?_); rintro e w1 ⟨rfl, hb1⟩; have HB1 := Lib.hid hb1; clear hb1)
              | (go_at_call 108; (with_reducible refine (HQ.out _).mono ?_); rintro e w2 ⟨rfl, hb2⟩; have HB2 := Lib.hid hb2; clear hb2)
              | (go_at_call 111; (with_reducible refine (split_num L HL.out _).mono ?_); rintro e w3 ⟨⟨a, cp, rfl⟩, hb3⟩; have HB3 := Lib.hid hb3; clear hb3))
            go_ret
            exact ⟨by rw [HS2.out]; simp; omega, below_next (below_next HB1.out HB2.out) HB3.out⟩
          | false =>
            have HQ := Lib.hid (fun w => rdns_is hq HDL.out w)
            have HS2 := Lib.hid (show starB L = false by rw [HS.out, hq]; rfl)
            clear hq
            go_enter Tryz.func87, Tryz.ntmps87
            go_wp2_with (first
              | (go_at_call 108; (with_reducible refine (HD.out _).mono ?_); rintro e w1 ⟨rfl, hb1⟩; have HB1 := Lib.hid hb1; clear hb1)
              | (go_at_call 108; (with_reducible refine (HQ.out _).mono ?_); rintro e w2 ⟨rfl, hb2⟩; have HB2 := Lib.hid hb2; clear hb2))
            go_ret
            exact ⟨by rw [HS2.out]; rfl, below_next HB1.out HB2.out⟩
        · rw [decide_eq_false h3] at hbe
          rw [eq_false h3] at hbp
          have HS := Lib.hid (show starB L = false by unfold starB; rw [decide_eq_false h3]; simp)
          generalize L.take 2 = T at hsh hbe hbp
          clear h3
          go_enter Tryz.func87, Tryz.ntmps87
          go_wp2_with (go_at_call 108; (with_reducible refine (HD.out _).mono ?_); rintro e w1 ⟨rfl, hb1⟩; have HB1 := Lib.hid hb1; clear hb1)
          go_ret
          exact ⟨by rw [HS.out]; rfl, HB1.out⟩
      · have d2 : decide ((2 : Int) < (L.length : Int)) = false := by simp; omega
        have HS := Lib.hid (show starB L = false by unfold starB; rw [decide_eq_false h2]; simp)
        go_enter Tryz.func87, Tryz.ntmps87
        go_wp2_with (go_at_call 108; (with_reducible refine (HD.out _).mono ?_); rintro e w1 ⟨rfl, hb1⟩; have HB1 := Lib.hid hb1; clear hb1)
        go_ret
        exact ⟨by rw [HS.out]; rfl, HB1.out⟩
    · have d1 : decide ((L.length : Int) ≤ (128 : Int)) = false := by simp; omega
      have HS := Lib.hid (show starB L = false by unfold starB; rw [decide_eq_false h1]; simp)
      go_enter Tryz.func87, Tryz.ntmps87
      go_wp2_with (go_at_call 108; (with_reducible refine (HD.out _).mono ?_); rintro e w1 ⟨rfl, hb1⟩; have HB1 := Lib.hid hb1; clear hb1)
      go_ret
      exact ⟨by rw [HS.out]; rfl, HB1.out⟩

set_option maxRecDepth 100000 in
set_option maxHeartbeats 2000000 in
theorem rbase_any (L : List UInt8) (hL : L.length ≤ 100000) (w : World) :
    Calls Tryz.prog 88 #[.string (strOf L)] w fun e w' => e = .returned (.bool (baseB L)) ∧ Below w.heap.size w w' := by
  have hbe : (strOf L).toList.isEmpty = decide (L = []) := by
    rw [toList_of]
    cases L <;> rfl
  have hbp : ((strOf L).toList = []) = (L = []) := by rw [toList_of]
  have HD := Lib.hid (fun w => rdns_any L hL w)
  by_cases h : L = []
  · rw [decide_eq_true h] at hbe
    rw [eq_true h] at hbp
    have HE := Lib.hid (show baseB L = true by unfold baseB; rw [decide_eq_true h]; rfl)
    clear h
    go_enter Tryz.func88, Tryz.ntmps88
    go_wp2_with fail
    go_ret
    exact ⟨by rw [HE.out]; rfl, Below.refl _ _⟩
  · rw [decide_eq_false h] at hbe
    rw [eq_false h] at hbp
    have HE := Lib.hid (show baseB L = dnsB L by unfold baseB; rw [decide_eq_false h]; rfl)
    clear h
    go_enter Tryz.func88, Tryz.ntmps88
    go_wp2_with (go_at_call 108; (with_reducible refine (HD.out _).mono ?_); rintro e w1 ⟨rfl, hb1⟩; have HB1 := Lib.hid hb1; clear hb1)
    go_ret
    exact ⟨by rw [HE.out]; rfl, HB1.out⟩
end Go.Proofs.YtofadgmnjckpcaaGreatDoor
namespace Go.Proofs.YtofadgmnjckpcaaGreatDoor
open Go.RowKit

theorem rpat_is {L : List UInt8} {b : Bool} (h : patB L = b) (hL : L.length ≤ 100000) (w : World) :
    Calls Tryz.prog 87 #[.string (strOf L)] w fun e w' => e = .returned (.bool b) ∧ Below w.heap.size w w' := by
  have := rpat_any L hL w
  rwa [h] at this
theorem ralike_is {a b : List UInt8} {c : Bool} (h : alikeB a b = c) (ha : a.length ≤ 1000000) (hb : b.length ≤ 1000000) (w : World) :
    Calls Tryz.prog 78 #[.string (strOf a), .string (strOf b)] w fun e w' => e = .returned (.bool c) ∧ Below w.heap.size w w' := by
  have := ralike_any a b ha hb w
  rwa [h] at this
end Go.Proofs.YtofadgmnjckpcaaGreatDoor
namespace Go.Proofs.YtofadgmnjckpcaaGreatDoor
open Go.RowKit

theorem rbase_is {L : List UInt8} {b : Bool} (h : baseB L = b) (hL : L.length ≤ 100000) (w : World) :
    Calls Tryz.prog 88 #[.string (strOf L)] w fun e w' => e = .returned (.bool b) ∧ Below w.heap.size w w' := by
  have := rbase_any L hL w
  rwa [h] at this
/-- A string that is empty, and one that is not: what the walk asks. -/
theorem empty_is {L : List UInt8} (h : L = []) : (strOf L).toList.isEmpty = true ∧ ((strOf L).toList = []) = True := by subst h; rw [toList_of]; exact ⟨rfl, by simp⟩
theorem empty_not {L : List UInt8} (h : L ≠ []) : (strOf L).toList.isEmpty = false ∧ ((strOf L).toList = []) = False := by
  rw [toList_of]
  cases L with
  | nil => exact absurd rfl h
  | cons c r => exact ⟨rfl, by simp⟩
theorem dot_of (L : List UInt8) (h : L.length ≤ 100000) (w : World) : (Op.stringOp .add ⟨#[46]⟩ (strOf L)).run Tryz.prog w = .ok (.string (strOf (46 :: L))) w := by
  rw [run_string_add_sum w _ _ (by rw [strOf_size]; show 1 + L.length ≤ _; omega)]
  have := str_cat [46] L
  rw [show strOf [46] = ⟨#[46]⟩ from rfl] at this
  rw [this]
  rfl
def firstArg (s : List UInt8) : Bool := decide (s = []) || patB s
theorem within_def (s b : List UInt8) : dnsWithinB s b = (firstArg s && baseB b && (decide (b = []) || alikeB s b || endsB s (46 :: b))) := rfl

set_option maxRecDepth 100000 in
set_option maxHeartbeats 2000000 in
theorem rwithin_any (s b : List UInt8) (hs : s.length ≤ 100000) (hb : b.length ≤ 100000) (w : World) :
    Calls Tryz.prog 67 #[.string (strOf s), .string (strOf b)] w fun e w' => e = .returned (.bool (dnsWithinB s b)) ∧ Below w.heap.size w w' := by
  have HSS := Lib.hid hs
  have HBB := Lib.hid hb
  have HS6 := Lib.hid (show s.length ≤ 1000000 by omega)
  have HB6 := Lib.hid (show b.length ≤ 1000000 by omega)
  have HB7 := Lib.hid (show (46 :: b).length ≤ 1000000 by simp; omega)
  have hcat := fun w => dot_of b hb w
  by_cases h0 : s = []
  · obtain ⟨f1, f2⟩ := empty_is h0
    cases h2 : baseB b with
    | false =>
      have HE := Lib.hid (show dnsWithinB s b = false by rw [within_def, h2, Bool.and_false, Bool.false_and])
      have HB := Lib.hid (fun w => rbase_is h2 hb w)
      clear h0 h2
      go_enter Tryz.func67, Tryz.ntmps67
      go_wp2_with (go_at_call 88; (with_reducible refine (HB.out _).mono ?_); rintro e w2 ⟨rfl, hb2⟩; have HB2 := Lib.hid hb2; clear hb2)
      go_ret
      exact ⟨by rw [HE.out]; rfl, HB2.out⟩
    | true =>
      have HB := Lib.hid (fun w => rbase_is h2 hb w)
      by_cases h3 : b = []
      · obtain ⟨f3, f4⟩ := empty_is h3
        have HE := Lib.hid (show dnsWithinB s b = true by rw [within_def, h2, firstArg, decide_eq_true h0, decide_eq_true h3]; rfl)
        clear h0 h2 h3
        go_enter Tryz.func67, Tryz.ntmps67
        go_wp2_with (go_at_call 88; (with_reducible refine (HB.out _).mono ?_); rintro e w2 ⟨rfl, hb2⟩; have HB2 := Lib.hid hb2; clear hb2)
        go_ret
        exact ⟨by rw [HE.out]; rfl, HB2.out⟩
      · obtain ⟨f3, f4⟩ := empty_not h3
        have HE := Lib.hid (show dnsWithinB s b = (alikeB s b || endsB s (46 :: b)) by rw [within_def, h2, firstArg, decide_eq_true h0, decide_eq_false h3]; rfl)
        clear h0 h2 h3
        cases h4 : alikeB s b with
        | true =>
          rw [h4] at HE
          have HA := Lib.hid (fun w => ralike_is h4 HS6.out HB6.out w)
          clear h4
          go_enter Tryz.func67, Tryz.ntmps67
          go_wp2_with (first
            | (go_at_call 88; (with_reducible refine (HB.out _).mono ?_); rintro e w2 ⟨rfl, hb2⟩; have HB2 := Lib.hid hb2; clear hb2)
            | (go_at_call 78; (with_reducible refine (HA.out _).mono ?_); rintro e w3 ⟨rfl, hb3⟩; have HB3 := Lib.hid hb3; clear hb3))
          go_ret
          exact ⟨by rw [HE.out]; rfl, below_next HB2.out HB3.out⟩
        | false =>
          rw [h4] at HE
          have HA := Lib.hid (fun w => ralike_is h4 HS6.out HB6.out w)
          clear h4
          go_enter Tryz.func67, Tryz.ntmps67
          go_wp2_with (first
            | (go_at_call 88; (with_reducible refine (HB.out _).mono ?_); rintro e w2 ⟨rfl, hb2⟩; have HB2 := Lib.hid hb2; clear hb2)
            | (go_at_call 78; (with_reducible refine (HA.out _).mono ?_); rintro e w3 ⟨rfl, hb3⟩; have HB3 := Lib.hid hb3; clear hb3)
            | (go_at_call 86; (with_reducible refine (rends_any s (46 :: b) HS6.out HB7.out _).mono ?_); rintro e w4 ⟨rfl, hb4⟩; have HB4 := Lib.hid hb4; clear hb4))
          go_ret
          exact ⟨by rw [HE.out]; rfl, below_next (below_next HB2.out HB3.out) HB4.out⟩
  · obtain ⟨f1, f2⟩ := empty_not h0
    cases h1 : patB s with
    | false =>
      have HE := Lib.hid (show dnsWithinB s b = false by rw [within_def, firstArg, h1, decide_eq_false h0]; rfl)
      have HP := Lib.hid (fun w => rpat_is h1 hs w)
      clear h0 h1
      go_enter Tryz.func67, Tryz.ntmps67
      go_wp2_with (go_at_call 87; (with_reducible refine (HP.out _).mono ?_); rintro e w1 ⟨rfl, hb1⟩; have HB1 := Lib.hid hb1; clear hb1)
      go_ret
      exact ⟨by rw [HE.out]; rfl, HB1.out⟩
    | true =>
      have HP := Lib.hid (fun w => rpat_is h1 hs w)
      cases h2 : baseB b with
      | false =>
        have HE := Lib.hid (show dnsWithinB s b = false by rw [within_def, h2, Bool.and_false, Bool.false_and])
        have HB := Lib.hid (fun w => rbase_is h2 hb w)
        clear h0 h1 h2
        go_enter Tryz.func67, Tryz.ntmps67
        go_wp2_with (first
          | (go_at_call 87; (with_reducible refine (HP.out _).mono ?_); rintro e w1 ⟨rfl, hb1⟩; have HB1 := Lib.hid hb1; clear hb1)
          | (go_at_call 88; (with_reducible refine (HB.out _).mono ?_); rintro e w2 ⟨rfl, hb2⟩; have HB2 := Lib.hid hb2; clear hb2))
        go_ret
        exact ⟨by rw [HE.out]; rfl, below_next HB1.out HB2.out⟩
      | true =>
        have HB := Lib.hid (fun w => rbase_is h2 hb w)
        by_cases h3 : b = []
        · obtain ⟨f3, f4⟩ := empty_is h3
          have HE := Lib.hid (show dnsWithinB s b = true by rw [within_def, h2, firstArg, h1, decide_eq_true h3]; simp)
          clear h0 h1 h2 h3
          go_enter Tryz.func67, Tryz.ntmps67
          go_wp2_with (first
            | (go_at_call 87; (with_reducible refine (HP.out _).mono ?_); rintro e w1 ⟨rfl, hb1⟩; have HB1 := Lib.hid hb1; clear hb1)
            | (go_at_call 88; (with_reducible refine (HB.out _).mono ?_); rintro e w2 ⟨rfl, hb2⟩; have HB2 := Lib.hid hb2; clear hb2))
          go_ret
          exact ⟨by rw [HE.out]; rfl, below_next HB1.out HB2.out⟩
        · obtain ⟨f3, f4⟩ := empty_not h3
          have HE := Lib.hid (show dnsWithinB s b = (alikeB s b || endsB s (46 :: b)) by rw [within_def, h2, firstArg, h1, decide_eq_false h3]; simp)
          clear h0 h1 h2 h3
          cases h4 : alikeB s b with
          | true =>
            rw [h4] at HE
            have HA := Lib.hid (fun w => ralike_is h4 HS6.out HB6.out w)
            clear h4
            go_enter Tryz.func67, Tryz.ntmps67
            go_wp2_with (first
              | (go_at_call 87; (with_reducible refine (HP.out _).mono ?_); rintro e w1 ⟨rfl, hb1⟩; have HB1 := Lib.hid hb1; clear hb1)
              | (go_at_call 88; (with_reducible refine (HB.out _).mono ?_); rintro e w2 ⟨rfl, hb2⟩; have HB2 := Lib.hid hb2; clear hb2)
              | (go_at_call 78; (with_reducible refine (HA.out _).mono ?_); rintro e w3 ⟨rfl, hb3⟩; have HB3 := Lib.hid hb3; clear hb3))
            go_ret
            exact ⟨by rw [HE.out]; rfl, below_next (below_next HB1.out HB2.out) HB3.out⟩
          | false =>
            rw [h4] at HE
            have HA := Lib.hid (fun w => ralike_is h4 HS6.out HB6.out w)
            clear h4
            go_enter Tryz.func67, Tryz.ntmps67
            go_wp2_with (first
              | (go_at_call 87; (with_reducible refine (HP.out _).mono ?_); rintro e w1 ⟨rfl, hb1⟩; have HB1 := Lib.hid hb1; clear hb1)
              | (go_at_call 88; (with_reducible refine (HB.out _).mono ?_); rintro e w2 ⟨rfl, hb2⟩; have HB2 := Lib.hid hb2; clear hb2)
              | (go_at_call 78; (with_reducible refine (HA.out _).mono ?_); rintro e w3 ⟨rfl, hb3⟩; have HB3 := Lib.hid hb3; clear hb3)
              | (go_at_call 86; (with_reducible refine (rends_any s (46 :: b) HS6.out HB7.out _).mono ?_); rintro e w4 ⟨rfl, hb4⟩; have HB4 := Lib.hid hb4; clear hb4))
            go_ret
            exact ⟨by rw [HE.out]; rfl, below_next (below_next (below_next HB1.out HB2.out) HB3.out) HB4.out⟩
end Go.Proofs.YtofadgmnjckpcaaGreatDoor
